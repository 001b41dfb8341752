import PyProof.Rows.All
import Wide.All
import OpenK.AllK
import Wide.FinOn
import KE.KStateDown
import HandS.Head0
import HandS.Head1
import HandS.Head2
import HandS.HeadEnd
import HandS.HeadHook1
import HandS.HeadHook2
import HandS.Base
import HandS.Call
import HandS.List
import HandS.Comp
import HandS.Iter
import HandS.IsInst
import HandS.Wide
import HandS.More
import HandS.ExcInit
import HandS.ExcOwn
import KE.KeyNested
import HandS.TupAny
import HandS.Deep
import HandS.TupMul
import HandS.Style
import HandS.Zip
import HandS.Walk
import HandS.Words
import HandS.WordsExc
import HandS.Defaults
import HandS.ExcCtx
import HandS.TupSets
import PyProof.LongRange
import PyProof.RangeFor
import HandS.Dict
import HandS.TupLen
import KE.KDictDisplayH
import KE.SortData
import HandS.DictTup
import KE.KDictZip
import HandS.DictComp
import PyProof.DictMoreH
import HandS.SetKeys
import PyProof.ListRange
import HandS.Sort
import HandS.WordsDict
import HandS.Small
import PyProof.Rows.RuleB_pow
import HandS.Text
import HandS.FStr
import HandS.EndBits
import PyProof.AutoSeq1
import HandS.Steps
import HandS.StrMore
import PySem.Challenge.RW_squarethreads_k45_whole_texts_there_and
set_option Elab.async false
set_option linter.all false
set_option maxRecDepth 100000
set_option maxHeartbeats 4000000
namespace Lz
open PySem PySem.Spec PyProof.Rows L2
def top (i : Nat) : Stmt := PySem.Challenge.pw_squarethreads_k45_whole_texts_there_and.main.body.getD i (.Pass ⟨0, 0, 0, 0⟩)
abbrev s_is_whole : Stmt := top 4
abbrev s_is_count : Stmt := top 5
abbrev s_is_index : Stmt := top 6
abbrev s_is_book : Stmt := top 8
abbrev s__is_kind : Stmt := top 9
abbrev s__is_part : Stmt := top 10
abbrev s_places_of : Stmt := top 11
abbrev s_is_posture : Stmt := top 12
abbrev s_is_turn : Stmt := top 13
abbrev s_is_field : Stmt := top 15
abbrev s__is_square : Stmt := top 16
abbrev s_is_box : Stmt := top 18
abbrev s_read_book : Stmt := top 21
abbrev s__told_book : Stmt := top 22
abbrev s__told_b : Stmt := top 23
abbrev s_told_integer : Stmt := top 24
abbrev s__told_integers : Stmt := top 25
abbrev s__told_rows : Stmt := top 26
abbrev s_read_cell : Stmt := top 27
abbrev s__first_line : Stmt := top 28
abbrev s__alone : Stmt := top 29
abbrev s_read_box : Stmt := top 30
abbrev s__told_box : Stmt := top 31
abbrev s_read_spans : Stmt := top 32
abbrev s__told_spans : Stmt := top 33
abbrev s_read_field : Stmt := top 34
abbrev s__told_squares : Stmt := top 35
abbrev s_read_make : Stmt := top 36
abbrev s__told_make : Stmt := top 37
abbrev s_show_book : Stmt := top 39
abbrev s_show_integers : Stmt := top 40
abbrev s__show_rows : Stmt := top 41
abbrev s_show_cell : Stmt := top 42
abbrev s_show_box : Stmt := top 43
abbrev s_show_spans : Stmt := top 44
abbrev s_show_field : Stmt := top 45
abbrev s_show_make : Stmt := top 46
abbrev s__law_well : Stmt := top 48
abbrev s__law_draw : Stmt := top 49
abbrev s__law_same : Stmt := top 50
abbrev s__law_power : Stmt := top 51
abbrev s__law_order : Stmt := top 52
abbrev s__law_kind : Stmt := top 53
abbrev s__law_book : Stmt := top 54
abbrev s__law_integer : Stmt := top 55
abbrev s__law_above : Stmt := top 56
abbrev s__law_squares : Stmt := top 57
abbrev s__law_door : Stmt := top 58
abbrev s__law_said : Stmt := top 59
abbrev s__law_said_parts : Stmt := top 60
abbrev s__law_said_book : Stmt := top 61
abbrev s__law_said_field : Stmt := top 62
abbrev s__law_read : Stmt := top 63
abbrev s__law_shown : Stmt := top 64
abbrev s_law : Stmt := top 65
def d_is_whole : He.DefD := ⟨("is_whole", none), "is_whole", "is_whole", defArgs s_is_whole, defBody s_is_whole, defScope s_is_whole, [], []⟩
def d_is_count : He.DefD := ⟨("is_count", none), "is_count", "is_count", defArgs s_is_count, defBody s_is_count, defScope s_is_count, [], []⟩
def d_is_index : He.DefD := ⟨("is_index", none), "is_index", "is_index", defArgs s_is_index, defBody s_is_index, defScope s_is_index, [], []⟩
def d_is_book : He.DefD := ⟨("is_book", none), "is_book", "is_book", defArgs s_is_book, defBody s_is_book, defScope s_is_book, [], []⟩
def d__is_kind : He.DefD := ⟨("_is_kind", none), "_is_kind", "_is_kind", defArgs s__is_kind, defBody s__is_kind, defScope s__is_kind, [], []⟩
def d__is_part : He.DefD := ⟨("_is_part", none), "_is_part", "_is_part", defArgs s__is_part, defBody s__is_part, defScope s__is_part, [], []⟩
def d_places_of : He.DefD := ⟨("places_of", none), "places_of", "places_of", defArgs s_places_of, defBody s_places_of, defScope s_places_of, [], []⟩
def d_is_posture : He.DefD := ⟨("is_posture", none), "is_posture", "is_posture", defArgs s_is_posture, defBody s_is_posture, defScope s_is_posture, [], []⟩
def d_is_turn : He.DefD := ⟨("is_turn", none), "is_turn", "is_turn", defArgs s_is_turn, defBody s_is_turn, defScope s_is_turn, [], []⟩
def d_is_field : He.DefD := ⟨("is_field", none), "is_field", "is_field", defArgs s_is_field, defBody s_is_field, defScope s_is_field, [], []⟩
def d__is_square : He.DefD := ⟨("_is_square", none), "_is_square", "_is_square", defArgs s__is_square, defBody s__is_square, defScope s__is_square, [], []⟩
def d_is_box : He.DefD := ⟨("is_box", none), "is_box", "is_box", defArgs s_is_box, defBody s_is_box, defScope s_is_box, [], []⟩
def d_read_book : He.DefD := ⟨("read_book", none), "read_book", "read_book", defArgs s_read_book, defBody s_read_book, defScope s_read_book, [], []⟩
def d__told_book : He.DefD := ⟨("_told_book", none), "_told_book", "_told_book", defArgs s__told_book, defBody s__told_book, defScope s__told_book, [], []⟩
def d__told_b : He.DefD := ⟨("_told_b", none), "_told_b", "_told_b", defArgs s__told_b, defBody s__told_b, defScope s__told_b, [], []⟩
def d_told_integer : He.DefD := ⟨("told_integer", none), "told_integer", "told_integer", defArgs s_told_integer, defBody s_told_integer, defScope s_told_integer, [], []⟩
def d__told_integers : He.DefD := ⟨("_told_integers", none), "_told_integers", "_told_integers", defArgs s__told_integers, defBody s__told_integers, defScope s__told_integers, [], []⟩
def d__told_rows : He.DefD := ⟨("_told_rows", none), "_told_rows", "_told_rows", defArgs s__told_rows, defBody s__told_rows, defScope s__told_rows, [], []⟩
def d_read_cell : He.DefD := ⟨("read_cell", none), "read_cell", "read_cell", defArgs s_read_cell, defBody s_read_cell, defScope s_read_cell, [], []⟩
def d__first_line : He.DefD := ⟨("_first_line", none), "_first_line", "_first_line", defArgs s__first_line, defBody s__first_line, defScope s__first_line, [], []⟩
def d__alone : He.DefD := ⟨("_alone", none), "_alone", "_alone", defArgs s__alone, defBody s__alone, defScope s__alone, [], []⟩
def d_read_box : He.DefD := ⟨("read_box", none), "read_box", "read_box", defArgs s_read_box, defBody s_read_box, defScope s_read_box, [], []⟩
def d__told_box : He.DefD := ⟨("_told_box", none), "_told_box", "_told_box", defArgs s__told_box, defBody s__told_box, defScope s__told_box, [], []⟩
def d_read_spans : He.DefD := ⟨("read_spans", none), "read_spans", "read_spans", defArgs s_read_spans, defBody s_read_spans, defScope s_read_spans, [], []⟩
def d__told_spans : He.DefD := ⟨("_told_spans", none), "_told_spans", "_told_spans", defArgs s__told_spans, defBody s__told_spans, defScope s__told_spans, [], []⟩
def d_read_field : He.DefD := ⟨("read_field", none), "read_field", "read_field", defArgs s_read_field, defBody s_read_field, defScope s_read_field, [], []⟩
def d__told_squares : He.DefD := ⟨("_told_squares", none), "_told_squares", "_told_squares", defArgs s__told_squares, defBody s__told_squares, defScope s__told_squares, [], []⟩
def d_read_make : He.DefD := ⟨("read_make", none), "read_make", "read_make", defArgs s_read_make, defBody s_read_make, defScope s_read_make, [], []⟩
def d__told_make : He.DefD := ⟨("_told_make", none), "_told_make", "_told_make", defArgs s__told_make, defBody s__told_make, defScope s__told_make, [], []⟩
def d_show_book : He.DefD := ⟨("show_book", none), "show_book", "show_book", defArgs s_show_book, defBody s_show_book, defScope s_show_book, [], []⟩
def d_show_integers : He.DefD := ⟨("show_integers", none), "show_integers", "show_integers", defArgs s_show_integers, defBody s_show_integers, defScope s_show_integers, [], []⟩
def d__show_rows : He.DefD := ⟨("_show_rows", none), "_show_rows", "_show_rows", defArgs s__show_rows, defBody s__show_rows, defScope s__show_rows, [], []⟩
def d_show_cell : He.DefD := ⟨("show_cell", none), "show_cell", "show_cell", defArgs s_show_cell, defBody s_show_cell, defScope s_show_cell, [], []⟩
def d_show_box : He.DefD := ⟨("show_box", none), "show_box", "show_box", defArgs s_show_box, defBody s_show_box, defScope s_show_box, [], []⟩
def d_show_spans : He.DefD := ⟨("show_spans", none), "show_spans", "show_spans", defArgs s_show_spans, defBody s_show_spans, defScope s_show_spans, [], []⟩
def d_show_field : He.DefD := ⟨("show_field", none), "show_field", "show_field", defArgs s_show_field, defBody s_show_field, defScope s_show_field, [], []⟩
def d_show_make : He.DefD := ⟨("show_make", none), "show_make", "show_make", defArgs s_show_make, defBody s_show_make, defScope s_show_make, [], []⟩
def d__law_well : He.DefD := ⟨("_law_well", none), "_law_well", "_law_well", defArgs s__law_well, defBody s__law_well, defScope s__law_well, [], []⟩
def d__law_draw : He.DefD := ⟨("_law_draw", none), "_law_draw", "_law_draw", defArgs s__law_draw, defBody s__law_draw, defScope s__law_draw, [], []⟩
def d__law_same : He.DefD := ⟨("_law_same", none), "_law_same", "_law_same", defArgs s__law_same, defBody s__law_same, defScope s__law_same, [], []⟩
def d__law_power : He.DefD := ⟨("_law_power", none), "_law_power", "_law_power", defArgs s__law_power, defBody s__law_power, defScope s__law_power, [], []⟩
def d__law_order : He.DefD := ⟨("_law_order", none), "_law_order", "_law_order", defArgs s__law_order, defBody s__law_order, defScope s__law_order, [], []⟩
def d__law_kind : He.DefD := ⟨("_law_kind", none), "_law_kind", "_law_kind", defArgs s__law_kind, defBody s__law_kind, defScope s__law_kind, [], []⟩
def d__law_book : He.DefD := ⟨("_law_book", none), "_law_book", "_law_book", defArgs s__law_book, defBody s__law_book, defScope s__law_book, [], []⟩
def d__law_integer : He.DefD := ⟨("_law_integer", none), "_law_integer", "_law_integer", defArgs s__law_integer, defBody s__law_integer, defScope s__law_integer, [], []⟩
def d__law_above : He.DefD := ⟨("_law_above", none), "_law_above", "_law_above", defArgs s__law_above, defBody s__law_above, defScope s__law_above, [], []⟩
def d__law_squares : He.DefD := ⟨("_law_squares", none), "_law_squares", "_law_squares", defArgs s__law_squares, defBody s__law_squares, defScope s__law_squares, [], []⟩
def d__law_door : He.DefD := ⟨("_law_door", none), "_law_door", "_law_door", defArgs s__law_door, defBody s__law_door, defScope s__law_door, [], []⟩
def d__law_said : He.DefD := ⟨("_law_said", none), "_law_said", "_law_said", defArgs s__law_said, defBody s__law_said, defScope s__law_said, [], []⟩
def d__law_said_parts : He.DefD := ⟨("_law_said_parts", none), "_law_said_parts", "_law_said_parts", defArgs s__law_said_parts, defBody s__law_said_parts, defScope s__law_said_parts, [], []⟩
def d__law_said_book : He.DefD := ⟨("_law_said_book", none), "_law_said_book", "_law_said_book", defArgs s__law_said_book, defBody s__law_said_book, defScope s__law_said_book, [], []⟩
def d__law_said_field : He.DefD := ⟨("_law_said_field", none), "_law_said_field", "_law_said_field", defArgs s__law_said_field, defBody s__law_said_field, defScope s__law_said_field, [], []⟩
def d__law_read : He.DefD := ⟨("_law_read", none), "_law_read", "_law_read", defArgs s__law_read, defBody s__law_read, defScope s__law_read, [], []⟩
def d__law_shown : He.DefD := ⟨("_law_shown", none), "_law_shown", "_law_shown", defArgs s__law_shown, defBody s__law_shown, defScope s__law_shown, [], []⟩
def d_law : He.DefD := ⟨("law", none), "law", "law", defArgs s_law, defBody s_law, defScope s_law, [], []⟩
def fn : List He.DefD := [d_is_whole, d_is_count, d_is_index, d_is_book, d__is_kind, d__is_part, d_places_of, d_is_posture, d_is_turn, d_is_field, d__is_square, d_is_box, d_read_book, d__told_book, d__told_b, d_told_integer, d__told_integers, d__told_rows, d_read_cell, d__first_line, d__alone, d_read_box, d__told_box, d_read_spans, d__told_spans, d_read_field, d__told_squares, d_read_make, d__told_make, d_show_book, d_show_integers, d__show_rows, d_show_cell, d_show_box, d_show_spans, d_show_field, d_show_make, d__law_well, d__law_draw, d__law_same, d__law_power, d__law_order, d__law_kind, d__law_book, d__law_integer, d__law_above, d__law_squares, d__law_door, d__law_said, d__law_said_parts, d__law_said_book, d__law_said_field, d__law_read, d__law_shown, d_law]
def fa : List He.Fa := [.glo "is_whole", .glo "is_count", .glo "is_index", .glo "is_book", .glo "_is_kind", .glo "_is_part", .glo "places_of", .glo "is_posture", .glo "is_turn", .glo "is_field", .glo "_is_square", .glo "is_box", .glo "read_book", .glo "_told_book", .glo "_told_b", .glo "told_integer", .glo "_told_integers", .glo "_told_rows", .glo "read_cell", .glo "_first_line", .glo "_alone", .glo "read_box", .glo "_told_box", .glo "read_spans", .glo "_told_spans", .glo "read_field", .glo "_told_squares", .glo "read_make", .glo "_told_make", .glo "show_book", .glo "show_integers", .glo "_show_rows", .glo "show_cell", .glo "show_box", .glo "show_spans", .glo "show_field", .glo "show_make", .glo "_law_well", .glo "_law_draw", .glo "_law_same", .glo "_law_power", .glo "_law_order", .glo "_law_kind", .glo "_law_book", .glo "_law_integer", .glo "_law_above", .glo "_law_squares", .glo "_law_door", .glo "_law_said", .glo "_law_said_parts", .glo "_law_said_book", .glo "_law_said_field", .glo "_law_read", .glo "_law_shown", .glo "law", .free "ValueError", .free "abs", .free "all", .free "bool", .free "int", .free "isinstance", .free "len", .free "list", .free "max", .free "min", .free "range", .free "set", .free "str", .free "tuple", .int "MOST_DIGITS" 40]
def loose : List PySem.Str := (["__name__", "ThreadError", "Unreadable", "is_whole", "is_count", "is_index", "is_book", "_is_kind", "_is_part", "places_of", "is_posture", "is_turn", "is_field", "_is_square", "is_box", "MOST_DIGITS", "read_book", "_told_book", "_told_b", "told_integer", "_told_integers", "_told_rows", "read_cell", "_first_line", "_alone", "read_box", "_told_box", "read_spans", "_told_spans", "read_field"] : List PySem.Str) ++ (["_told_squares", "read_make", "_told_make", "show_book", "show_integers", "_show_rows", "show_cell", "show_box", "show_spans", "show_field", "show_make", "_law_well", "_law_draw", "_law_same", "_law_power", "_law_order", "_law_kind", "_law_book", "_law_integer", "_law_above", "_law_squares", "_law_door", "_law_said", "_law_said_parts", "_law_said_book", "_law_said_field", "_law_read", "_law_shown"] : List PySem.Str)
abbrev R : PySem.W.OpenRow := PySem.W.OpenLaw.row PySem.Challenge.rw_squarethreads_k45_whole_texts_there_and
abbrev hk : PySem.W.Hook := He.hookD 4 fa fn
def ob (s : PySem.W.SharedT) : He.AlD := He.obsDG 4 fa fn (HandSHeadRun.getT s)
theorem ob_eq (s : PySem.W.SharedT) : ob s = hk.obs s.abs := He.obsDG_eq (HandSHeadRun.getT_eq s)
theorem run (w : World) : HandSHeadRun.RunEq R (PySem.W.view R.prog [65]) hk ob 4000 loose w := by
  intro os
  kernel_rfl

end Lz
set_option Elab.async false
set_option linter.all false
set_option maxRecDepth 100000
namespace Ev
open PySem PySem.Spec PyProof.Rows L2

abbrev T := PyData
abbrev Sg := L2.St
/-- the one object of a dict whose keys are ints and tuples of such, nested -/
def nObj (d : Addr) (xs : List (NestedKey × Addr × V)) : HO := .ext fun h => xs.length ≤ sizeLine ∧ (d == sysModules) = false ∧
  ∃ (ys : List (NestedKey × Addr × Value)), Paired (fun (a : NestedKey × Addr × V) (b : NestedKey × Addr × Value) => a.1 = b.1 ∧ a.2.1 = b.2.1 ∧ RelV a.2.2 b.2.2) xs ys ∧
    ∃ (P : Program) (w : World) (o : Obj) (es : Array DictEntry) (ep : Nat), h.get? d = some o ∧ o.ExactDict ∧ o.data = .dict es ep ∧ es.toList = ys.map (entryOfKey (nestedKind P w)) ∧ (ys.map (·.1)).Nodup
/-- a thing that a name alone holds -/
inductive Bx where
  | l (xs : List T)
  | d (kvs : List (T × T))
  | m (kvs : List (T × T))
  | n (kvs : List (T × T))
def Bx.t : Bx → T
  | .l xs => .list xs
  | .d kvs => .dict kvs
  | .m kvs => .dict kvs
  | .n kvs => .dict kvs
/-- what a name holds -/
inductive Sl where
  | un
  | v (t : T)
  | ow (lent : Bool) (b : Bx)
  | fz (b : Bx)
abbrev En := List Sl
inductive Out (α : Type) where
  | ok (a : α) (e : En)
  | exc (c : Str) (t : T) (e : En)
  | bad
@[simp] def Out.bind {α β : Type} : Out α → (α → En → Out β) → Out β
  | .ok a e, f => f a e
  | .exc c t e, _ => .exc c t e
  | .bad, _ => .bad
/-- what an expression yields: a tree, what the name i holds, a new thing -/
inductive Od where
  | r (t : T)
  | s (i : Nat)
  | b (b : Bx)

/-- a key of a dict as a tree -/
def kyT : Key → T
  | .inl i => .int i
  | .inr x => .str x
mutual
/-- a value is a tree; its tuples are known as such -/
inductive Dp (K : PySem.W.Frag) (H : Hp) : V → PyData → Prop
  | non : Dp K H .non .none
  | bl (b : Bool) : Dp K H (.bl b) (.bool b)
  | int (i : Int) : Dp K H (.int i) (.int i)
  | str (x : Str) : Dp K H (.str x) (.str x)
  | lst {a : Addr} {xs : List V} {ds : List PyData} : SqL K H a xs → DpAll K H xs ds → Dp K H (.ref a) (.list ds)
  | tup {a : Addr} {xs : List V} {ds : List PyData} : H a = some (.tup xs) → DpAll K H xs ds → Dp K H (.ref a) (.tuple ds)
  | dct {a : Addr} {ks : List (List Key × V)} {kvs : List (PyData × PyData)} : H a = some (.dT ks) → DpKvs K H ks kvs → Dp K H (.ref a) (.dict kvs)
inductive DpAll (K : PySem.W.Frag) (H : Hp) : List V → List PyData → Prop
  | nil : DpAll K H [] []
  | cons {v : V} {vs : List V} {d : PyData} {ds : List PyData} : Dp K H v d → DpAll K H vs ds → DpAll K H (v :: vs) (d :: ds)
inductive DpKvs (K : PySem.W.Frag) (H : Hp) : List (List Key × V) → List (PyData × PyData) → Prop
  | nil : DpKvs K H [] []
  | cons {k : List Key} {v : V} {ks : List (List Key × V)} {d : PyData} {kvs : List (PyData × PyData)} : Dp K H v d → DpKvs K H ks kvs → DpKvs K H ((k, v) :: ks) ((.tuple (k.map kyT), d) :: kvs)
end
mutual
/-- no dict in it -/
def noD : T → Bool
  | .dict _ => false
  | .list ts => noDs ts
  | .tuple ts => noDs ts
  | .none => true
  | .bool _ => true
  | .int _ => true
  | .str _ => true
def noDs : List T → Bool
  | [] => true
  | t :: ts => noD t && noDs ts
end
mutual
theorem noD_lay : ∀ t : T, t.canLay0 = true → noD t = true
  | .none, _ => rfl
  | .bool _, _ => rfl
  | .int _, _ => rfl
  | .str _, _ => rfl
  | .list ts, c => by simp only [noD]; exact noDs_lay ts (by simpa [PyData.canLay0] using c)
  | .tuple ts, c => by simp only [noD]; exact noDs_lay ts (by simpa [PyData.canLay0] using c)
  | .dict _, c => nomatch c
theorem noDs_lay : ∀ ts : List T, PyData.canLayAll0 ts = true → noDs ts = true
  | [], _ => rfl
  | t :: ts, c => by
    have c' : t.canLay0 = true ∧ PyData.canLayAll0 ts = true := by simpa [PyData.canLayAll0] using c
    simp only [noDs, noD_lay t c'.1, noDs_lay ts c'.2, Bool.and_self]
end
mutual
theorem dp_hand {K : PySem.W.Frag} {H : Hp} : ∀ (t : T) {v : V}, noD t = true → Dp K H v t → L2.Dp K H v t
  | .none, _, _, h => by cases h; exact .non
  | .bool _, _, _, h => by cases h; exact .bl _
  | .int _, _, _, h => by cases h; exact .int _
  | .str _, _, _, h => by cases h; exact .str _
  | .list ts, _, c, h => by cases h with | lst a b => exact .lst a (dpAll_hand ts (by simpa [noD] using c) b)
  | .tuple ts, _, c, h => by cases h with | tup a b => exact .tup (SqT.of a) (dpAll_hand ts (by simpa [noD] using c) b)
  | .dict _, _, c, _ => nomatch c
theorem dpAll_hand {K : PySem.W.Frag} {H : Hp} : ∀ (ts : List T) {vs : List V}, noDs ts = true → DpAll K H vs ts → L2.DpAll K H vs ts
  | [], _, _, h => by cases h; exact .nil
  | t :: ts, _, c, h => by
    have c' : noD t = true ∧ noDs ts = true := by simpa [noDs] using c
    cases h with | cons a b => exact .cons (dp_hand t c'.1 a) (dpAll_hand ts c'.2 b)
end
theorem noD_sh {t : T} (h : SeqAt.shaped t = true) : noD t = true := noD_lay t (SeqAt.canLay_of_shaped h)
theorem dp_mono {K : PySem.W.Frag} {F F' : Hp} (ff : ∀ a o, F a = some o → F' a = some o) : ∀ (t : T) (v : V), Dp K F v t → Dp K F' v t := by
  have sl : ∀ {a xs}, SqL K F a xs → SqL K F' a xs := fun {a xs} h => by
    rcases h with h | h
    · rcases h with h | ⟨o, h⟩
      · exact .inl (.inl (ff _ _ h))
      · exact .inl (.inr ⟨o, ff _ _ h⟩)
    · exact .inr h
  intro t v h
  exact Dp.rec (motive_1 := fun v t _ => Dp K F' v t) (motive_2 := fun vs ts _ => DpAll K F' vs ts) (motive_3 := fun ks kvs _ => DpKvs K F' ks kvs)
    .non (fun b => .bl b) (fun i => .int i) (fun x => .str x) (fun h _ ih => .lst (sl h) ih) (fun h _ ih => .tup (ff _ _ h) ih) (fun h _ ih => .dct (ff _ _ h) ih) .nil (fun _ _ a b => .cons a b) .nil (fun _ _ a b => .cons a b) h
theorem dpAll_mono {K : PySem.W.Frag} {F F' : Hp} (ff : ∀ a o, F a = some o → F' a = some o) : ∀ {ts : List T} {vs : List V}, DpAll K F vs ts → DpAll K F' vs ts
  | [], _, h => by cases h; exact .nil
  | _ :: _, _, h => by cases h with | cons a b => exact .cons (dp_mono ff _ _ a) (dpAll_mono ff b)
theorem dpAll_len {K : PySem.W.Frag} {F : Hp} : ∀ {ts : List T} {vs : List V}, DpAll K F vs ts → vs.length = ts.length
  | [], _, h => by cases h; rfl
  | _ :: _, _, h => by cases h with | cons a b => simp [dpAll_len b]
theorem dpAll_app {K : PySem.W.Frag} {F : Hp} : ∀ {ts us : List T} {vs ws : List V}, DpAll K F vs ts → DpAll K F ws us → DpAll K F (vs ++ ws) (ts ++ us)
  | [], _, _, _, h, g => by cases h; exact g
  | _ :: _, _, _, _, h, g => by cases h with | cons a b => exact .cons a (dpAll_app b g)
theorem dpAll_get {K : PySem.W.Frag} {F : Hp} : ∀ {ts : List T} {vs : List V} {i : Nat} {t : T}, DpAll K F vs ts → ts[i]? = some t → ∃ v, vs[i]? = some v ∧ Dp K F v t
  | [], _, _, _, _, e => by simp at e
  | _ :: _, _, 0, _, h, e => by cases h with | cons a b => simp at e; subst e; exact ⟨_, rfl, a⟩
  | _ :: _, _, i + 1, _, h, e => by cases h with | cons a b => simpa using dpAll_get b (by simpa using e)
theorem dpAll_take {K : PySem.W.Frag} {F : Hp} : ∀ {ts : List T} {vs : List V} (n : Nat), DpAll K F vs ts → DpAll K F (vs.take n) (ts.take n)
  | _, _, 0, _ => .nil
  | [], _, _ + 1, h => by cases h; exact .nil
  | _ :: _, _, n + 1, h => by cases h with | cons a b => exact .cons a (dpAll_take n b)
theorem dpAll_drop {K : PySem.W.Frag} {F : Hp} : ∀ {ts : List T} {vs : List V} (n : Nat), DpAll K F vs ts → DpAll K F (vs.drop n) (ts.drop n)
  | _, _, 0, h => h
  | [], _, _ + 1, h => by cases h; exact .nil
  | _ :: _, _, n + 1, h => by cases h with | cons a b => exact dpAll_drop n b
theorem dpAll_set {K : PySem.W.Frag} {F : Hp} {t : T} {v : V} (d : Dp K F v t) : ∀ {ts : List T} {vs : List V} (n : Nat), DpAll K F vs ts → DpAll K F (vs.set n v) (ts.set n t)
  | [], _, _, h => by cases h; exact .nil
  | _ :: _, _, 0, h => by cases h with | cons a b => exact .cons d b
  | _ :: _, _, n + 1, h => by cases h with | cons a b => exact .cons a (dpAll_set d n b)

/-- a dict's entries -/
def KdR (K : PySem.W.Frag) (F : Hp) (ks : List (Key × V)) (kvs : List (T × T)) : Prop := Paired (fun p q => q.1 = kyT p.1 ∧ Dp K F p.2 q.2) ks kvs
theorem kdR_mono {K : PySem.W.Frag} {F F' : Hp} (ff : ∀ a o, F a = some o → F' a = some o) {ks : List (Key × V)} {kvs : List (T × T)} (h : KdR K F ks kvs) : KdR K F' ks kvs := by
  unfold KdR at h ⊢
  induction h with
  | nil => exact .nil
  | cons a _ ih => exact .cons ⟨a.1, dp_mono ff _ _ a.2⟩ ih
/-- the entries of a dict whose keys are tuples -/
def KmR (K : PySem.W.Frag) (F : Hp) (ks : List (List Key × V)) (kvs : List (T × T)) : Prop := Paired (fun p q => q.1 = .tuple (p.1.map kyT) ∧ Dp K F p.2 q.2) ks kvs
theorem kmR_mono {K : PySem.W.Frag} {F F' : Hp} (ff : ∀ a o, F a = some o → F' a = some o) {ks : List (List Key × V)} {kvs : List (T × T)} (h : KmR K F ks kvs) : KmR K F' ks kvs := by
  unfold KmR at h ⊢
  induction h with
  | nil => exact .nil
  | cons a _ ih => exact .cons ⟨a.1, dp_mono ff _ _ a.2⟩ ih
mutual
/-- a tree as such a key -/
def nkOf : T → Option NestedKey
  | .int i => some (.num i)
  | .tuple ts => (nkOfs ts).map .tup
  | .none => none
  | .bool _ => none
  | .str _ => none
  | .list _ => none
  | .dict _ => none
def nkOfs : List T → Option (List NestedKey)
  | [] => some []
  | t :: ts => match nkOf t, nkOfs ts with
    | some k, some ks => some (k :: ks)
    | _, _ => none
end
def nkD (t : T) : Option NestedKey := match nkOf t with
  | some k => if k.depth ≤ 8 then some k else none
  | none => none
def NmR (K : PySem.W.Frag) (F : Hp) (xs : List (NestedKey × Addr × V)) (kvs : List (T × T)) : Prop := Paired (fun q p => nkD p.1 = some q.1 ∧ Dp K F (.ref q.2.1) p.1 ∧ Dp K F q.2.2 p.2) xs kvs
theorem nmR_mono {K : PySem.W.Frag} {F F' : Hp} (ff : ∀ a o, F a = some o → F' a = some o) {xs : List (NestedKey × Addr × V)} {kvs : List (T × T)} (h : NmR K F xs kvs) : NmR K F' xs kvs := by
  unfold NmR at h ⊢
  induction h with
  | nil => exact .nil
  | cons a _ ih => exact .cons ⟨a.1, dp_mono ff _ _ a.2.1, dp_mono ff _ _ a.2.2⟩ ih
def BxAt (K : PySem.W.Frag) (F H : Hp) (p : Addr) : Bx → Prop
  | .l ts => ∃ xs, H p = some (.lst xs) ∧ DpAll K F xs ts
  | .d kvs => ∃ ks, H p = some (.dK ks) ∧ KdR K F ks kvs
  | .m kvs => ∃ ks, H p = some (.dT ks) ∧ KmR K F ks kvs
  | .n kvs => ∃ xs, H p = some (nObj p xs) ∧ NmR K F xs kvs
def RS (K : PySem.W.Frag) (F H : Hp) : Sl → Option V → Prop
  | .un, _ => True
  | .v t, o => ∃ x, o = some x ∧ Dp K F x t
  | .ow _ b, o => ∃ p, o = some (.ref p) ∧ F p = none ∧ BxAt K F H p b
  | .fz b, o => ∃ x, o = some x ∧ Dp K F x b.t
def Own (e : En) (σ : Sg) (p : Addr) : Prop := ∃ (i : Nat) (l : Bool) (b : Bx), e[i]? = some (Sl.ow l b) ∧ σ[i]? = some (some (V.ref p))
structure Rel (K : PySem.W.Frag) (e : En) (σ : Sg) (F H : Hp) : Prop where
  sub : ∀ a o, F a = some o → H a = some o
  len : e.length = σ.length
  at_ : ∀ (i : Nat) (s : Sl) (o : Option V), e[i]? = some s → σ[i]? = some o → RS K F H s o
  ne : ∀ (i j : Nat) (l : Bool) (b : Bx) (l' : Bool) (b' : Bx) (p : Addr), e[i]? = some (.ow l b) → e[j]? = some (.ow l' b') → σ[i]? = some (some (.ref p)) → σ[j]? = some (some (.ref p)) → i = j
def Lent (e : En) (i : Nat) : Prop := ∃ b, e[i]? = some (.ow true b) ∨ e[i]? = some (.fz b)
/-- what kinds of owning names there are stays -/
def SameKinds (e e1 : En) : Prop := ∀ (i : Nat) (l : Bool) (b : Bx), e1[i]? = some (Sl.ow l b) → ∃ b', e[i]? = some (Sl.ow l b')
structure Step (e e' : En) (σ : Sg) (F H F' H' : Hp) : Prop where
  ff : ∀ a o, F a = some o → F' a = some o
  keep : ∀ a o, H a = some o → ¬ Own e σ a → H' a = some o ∧ (F a = none → F' a = none)
  dom : ∀ a o, H a = some o → ∃ o', H' a = some o'
  own : ∀ a, Own e' σ a → Own e σ a
  lt : ∀ i, Lent e i → Lent e' i
  sk : SameKinds e e'
theorem Step.refl {e : En} {σ : Sg} {F H : Hp} : Step e e σ F H F H := ⟨fun _ _ h => h, fun _ _ h _ => ⟨h, fun x => x⟩, fun _ o h => ⟨o, h⟩, fun _ h => h, fun _ h => h, fun i l b h => ⟨b, h⟩⟩
theorem Step.trans {e e1 e2 : En} {σ : Sg} {F H F1 H1 F2 H2 : Hp} (a : Step e e1 σ F H F1 H1) (b : Step e1 e2 σ F1 H1 F2 H2) : Step e e2 σ F H F2 H2 where
  ff := fun x o h => b.ff _ _ (a.ff _ _ h)
  keep := fun x o h n => by
    obtain ⟨h1, f1⟩ := a.keep x o h n
    obtain ⟨h2, f2⟩ := b.keep x o h1 (fun z => n (a.own _ z))
    exact ⟨h2, fun z => f2 (f1 z)⟩
  dom := fun x o h => by
    obtain ⟨o1, h1⟩ := a.dom x o h
    exact b.dom x o1 h1
  own := fun x h => a.own _ (b.own _ h)
  lt := fun i h => b.lt _ (a.lt _ h)
  sk := fun i l z h => by
    obtain ⟨z1, h1⟩ := b.sk i l z h
    exact a.sk i l z1 h1
/-- an owned thing stands in the heap, apart from the trees -/
theorem Rel.owned {K : PySem.W.Frag} {e : En} {σ : Sg} {F H : Hp} {p : Addr} (R : Rel K e σ F H) (h : Own e σ p) : F p = none ∧ ∃ o, H p = some o := by
  obtain ⟨i, l, b, h1, h2⟩ := h
  obtain ⟨q, e1, f, x⟩ := R.at_ i _ _ h1 h2
  cases e1
  refine ⟨f, ?_⟩
  cases b with
  | l ts => obtain ⟨xs, hx, _⟩ := x; exact ⟨_, hx⟩
  | d kvs => obtain ⟨ks, hx, _⟩ := x; exact ⟨_, hx⟩
  | m kvs => obtain ⟨ks, hx, _⟩ := x; exact ⟨_, hx⟩
  | n kvs => obtain ⟨ks, hx, _⟩ := x; exact ⟨_, hx⟩

/-- what a value yielded is -/
def OdR (K : PySem.W.Frag) (σ : Sg) (Hs F H : Hp) (x : V) : Od → Prop
  | .r t => Dp K F x t
  | .s i => σ[i]? = some (some x)
  | .b b => ∃ p, x = .ref p ∧ Hs p = none ∧ F p = none ∧ BxAt K F H p b
abbrev SemE := En → Out Od
abbrev WX := Value → Option Addr → Sg → Hp → Prop
/-- an exception: of the class that the name c names, with the value t -/
def ExR (K : PySem.W.Frag) (F H : Hp) (c : Str) (t : T) (cls : Value) (d : Option Addr) : Prop :=
  cls = .ref (He.ga K c) ∧ ∃ dx v, d = some dx ∧ H dx = some (.xd [("value", v)]) ∧ Dp K F v t
end Ev

set_option Elab.async false
set_option linter.all false
set_option maxRecDepth 100000
namespace Ev
open PySem PySem.Spec PyProof.Rows L2
def Bx.tr : Bx → Option T
  | .l xs => some (.list xs)
  | .d _ => none
  | .m _ => none
  | .n _ => none
def slVal : Sl → Option T
  | .un => none
  | .v t => some t
  | .ow _ b => b.tr
  | .fz b => some b.t
def Od.val (e : En) : Od → Option T
  | .r t => some t
  | .s i => match e[i]? with
    | some z => slVal z
    | none => none
  | .b z => z.tr
section
variable {K : PySem.W.Frag} {W : WX} {e e1 e2 : En} {σ : Sg} {F H F1 H1 F2 H2 Hs : Hp} {p : Addr} {o : HO}
/-- a value; a list's own node may stand in H alone -/
def DpO (K : PySem.W.Frag) (F H : Hp) (x : V) : T → Prop
  | .list ts => ∃ p xs, x = .ref p ∧ SqL K H p xs ∧ DpAll K F xs ts
  | t => Dp K F x t
theorem sqL_mono {a : Addr} {xs : List V} (ff : ∀ a o, F a = some o → H a = some o) (h : SqL K F a xs) : SqL K H a xs := by
  rcases h with h | h
  · rcases h with h | ⟨o, h⟩
    · exact .inl (.inl (ff _ _ h))
    · exact .inl (.inr ⟨o, ff _ _ h⟩)
  · exact .inr h
theorem tupS {a : Addr} {xs : List V} (ff : ∀ a o, F a = some o → H a = some o) (h : F a = some (.tup xs)) : SqT K H a xs := SqT.of (ff _ _ h)
theorem sqT_mono {a : Addr} {xs : List V} (ff : ∀ a o, F a = some o → H a = some o) (h : SqT K F a xs) : SqT K H a xs := by
  rcases h with h | h
  · rcases h with h | ⟨o, h⟩
    · exact .inl (.inl (ff _ _ h))
    · exact .inl (.inr ⟨o, ff _ _ h⟩)
  · exact .inr h
theorem dpo_of {x : V} {t : T} (ff : ∀ a o, F a = some o → H a = some o) (d : Dp K F x t) : DpO K F H x t := by
  cases d with
  | lst a b => exact ⟨_, _, rfl, sqL_mono ff a, b⟩
  | tup a b => exact .tup a b
  | dct a b => exact .dct a b
  | non => exact .non
  | bl b => exact .bl b
  | int i => exact .int i
  | str z => exact .str z
theorem DpO.dp {x : V} {t : T} (ff : ∀ a o, F a = some o → H a = some o) (d : DpO K F H x t) : Dp K H x t := by
  cases t with
  | list ts => obtain ⟨p, xs, rfl, a, b⟩ := d; exact .lst a (dpAll_mono ff b)
  | tuple ts => exact dp_mono ff _ _ d
  | none => exact dp_mono ff _ _ d
  | bool _ => exact dp_mono ff _ _ d
  | int _ => exact dp_mono ff _ _ d
  | str _ => exact dp_mono ff _ _ d
  | dict _ => exact dp_mono ff _ _ d
theorem bx_dpo {b : Bx} {t : T} (x : BxAt K F H p b) (h : b.tr = some t) : DpO K F H (.ref p) t := by
  cases b with
  | l ts => obtain ⟨xs, hx, d⟩ := x; cases h; exact ⟨_, xs, rfl, SqL.of hx, d⟩
  | d kvs => cases h
  | m kvs => cases h
  | n kvs => cases h
theorem val_ok {x : V} {r : Od} {t : T} (R : Rel K e σ F H) (O : OdR K σ Hs F H x r) (h : r.val e = some t) : DpO K F H x t := by
  cases r with
  | r u => cases h; exact dpo_of R.sub O
  | b b => obtain ⟨p, rfl, _, _, z⟩ := O; exact bx_dpo z (by simpa [Od.val] using h)
  | s i =>
    have O : σ[i]? = some (some x) := O
    simp only [Od.val] at h
    cases q : e[i]? with
    | none => rw [q] at h; cases h
    | some s =>
      rw [q] at h
      have z := R.at_ i s _ q O
      cases s with
      | un => cases h
      | v u => cases h; obtain ⟨y, ey, d⟩ := z; cases ey; exact dpo_of R.sub d
      | ow l b => obtain ⟨p, ey, _, d⟩ := z; cases ey; exact bx_dpo d h
      | fz b => cases h; obtain ⟨y, ey, d⟩ := z; cases ey; exact dpo_of R.sub d
theorem fresh_not_own (R : Rel K e σ F H) (S : Step e e1 σ F H F1 H1) (h : H p = none) : ¬ Own e1 σ p := fun z => by
  obtain ⟨_, o, q⟩ := R.owned (S.own _ z)
  rw [h] at q; cases q
theorem bx_keep {b : Bx} (x : BxAt K F1 H1 p b) (ff : ∀ a o, F1 a = some o → F2 a = some o) (hk : ∀ o, H1 p = some o → H2 p = some o) : BxAt K F2 H2 p b := by
  cases b with
  | l ts => obtain ⟨xs, hx, d⟩ := x; exact ⟨xs, hk _ hx, dpAll_mono ff d⟩
  | d kvs => obtain ⟨ks, hx, d⟩ := x; exact ⟨ks, hk _ hx, kdR_mono ff d⟩
  | m kvs => obtain ⟨ks, hx, d⟩ := x; exact ⟨ks, hk _ hx, kmR_mono ff d⟩
  | n kvs => obtain ⟨ks, hx, d⟩ := x; exact ⟨ks, hk _ hx, nmR_mono ff d⟩
theorem bx_some {b : Bx} (x : BxAt K F1 H1 p b) : ∃ o, H1 p = some o := by
  cases b with
  | l ts => obtain ⟨xs, hx, _⟩ := x; exact ⟨_, hx⟩
  | d kvs => obtain ⟨ks, hx, _⟩ := x; exact ⟨_, hx⟩
  | m kvs => obtain ⟨ks, hx, _⟩ := x; exact ⟨_, hx⟩
  | n kvs => obtain ⟨ks, hx, _⟩ := x; exact ⟨_, hx⟩
/-- a value stays what it is while others are worked out -/
theorem od_stay {x : V} {r : Od} (O : OdR K σ H F1 H1 x r) (no : ∀ p, H p = none → ¬ Own e1 σ p) (S : Step e1 e2 σ F1 H1 F2 H2) : OdR K σ H F2 H2 x r := by
  cases r with
  | r t => exact dp_mono S.ff _ _ O
  | s i => exact O
  | b b =>
    obtain ⟨p, rfl, hn, hf, z⟩ := O
    obtain ⟨o, ho⟩ := bx_some z
    have k := S.keep p o ho (no p hn)
    exact ⟨p, rfl, hn, k.2 hf, bx_keep z S.ff fun o' h' => by rw [ho] at h'; cases h'; exact k.1⟩
theorem od_back {x : V} {r : Od} (O : OdR K σ H1 F2 H2 x r) (S : Step e e1 σ F H F1 H1) : OdR K σ H F2 H2 x r := by
  cases r with
  | r t => exact O
  | s i => exact O
  | b b =>
    obtain ⟨p, rfl, hn, hf, z⟩ := O
    refine ⟨p, rfl, ?_, hf, z⟩
    cases q : H p with
    | none => rfl
    | some o => obtain ⟨o', e'⟩ := S.dom _ _ q; rw [hn] at e'; cases e'
/-! ### new things -/
theorem laid_own (R : Rel K e σ F H) (hp : H p = none) : Rel K e σ F (upd H p o) := by
  refine ⟨fun a u h => ?_, R.len, fun i s u h1 h2 => ?_, R.ne⟩
  · have := R.sub _ _ h
    rw [upd_ne (ne_of_none this hp)]; exact this
  · have z := R.at_ i s u h1 h2
    cases s with
    | un => trivial
    | v t => exact z
    | fz b => exact z
    | ow l b =>
      obtain ⟨q, eq, hf, x⟩ := z
      refine ⟨q, eq, hf, bx_keep x (fun _ _ h => h) fun o' h' => ?_⟩
      rw [upd_ne (ne_of_none h' hp)]; exact h'
theorem laid_own_step (hp : H p = none) : Step e e σ F H F (upd H p o) :=
  ⟨fun _ _ h => h, fun a u h _ => ⟨by rw [upd_ne (ne_of_none h hp)]; exact h, fun z => z⟩, fun a u h => ⟨u, by rw [upd_ne (ne_of_none h hp)]; exact h⟩, fun _ h => h, fun _ h => h, fun i l b h => ⟨b, h⟩⟩
theorem sub_none (R : Rel K e σ F H) (hp : H p = none) : F p = none := by
  cases q : F p with
  | none => rfl
  | some o => rw [R.sub _ _ q] at hp; cases hp
/-- F grows by what stands in H, apart from what is owned -/
theorem frz_rel (R : Rel K e σ F H) (hp : H p = some o) (no : ¬ Own e σ p) (hf : F p = none) : Rel K e σ (upd F p o) H := by
  have ff : ∀ a u, F a = some u → upd F p o a = some u := fun a u h => by rw [upd_ne (ne_of_none h hf)]; exact h
  refine ⟨fun a u h => ?_, R.len, fun i s u h1 h2 => ?_, R.ne⟩
  · by_cases q : a = p
    · subst q; rw [upd_same] at h; cases h; exact hp
    · rw [upd_ne q] at h; exact R.sub _ _ h
  · have z := R.at_ i s u h1 h2
    cases s with
    | un => trivial
    | v t => obtain ⟨x, ex, d⟩ := z; exact ⟨x, ex, dp_mono ff _ _ d⟩
    | fz b => obtain ⟨x, ex, d⟩ := z; exact ⟨x, ex, dp_mono ff _ _ d⟩
    | ow l b =>
      obtain ⟨q, eq, hf', x⟩ := z
      have ne : q ≠ p := fun z => no ⟨i, l, b, h1, by rw [h2, eq, z]⟩
      exact ⟨q, eq, by rw [upd_ne ne]; exact hf', bx_keep x ff fun _ h => h⟩
theorem frz_step (S : Step e e1 σ F H F1 H1) (hp : H p = none) (hf : F1 p = none) : Step e e1 σ F H (upd F1 p o) H1 :=
  ⟨fun a u h => by rw [upd_ne (ne_of_none (S.ff _ _ h) hf)]; exact S.ff _ _ h, fun a u h n => ⟨(S.keep a u h n).1, fun z => by rw [upd_ne (ne_of_none h hp)]; exact (S.keep a u h n).2 z⟩, S.dom, S.own, S.lt, S.sk⟩
theorem laid_frz (R : Rel K e σ F H) (hp : H p = none) : Rel K e σ (upd F p o) (upd H p o) :=
  frz_rel (laid_own R hp) upd_same (fun z => by obtain ⟨_, u, q⟩ := R.owned z; rw [hp] at q; cases q) (sub_none R hp)
theorem laid_frz_step (R : Rel K e σ F H) (S : Step e1 e σ F1 H1 F H) (hp : H p = none) : Step e1 e σ F1 H1 (upd F p o) (upd H p o) := by
  have h1 : H1 p = none := by
    cases q : H1 p with
    | none => rfl
    | some u => obtain ⟨o', e'⟩ := S.dom _ _ q; rw [hp] at e'; cases e'
  exact frz_step (S.trans (laid_own_step hp)) h1 (sub_none R hp)
/-! ### readings -/
/-- what an outcome asks of what is wanted behind it; rel: how a value is told (the heap ahead, F, H behind) -/
def OutX {α β : Type} (K : PySem.W.Frag) (W : WX) (rel : Hp → Hp → Hp → β → α → Prop) (r : Out α) (e : En) (σ : Sg) (F H : Hp) (Q : β → Hp → Prop) : Prop := match r with
  | .ok r e' => ∀ x F' H', Rel K e' σ F' H' → Step e e' σ F H F' H' → rel H F' H' x r → Q x H'
  | .exc c t e' => ∀ F' H' cls d, Rel K e' σ F' H' → Step e e' σ F H F' H' → ExR K F' H' c t cls d → W cls d σ H'
  | .bad => False
/-- the reading of a meaning -/
def tX {α β : Type} (K : PySem.W.Frag) (W : WX) (rel : Sg → Hp → Hp → Hp → β → α → Prop) (m : En → Out α) (σ : Sg) (H : Hp) (Q : β → Hp → Prop) : Prop := ∃ e F, Rel K e σ F H ∧ OutX K W (rel σ) (m e) e σ F H Q
theorem tX_bind {α β γ δ : Type} {rel : Sg → Hp → Hp → Hp → β → α → Prop} {rel' : Hp → Hp → Hp → δ → γ → Prop} {m : En → Out α} {f : α → En → Out γ} {Q : δ → Hp → Prop} (R1 : Rel K e1 σ F1 H1) (S1 : Step e e1 σ F H F1 H1) (h : OutX K W rel' ((m e1).bind f) e σ F H Q) :
    tX K W rel m σ H1 (fun x H2 => ∃ r e2 F2, Rel K e2 σ F2 H2 ∧ Step e1 e2 σ F1 H1 F2 H2 ∧ rel σ H1 F2 H2 x r ∧ OutX K W rel' (f r e2) e σ F H Q) := by
  refine ⟨e1, F1, R1, ?_⟩
  cases q : m e1 with
  | ok r e' => rw [q] at h; exact fun x F' H' R' S' O => ⟨r, e', F', R', S', O, h⟩
  | exc c t e' => rw [q] at h; exact fun F' H' cls d R' S' X => h F' H' cls d R' (S1.trans S') X
  | bad => rw [q] at h; exact h
theorem OutX.imp {α β : Type} {rel : Hp → Hp → Hp → β → α → Prop} {r : Out α} {Q Q' : β → Hp → Prop} (h : OutX K W rel r e σ F H Q) (m : ∀ x H', Q x H' → Q' x H') : OutX K W rel r e σ F H Q' := by
  cases r with
  | ok r e' => exact fun x F' H' R S O => m _ _ (h x F' H' R S O)
  | exc c t e' => exact h
  | bad => exact h
theorem tX_imp {α β : Type} {rel : Sg → Hp → Hp → Hp → β → α → Prop} {m : En → Out α} {Q Q' : β → Hp → Prop} (h : tX K W rel m σ H Q) (k : ∀ x H', Q x H' → Q' x H') : tX K W rel m σ H Q' := by
  obtain ⟨e, F, R, h⟩ := h
  exact ⟨e, F, R, h.imp k⟩
/-- what is asked where an operation hands r back, the heap being H -/
def Fin (K : PySem.W.Frag) (F H : Hp) (Q : VK) : Od → Prop
  | .r w => (∀ v, Dp K F v w → Q v H) ∧ ∀ ts p xs, w = .tuple ts → H p = none → DpAll K F xs ts → Q (.ref p) (upd H p (.tup xs))
  | .b (.l ts) => ∀ p xs, H p = none → DpAll K F xs ts → Q (.ref p) (upd H p (.lst xs))
  | _ => False
theorem step_none (S : Step e e1 σ F H F1 H1) (h : H1 p = none) : H p = none := by
  cases q : H p with
  | none => rfl
  | some u => obtain ⟨o', e'⟩ := S.dom _ _ q; rw [h] at e'; cases e'
/-- w is what operations hand back -/
def Back : Od → Prop
  | .r _ => True
  | .b (.l _) => True
  | _ => False
theorem fin_of {r : Od} {Q : VK} (R : Rel K e1 σ F1 H1) (S : Step e e1 σ F H F1 H1) (go : OutX K W (OdR K σ) (.ok r e1) e σ F H Q) (hr : Back r) : Fin K F1 H1 Q r := by
  cases r with
  | r w =>
    refine ⟨fun v d => go v F1 H1 R S d, fun ts p xs ew hp d => ?_⟩
    subst ew
    refine go _ _ _ (laid_frz R hp) (laid_frz_step R S hp) (.tup upd_same (dpAll_mono (fun a u q => ?_) d))
    rw [upd_ne (ne_of_none q (sub_none R hp))]; exact q
  | s i => exact hr.elim
  | b b =>
    cases b with
    | d _ => exact hr.elim
    | m _ => exact hr.elim
    | n _ => exact hr.elim
    | l ts => exact fun p xs hp d => go _ _ _ (laid_own R hp) (S.trans (laid_own_step hp)) ⟨p, rfl, step_none S hp, sub_none R hp, xs, upd_same, d⟩
end
theorem pe_mono {X : Cx} {ex : Expr} {t t' : TE} (h : PE X ex t) (m : ∀ σ H Q, t' σ H Q → t σ H Q) : PE X ex t' := ⟨fun pins s σ H Q I q => h.run pins s σ H Q I (m σ H Q q)⟩
theorem pt_mono {X : Cx} {ex : Expr} {t t' : TT} (h : PT X ex t) (m : ∀ σ H Q, t' σ H Q → t σ H Q) : PT X ex t' := ⟨fun pins s σ H Q I q => h.run pins s σ H Q I (m σ H Q q)⟩
theorem ps_mono {X : Cx} {ex : Stmt} {t t' : TS} (h : PS X ex t) (m : ∀ D σ H, t' D σ H → t D σ H) : PS X ex t' := ⟨fun pins s σ H D I q => h.run pins s σ H D I (m D σ H q)⟩
theorem pss_mono {X : Cx} {ex : List Stmt} {t t' : TS} (h : PSs X ex t) (m : ∀ D σ H, t' D σ H → t D σ H) : PSs X ex t' := ⟨fun pins s σ H D I q => h.run pins s σ H D I (m D σ H q)⟩
theorem pa_mono {X : Cx} {ex : List Expr} {t t' : TA} (h : PA X ex t) (m : ∀ σ H Q, t' σ H Q → t σ H Q) : PA X ex t' := ⟨fun pos pins s σ H Q I q => h.run pos pins s σ H Q I (m σ H Q q)⟩
abbrev tE (K : PySem.W.Frag) (W : WX) (m : SemE) : TE := tX K W (fun σ => OdR K σ) m
abbrev SemT := En → Out Bool
abbrev tT (K : PySem.W.Frag) (W : WX) (m : SemT) : TT := tX K W (fun _ _ _ _ (x : Bool) r => x = r) m
abbrev SemA := En → Out (List Od)
/-- the values of a list of things yielded; the new ones stand apart -/
inductive OdsR (K : PySem.W.Frag) (σ : Sg) (Hs F H : Hp) : List Od → List V → Prop
  | nil : OdsR K σ Hs F H [] []
  | cons {r : Od} {x : V} {rs : List Od} {xs : List V} : OdR K σ Hs F H x r → OdsR K σ Hs F H rs xs →
      (∀ (z : Bx) (p : Addr), r = .b z → x = .ref p → ∀ (j : Nat) (z' : Bx), rs[j]? = some (.b z') → xs[j]? ≠ some (.ref p)) → OdsR K σ Hs F H (r :: rs) (x :: xs)
abbrev tA (K : PySem.W.Frag) (W : WX) (m : SemA) : TA := tX K W (fun σ Hs F H xs rs => OdsR K σ Hs F H rs xs) m
abbrev QE (X : Cx) (W : WX) (ex : Expr) (m : SemE) : Prop := PE X ex (tE X.K W m)
abbrev QT (X : Cx) (W : WX) (ex : Expr) (m : SemT) : Prop := PT X ex (tT X.K W m)
abbrev QA (X : Cx) (W : WX) (ex : List Expr) (m : SemA) : Prop := PA X ex (tA X.K W m)

/-! ### names and constants -/
section
variable {X : Cx} {W : WX} {a b c : Expr} {ma mb mc : SemE} {pos : Pos}
def eVar (i : Nat) : SemE := fun e => match e[i]? with
  | some (.v t) => .ok (.r t) e
  | some (.fz b) => .ok (.r b.t) e
  | some (.ow _ _) => .ok (.s i) e
  | _ => .bad
theorem Rel.var {K : PySem.W.Frag} {e : En} {σ : Sg} {F H : Hp} (R : Rel K e σ F H) {i : Nat} {s : Sl} (h : e[i]? = some s) : ∃ o, σ[i]? = some o ∧ RS K F H s o := by
  have hi : i < σ.length := by rw [← R.len]; exact (List.getElem?_eq_some_iff.mp h).1
  exact ⟨_, List.getElem?_eq_getElem hi, R.at_ i s _ h (List.getElem?_eq_getElem hi)⟩
theorem qvar {i : Nat} {x : Str} (hN : X.N[i]? = some x) (hv : Vis X.env.scope x) (hd : (x == ("__debug__" : Str)) = false := by decide) (hcd : (x == ("__classdict__" : Str)) = false := by decide) : QE X W (.Name x pos) (eVar i) := by
  refine pe_mono (pe_var hN hv hd hcd) fun σ H Q h => ?_
  obtain ⟨e, F, R, h⟩ := h
  unfold eVar at h
  cases q : e[i]? with
  | none => rw [q] at h; exact h.elim
  | some s =>
    rw [q] at h
    obtain ⟨o, hs, z⟩ := R.var q
    cases s with
    | un => exact h.elim
    | v t => obtain ⟨y, rfl, d⟩ := z; exact ⟨y, hs, h y F H R .refl d⟩
    | fz b => obtain ⟨y, rfl, d⟩ := z; exact ⟨y, hs, h y F H R .refl d⟩
    | ow l b => obtain ⟨p, rfl, hf, x⟩ := z; exact ⟨_, hs, h _ F H R .refl hs⟩
def eK (t : T) : SemE := fun e => .ok (.r t) e
theorem qint {i j} : QE X W (.Constant (.int i) j pos) (eK (.int i)) := pe_mono pe_int fun σ H Q ⟨e, F, R, h⟩ => h _ F H R .refl (.int i)
theorem qbl {b j} : QE X W (.Constant (.bool b) j pos) (eK (.bool b)) := pe_mono pe_bl fun σ H Q ⟨e, F, R, h⟩ => h _ F H R .refl (.bl b)
theorem qnon {j} : QE X W (.Constant .none j pos) (eK .none) := pe_mono pe_non fun σ H Q ⟨e, F, R, h⟩ => h _ F H R .refl .non
theorem qstr {x j} : QE X W (.Constant (.str x) j pos) (eK (.str x)) := pe_mono pe_str fun σ H Q ⟨e, F, R, h⟩ => h _ F H R .refl (.str x)

/-! ### two operands -/
def eTwo {α : Type} (ma mb : SemE) (g : Od → Od → En → Out α) : En → Out α := fun e => (ma e).bind fun r e1 => (mb e1).bind fun r2 e2 => g r r2 e2
/-- the state behind two operands -/
def At2 {α β : Type} (K : PySem.W.Frag) (W : WX) (rel : Hp → Hp → Hp → β → α → Prop) (g : Od → Od → En → Out α) (σ : Sg) (x y : V) (H2 : Hp) (Q : β → Hp → Prop) : Prop :=
  ∃ e F H r r2 e2 F2, Rel K e σ F H ∧ Rel K e2 σ F2 H2 ∧ Step e e2 σ F H F2 H2 ∧ OdR K σ H F2 H2 x r ∧ OdR K σ H F2 H2 y r2 ∧ OutX K W rel (g r r2 e2) e σ F H Q
theorem two {α β : Type} {K : PySem.W.Frag} {rel : Sg → Hp → Hp → Hp → β → α → Prop} {g : Od → Od → En → Out α} {σ : Sg} {H : Hp} {Q : β → Hp → Prop} (h : tX K W rel (eTwo ma mb g) σ H Q) :
    tE K W ma σ H fun x H1 => tE K W mb σ H1 fun y H2 => At2 K W (rel σ) g σ x y H2 Q := by
  obtain ⟨e, F, R, h⟩ := h
  refine tX_imp (tX_bind R .refl h) fun x H1 ⟨r, e1, F1, R1, S1, O1, h1⟩ => ?_
  refine tX_imp (tX_bind R1 S1 h1) fun y H2 ⟨r2, e2, F2, R2, S2, O2, h2⟩ => ?_
  exact ⟨e, F, H, r, r2, e2, F2, R, R2, S1.trans S2, od_stay O1 (fun p hp => fresh_not_own R S1 hp) S2, od_back O2 S1, h2⟩
/-- the values of two operands -/
def v2 (g : T → T → Option Od) : Od → Od → En → Out Od := fun r r2 e => match r.val e, r2.val e with
  | some t, some u => (match g t u with
    | some w => .ok w e
    | none => .bad)
  | _, _ => .bad
/-- a rule of an operation on two values, met by g -/
def Does2 (K : PySem.W.Frag) (r : R2) (g : T → T → Option Od) : Prop :=
  ∀ x y t u w F H (Q : VK), (∀ a o, F a = some o → H a = some o) → DpO K F H x t → DpO K F H y u → g t u = some w → Back w ∧ (Fin K F H Q w → r x y H Q)
theorem does2 {K : PySem.W.Frag} {r : R2} {g : T → T → Option Od} (hr : Does2 K r g) {σ : Sg} {x y : V} {H : Hp} {Q : VK} (h : At2 K W (OdR K σ) (v2 g) σ x y H Q) : r x y H Q := by
  obtain ⟨e, F, H0, r1, r2, e2, F2, R, R2, S, O1, O2, go⟩ := h
  unfold v2 at go
  cases q1 : r1.val e2 with
  | none => rw [q1] at go; exact go.elim
  | some t =>
    cases q2 : r2.val e2 with
    | none => rw [q1, q2] at go; exact go.elim
    | some u =>
      rw [q1, q2] at go
      cases q3 : g t u with
      | none => simp only [q3] at go; exact go.elim
      | some w =>
        simp only [q3] at go
        obtain ⟨bk, z⟩ := hr x y t u w F2 H Q R2.sub (val_ok R2 O1 q1) (val_ok R2 O2 q2) q3
        exact z (fin_of R2 S go bk)
abbrev eOp2 (g : T → T → Option Od) (ma mb : SemE) : SemE := eTwo ma mb (v2 g)
theorem qop {f : Operator} {r : R2} {g : T → T → Option Od} (ho : OpR X (binaryOp f) r) (hr : Does2 X.K r g) (ha : QE X W a ma) (hb : QE X W b mb) : QE X W (.BinOp a f b pos) (eOp2 g ma mb) :=
  pe_mono (pe_op ho ha hb) fun σ H Q h => tX_imp (two h) fun x H1 h1 => tX_imp h1 fun y H2 h2 => does2 hr h2
theorem qcmp {f : CmpOp} {r : R2} {g : T → T → Option Od} (ho : OpR X (compareOp f) r) (hr : Does2 X.K r g) (ha : QE X W a ma) (hb : QE X W b mb) (hm : behindInMarks f b = false := by first | rfl | exact nomark _) : QE X W (.Compare a [f] [b] pos) (eOp2 g ma mb) :=
  pe_mono (pe_cmpR ho ha hb hm) fun σ H Q h => tX_imp (two h) fun x H1 h1 => tX_imp h1 fun y H2 h2 => does2 hr h2
end
end Ev

set_option Elab.async false
set_option linter.all false
set_option maxRecDepth 100000
namespace Ev
open PySem PySem.Spec PyProof.Rows L2
section
variable {X : Cx} {W : WX} {a b c : Expr} {ma mb mc : SemE} {pos : Pos}
/-! ### argument lists -/
def aNil : SemA := fun e => .ok [] e
def aCons (m : SemE) (r : SemA) : SemA := fun e => (m e).bind fun x e1 => (r e1).bind fun xs e2 => .ok (x :: xs) e2
theorem qa_nil : QA X W [] aNil := pa_mono pa_nil fun σ H Q ⟨e, F, R, h⟩ => h _ F H R .refl .nil
theorem ods_back {K : PySem.W.Frag} {σ : Sg} {e e1 : En} {F H F1 H1 F2 H2 : Hp} (S : Step e e1 σ F H F1 H1) : ∀ {rs xs}, OdsR K σ H1 F2 H2 rs xs → OdsR K σ H F2 H2 rs xs
  | _, _, .nil => .nil
  | _, _, .cons a b n => .cons (od_back a S) (ods_back S b) n
theorem ods_tmp {K : PySem.W.Frag} {σ : Sg} {Hs F H : Hp} : ∀ {rs : List Od} {xs : List V}, OdsR K σ Hs F H rs xs → ∀ (j : Nat) (z : Bx), rs[j]? = some (.b z) → ∃ p, xs[j]? = some (.ref p) ∧ Hs p = none ∧ F p = none ∧ BxAt K F H p z
  | _, _, .nil, j, z, h => by simp at h
  | _, _, .cons a b n, 0, z, h => by simp at h; subst h; obtain ⟨p, rfl, q⟩ := a; exact ⟨p, rfl, q⟩
  | _, _, .cons a b n, j + 1, z, h => by simpa using ods_tmp b j z (by simpa using h)
theorem qa_cons {es : List Expr} {mr : SemA} (ha : QE X W a ma) (hr : QA X W es mr) (hs : starEach (a :: es) X.env = (false, eval a X.env) :: starEach es X.env := by rfl) : QA X W (a :: es) (aCons ma mr) := by
  refine pa_mono (pa_cons ha hr hs) fun σ H Q h => ?_
  obtain ⟨e, F, R, h⟩ := h
  refine tX_imp (tX_bind R .refl h) fun x H1 ⟨r, e1, F1, R1, S1, O1, h1⟩ => ?_
  refine tX_imp (tX_bind (rel := fun σ Hs F H xs rs => OdsR X.K σ Hs F H rs xs) R1 S1 h1) fun xs H2 ⟨rs, e2, F2, R2, S2, O2, h2⟩ => ?_
  refine h2 _ F2 H2 R2 (S1.trans S2) (.cons (od_stay O1 (fun p hp => fresh_not_own R S1 hp) S2) (ods_back S1 O2) fun z p er ex j z' hj hx => ?_)
  subst er
  obtain ⟨p', ep, hn, hf, bx⟩ := O1
  rw [ex] at ep; cases ep
  obtain ⟨q, hq, hn2, _⟩ := ods_tmp O2 j z' hj
  rw [hx] at hq; cases hq
  obtain ⟨o, ho⟩ := bx_some bx
  rw [hn2] at ho; cases ho
def vals (e : En) : List Od → Option (List T)
  | [] => some []
  | r :: rs => match r.val e, vals e rs with
    | some t, some ts => some (t :: ts)
    | _, _ => none
abbrev DpOs (K : PySem.W.Frag) (F H : Hp) (ts : List T) (xs : List V) : Prop := Paired (fun t x => DpO K F H x t) ts xs
theorem vals_ok {K : PySem.W.Frag} {σ : Sg} {e : En} {F H Hs : Hp} (R : Rel K e σ F H) : ∀ {rs : List Od} {xs : List V} {ts : List T}, OdsR K σ Hs F H rs xs → vals e rs = some ts → DpOs K F H ts xs
  | _, _, _, .nil, h => by cases h; exact .nil
  | r :: rs, _, _, .cons a b n, h => by
    unfold vals at h
    cases q : r.val e with
    | none => rw [q] at h; cases h
    | some t =>
      cases q2 : vals e rs with
      | none => rw [q, q2] at h; cases h
      | some us => rw [q, q2] at h; cases h; exact .cons (val_ok R a q) (vals_ok R b q2)
/-- a built-in on values -/
def eFn (g : List T → Option Od) (ma : SemA) : SemE := fun e => (ma e).bind fun rs e1 => match vals e1 rs with
  | some ts => (match g ts with
    | some w => .ok w e1
    | none => .bad)
  | none => .bad
def DoesN (K : PySem.W.Frag) (r : List V → Hp → VK → Prop) (g : List T → Option Od) : Prop :=
  ∀ xs ts w F H (Q : VK), (∀ a o, F a = some o → H a = some o) → DpOs K F H ts xs → g ts = some w → Back w ∧ (Fin K F H Q w → r xs H Q)
theorem fn_read {K : PySem.W.Frag} {r : List V → Hp → VK → Prop} {g : List T → Option Od} {m : SemA} (hr : DoesN K r g) {σ : Sg} {H : Hp} {Q : VK} (h : tE K W (eFn g m) σ H Q) : tCB r (tA K W m) σ H Q := by
  obtain ⟨e, F, R, h⟩ := h
  refine tX_imp (tX_bind (rel := fun σ Hs F H xs rs => OdsR K σ Hs F H rs xs) R .refl h) fun xs H1 ⟨rs, e1, F1, R1, S1, O1, h1⟩ => ?_
  cases q : vals e1 rs with
  | none => simp only [q] at h1; exact h1.elim
  | some ts =>
    simp only [q] at h1
    cases q2 : g ts with
    | none => simp only [q2] at h1; exact h1.elim
    | some w =>
      simp only [q2] at h1
      obtain ⟨bk, z⟩ := hr xs ts w F1 H1 Q R1.sub (vals_ok R1 O1 q) q2
      exact z (fin_of R1 S1 h1 bk)
theorem qfnB {x : Str} {p : Pos} {es : List Expr} {id : String} {r : List V → Hp → VK → Prop} {g : List T → Option Od} {m : SemA} (hc : CallR X (.builtin id) r) (hr : DoesN X.K r g) (hg : Gl X x) (hm : X.mg x = none) (hv : bootBuiltins x = some (.builtin id)) (ha : QA X W (a :: es) m)
    (hn : x ≠ "__name__" := by decide) (hdb : (x == ("__debug__" : Str)) = false := by decide)
    (he : starEach (a :: es) X.env = (false, eval a X.env) :: starEach es X.env := by rfl) (hpl : (backTo pos (starEach es X.env)).any (·.1) = false := by rfl) : QE X W (.Call (.Name x p) (a :: es) [] pos) (eFn g m) :=
  pe_mono (pe_callB hc hg hm hv ha hn hdb he hpl) fun σ H Q h => fn_read hr h
theorem qfnT {x : Str} {p : Pos} {es : List Expr} {id : String} {r : List V → Hp → VK → Prop} {g : List T → Option Od} {m : SemA} (hc : CallR X (.type id) r) (hr : DoesN X.K r g) (hg : Gl X x) (hm : X.mg x = none) (hv : bootBuiltins x = some (.type id)) (ha : QA X W (a :: es) m)
    (hn : x ≠ "__name__" := by decide) (hdb : (x == ("__debug__" : Str)) = false := by decide)
    (he : starEach (a :: es) X.env = (false, eval a X.env) :: starEach es X.env := by rfl) (hpl : (backTo pos (starEach es X.env)).any (·.1) = false := by rfl) : QE X W (.Call (.Name x p) (a :: es) [] pos) (eFn g m) :=
  pe_mono (pe_callTy hc hg hm hv ha hn hdb he hpl) fun σ H Q h => fn_read hr h

/-! ### what a value becomes where it is kept in something else -/
def esc : Od → En → Option (T × En)
  | .r t, e => some (t, e)
  | .b z, e => match z.tr with
    | some t => some (t, e)
    | none => none
  | .s i, e => match e[i]? with
    | some (.v t) => some (t, e)
    | some (.fz z) => some (z.t, e)
    | some (.ow l z) => (match z.tr with
      | some t => some (t, e.set i (if l then .fz z else .v t))
      | none => none)
    | _ => none
theorem esc_own {K : PySem.W.Frag} {σ : Sg} {e : En} {F H : Hp} {i : Nat} {l : Bool} {z : Bx} {t : T} {x : V} (R : Rel K e σ F H) (h1 : e[i]? = some (.ow l z)) (h2 : σ[i]? = some (some x)) (hz : z.tr = some t) :
    ∃ F', Rel K (e.set i (if l then .fz z else .v t)) σ F' H ∧ Step e (e.set i (if l then .fz z else .v t)) σ F H F' H ∧ Dp K F' x t ∧ ∀ a, F' a = F a ∨ x = .ref a := by
  obtain ⟨p, ex, hf, bx⟩ := R.at_ i _ _ h1 h2
  cases ex
  cases z with
  | d _ => cases hz
  | m _ => cases hz
  | n _ => cases hz
  | l ts =>
    cases hz
    obtain ⟨xs, hx, d⟩ := bx
    have hi : i < e.length := (List.getElem?_eq_some_iff.mp h1).1
    have ff : ∀ a u, F a = some u → upd F p (.lst xs) a = some u := fun a u h => by rw [upd_ne (ne_of_none h hf)]; exact h
    have dx : Dp K (upd F p (.lst xs)) (.ref p) (.list ts) := .lst (SqL.of upd_same) (dpAll_mono ff d)
    have get : ∀ (j : Nat) (s : Sl), (e.set i (if l then .fz (.l ts) else .v (.list ts)))[j]? = some s → (j = i ∧ s = (if l then .fz (.l ts) else .v (.list ts))) ∨ (j ≠ i ∧ e[j]? = some s) := fun j s h => by
      by_cases q : i = j
      · subst q; rw [List.getElem?_set_self hi] at h; cases h; exact .inl ⟨rfl, rfl⟩
      · rw [List.getElem?_set_ne q] at h; exact .inr ⟨fun z => q z.symm, h⟩
    have notow : ∀ l' b', (if l then (Sl.fz (.l ts)) else .v (.list ts)) ≠ .ow l' b' := fun l' b' q => by cases l <;> cases q
    have own : ∀ a, Own (e.set i (if l then .fz (.l ts) else .v (.list ts))) σ a → Own e σ a := fun a ⟨j, l', b', g1, g2⟩ => by
      rcases get j _ g1 with ⟨_, q⟩ | ⟨_, q⟩
      · exact absurd q.symm (notow _ _)
      · exact ⟨j, l', b', q, g2⟩
    refine ⟨upd F p (.lst xs), ⟨fun a u h => ?_, by rw [List.length_set]; exact R.len, fun j s u g1 g2 => ?_, fun j k l1 b1 l2 b2 q g1 g2 g3 g4 => ?_⟩, ⟨ff, fun a u h n => ⟨h, fun z => ?_⟩, fun a u h => ⟨u, h⟩, own, fun j hj => ?_, fun j l' b' h => ?_⟩, dx, fun a => ?_⟩
    · by_cases q : a = p
      · subst q; rw [upd_same] at h; cases h; exact hx
      · rw [upd_ne q] at h; exact R.sub _ _ h
    · rcases get j s g1 with ⟨rfl, rfl⟩ | ⟨nj, q⟩
      · rw [h2] at g2; cases g2
        cases l with
        | true => exact ⟨_, rfl, dx⟩
        | false => exact ⟨_, rfl, dx⟩
      · have z := R.at_ j s u q g2
        cases s with
        | un => trivial
        | v t => obtain ⟨y, ey, d⟩ := z; exact ⟨y, ey, dp_mono ff _ _ d⟩
        | fz b => obtain ⟨y, ey, d⟩ := z; exact ⟨y, ey, dp_mono ff _ _ d⟩
        | ow l' b =>
          obtain ⟨p', ey, hf', bx'⟩ := z
          subst ey
          have np : p' ≠ p := fun z => by subst z; exact nj (R.ne j i l' b l (.l ts) p' q h1 g2 h2)
          exact ⟨p', rfl, by rw [upd_ne np]; exact hf', bx_keep bx' ff fun _ h => h⟩
    · rcases get j _ g1 with ⟨_, q'⟩ | ⟨_, g1'⟩
      · exact absurd q'.symm (notow _ _)
      · rcases get k _ g2 with ⟨_, q'⟩ | ⟨_, g2'⟩
        · exact absurd q'.symm (notow _ _)
        · exact R.ne j k l1 b1 l2 b2 q g1' g2' g3 g4
    · have np : a ≠ p := fun z => n ⟨i, l, .l ts, h1, by rw [h2, z]⟩
      rw [upd_ne np]; exact z
    · obtain ⟨b', q⟩ := hj
      by_cases qi : i = j
      · subst qi
        rw [h1] at q
        rcases q with q | q
        · cases q; exact ⟨.l ts, .inr (by rw [List.getElem?_set_self hi]; rfl)⟩
        · cases q
      · exact ⟨b', by rw [List.getElem?_set_ne qi]; exact q⟩
    · rcases get j _ h with ⟨_, q⟩ | ⟨_, q⟩
      · exact absurd q.symm (notow _ _)
      · exact ⟨b', q⟩
    · by_cases q : a = p
      · exact .inr (by rw [q])
      · exact .inl (upd_ne q)
theorem ods_grow {K : PySem.W.Frag} {σ : Sg} {Hs F F' H : Hp} (ff : ∀ a o, F a = some o → F' a = some o) : ∀ {rs : List Od} {xs : List V}, OdsR K σ Hs F H rs xs → (∀ (p : Addr) (j : Nat) (z : Bx), rs[j]? = some (.b z) → xs[j]? = some (.ref p) → Hs p = none → F' p = F p) → OdsR K σ Hs F' H rs xs
  | _, _, .nil, _ => .nil
  | _, _, .cons (r := r) a b n, k => by
    refine .cons ?_ (ods_grow ff b fun p j z h1 h2 => k p (j + 1) z (by simpa using h1) (by simpa using h2)) n
    cases r with
    | r t => exact dp_mono ff _ _ a
    | s i => exact a
    | b z =>
      obtain ⟨p, rfl, hn, hf, bx⟩ := a
      exact ⟨p, rfl, hn, by rw [k p 0 z rfl rfl hn]; exact hf, bx_keep bx ff fun _ h => h⟩
theorem esc_ok {K : PySem.W.Frag} {σ : Sg} {e0 e e' : En} {F0 H0 F H : Hp} {x : V} {r : Od} {t : T} (R0 : Rel K e0 σ F0 H0) (R : Rel K e σ F H) (S : Step e0 e σ F0 H0 F H) (O : OdR K σ H0 F H x r) (h : esc r e = some (t, e')) :
    ∃ F', Rel K e' σ F' H ∧ Step e0 e' σ F0 H0 F' H ∧ Dp K F' x t ∧ (∀ a o, F a = some o → F' a = some o) ∧ ∀ a, F' a = F a ∨ (x = .ref a ∧ ((∃ z, r = .b z) ∨ Own e σ a)) := by
  cases r with
  | r u => cases h; exact ⟨F, R, S, O, fun _ _ h => h, fun a => .inl rfl⟩
  | b z =>
    obtain ⟨p, rfl, hn, hf, bx⟩ := O
    simp only [esc] at h
    cases q : z.tr with
    | none => rw [q] at h; cases h
    | some u =>
      rw [q] at h; cases h
      cases z with
      | d _ => cases q
      | m _ => cases q
      | n _ => cases q
      | l ts =>
        cases q
        obtain ⟨xs, hx, d⟩ := bx
        have ff : ∀ a u, F a = some u → upd F p (.lst xs) a = some u := fun a u h => by rw [upd_ne (ne_of_none h hf)]; exact h
        refine ⟨upd F p (.lst xs), frz_rel R hx (fresh_not_own R0 S hn) hf, frz_step S hn hf, .lst (SqL.of upd_same) (dpAll_mono ff d), ff, fun a => ?_⟩
        by_cases q : a = p
        · subst q; exact .inr ⟨rfl, .inl ⟨_, rfl⟩⟩
        · exact .inl (upd_ne q)
  | s i =>
    have O : σ[i]? = some (some x) := O
    simp only [esc] at h
    cases q : e[i]? with
    | none => rw [q] at h; cases h
    | some s =>
      rw [q] at h
      have z := R.at_ i s _ q O
      cases s with
      | un => cases h
      | v u => cases h; obtain ⟨y, ey, d⟩ := z; cases ey; exact ⟨F, R, S, d, fun _ _ h => h, fun a => .inl rfl⟩
      | fz u => cases h; obtain ⟨y, ey, d⟩ := z; cases ey; exact ⟨F, R, S, d, fun _ _ h => h, fun a => .inl rfl⟩
      | ow l b =>
        cases q2 : b.tr with
        | none => simp only [q2] at h; cases h
        | some u =>
          simp only [q2] at h
          cases h
          obtain ⟨F', R', S', d', only⟩ := esc_own R q O q2
          exact ⟨F', R', S.trans S', d', S'.ff, fun a => (only a).imp id fun ea => ⟨ea, .inr ⟨i, l, b, q, by rw [O, ea]⟩⟩⟩
def escs : List Od → En → Option (List T × En)
  | [], e => some ([], e)
  | r :: rs, e => match esc r e with
    | some (t, e1) => (match escs rs e1 with
      | some (ts, e2) => some (t :: ts, e2)
      | none => none)
    | none => none
theorem escs_ok {K : PySem.W.Frag} {σ : Sg} {e0 : En} {F0 H0 H : Hp} (R0 : Rel K e0 σ F0 H0) : ∀ {rs : List Od} {xs : List V} {ts : List T} {e e' : En} {F : Hp}, Rel K e σ F H → Step e0 e σ F0 H0 F H → OdsR K σ H0 F H rs xs → escs rs e = some (ts, e') →
    ∃ F', Rel K e' σ F' H ∧ Step e0 e' σ F0 H0 F' H ∧ DpAll K F' xs ts ∧ ∀ a o, F a = some o → F' a = some o
  | [], _, _, _, _, F, R, S, .nil, h => by cases h; exact ⟨F, R, S, .nil, fun _ _ h => h⟩
  | r :: rs, _, _, e, _, F, R, S, .cons (x := x) (xs := xs) a b n, h => by
    unfold escs at h
    cases q : esc r e with
    | none => rw [q] at h; cases h
    | some te =>
      obtain ⟨t, e1⟩ := te
      simp only [q] at h
      cases q2 : escs rs e1 with
      | none => rw [q2] at h; cases h
      | some te2 =>
        obtain ⟨ts, e2⟩ := te2
        simp only [q2] at h
        cases h
        obtain ⟨F1, R1, S1, d1, ff1, only⟩ := esc_ok R0 R S a q
        have b1 : OdsR K σ H0 F1 H rs xs := ods_grow ff1 b fun p j z hj hx hn => by
          rcases only p with e | ⟨ex, e | e⟩
          · exact e
          · obtain ⟨z', e'⟩ := e
            exact absurd hx (n z' p e' ex j z hj)
          · exact absurd (S.own _ e) (fun w => by obtain ⟨_, o, q⟩ := R0.owned w; rw [hn] at q; cases q)
        obtain ⟨F2, R2, S2, d2, ff2⟩ := escs_ok R0 R1 S1 b1 q2
        exact ⟨F2, R2, S2, .cons (dp_mono ff2 _ _ d1) d2, fun a o h => ff2 _ _ (ff1 _ _ h)⟩
end
end Ev

set_option Elab.async false
set_option linter.all false
set_option maxRecDepth 100000
namespace Ev
open PySem PySem.Spec PyProof.Rows L2
section
variable {X : Cx} {W : WX} {a b c : Expr} {ma mb mc : SemE} {pos : Pos}
/-! ### displays -/
def eDisp (k : List T → Od) (m : SemA) : SemE := fun e => (m e).bind fun rs e1 => match escs rs e1 with
  | some (ts, e2) => if ts.length ≤ sizeLine then .ok (k ts) e2 else .bad
  | none => .bad
def eTup (m : SemA) : SemE := eDisp (fun ts => .r (.tuple ts)) m
def eLst (m : SemA) : SemE := eDisp (fun ts => .b (.l ts)) m
theorem qtup {es : List Expr} {k : Nat} {m : SemA} (h : QA X W es m) : QE X W (.Tuple es k pos) (eTup m) := by
  refine pe_mono (pe_tup h) fun σ H Q h => ?_
  obtain ⟨e, F, R, h⟩ := h
  refine tX_imp (tX_bind (rel := fun σ Hs F H xs rs => OdsR X.K σ Hs F H rs xs) R .refl h) fun xs H1 ⟨rs, e1, F1, R1, S1, O1, h1⟩ => ?_
  cases q : escs rs e1 with
  | none => simp only [q] at h1; exact h1.elim
  | some te =>
    obtain ⟨ts, e2⟩ := te
    simp only [q] at h1
    obtain ⟨F2, R2, S2, d2, _⟩ := escs_ok R R1 S1 O1 q
    by_cases hl : ts.length ≤ sizeLine
    · rw [if_pos hl] at h1
      refine ⟨by rw [dpAll_len d2]; exact hl, fun p hp => ?_⟩
      exact (fin_of R2 S2 h1 True.intro).2 ts p xs rfl hp d2
    · rw [if_neg hl] at h1; exact h1.elim
theorem qlst {es : List Expr} {m : SemA} (h : QA X W es m) : QE X W (.List es pos) (eLst m) := by
  refine pe_mono (pe_lst h) fun σ H Q h => ?_
  obtain ⟨e, F, R, h⟩ := h
  refine tX_imp (tX_bind (rel := fun σ Hs F H xs rs => OdsR X.K σ Hs F H rs xs) R .refl h) fun xs H1 ⟨rs, e1, F1, R1, S1, O1, h1⟩ => ?_
  cases q : escs rs e1 with
  | none => simp only [q] at h1; exact h1.elim
  | some te =>
    obtain ⟨ts, e2⟩ := te
    simp only [q] at h1
    obtain ⟨F2, R2, S2, d2, _⟩ := escs_ok R R1 S1 O1 q
    by_cases hl : ts.length ≤ sizeLine
    · rw [if_pos hl] at h1
      refine ⟨by rw [dpAll_len d2]; exact hl, fun p hp => ?_⟩
      exact (fin_of R2 S2 h1 True.intro : Fin X.K F2 H1 Q (.b (.l ts))) p xs hp d2
    · rw [if_neg hl] at h1; exact h1.elim

/-! ### a call of a def -/
abbrev FSem := List Sl → Out Od
/-- what a def is asked to do -/
def spF (K : PySem.W.Frag) (n : Nat) (m : FSem) : Sp := fun vs H Q E => vs.length = n ∧ tX K (fun cls d _ H' => E cls d H') (fun σ => OdR K σ) m (vs.map some) H Q
def toSl (e : En) : Od → Option Sl
  | .r t => some (.v t)
  | .b z => some (.ow true z)
  | .s i => match e[i]? with
    | some (.v t) => some (.v t)
    | some (.fz z) => some (.v z.t)
    | some (.ow _ z) => some (.ow true z)
    | _ => none
def toSls (e : En) : List Od → Option (List Sl)
  | [] => some []
  | r :: rs => match toSl e r, toSls e rs with
    | some s, some ss => some (s :: ss)
    | _, _ => none
def sIdx : List Od → List Nat
  | [] => []
  | .s i :: rs => i :: sIdx rs
  | _ :: rs => sIdx rs
def bk (l : Bool) : Sl → Sl
  | .ow _ z => .ow l z
  | .fz z => if l then .fz z else .v z.t
  | s => s
/-- what the callee did with what names hold -/
def wb : List Od → List Sl → En → En
  | .s i :: rs, s :: ss, e => wb rs ss (match e[i]? with
    | some (.ow l _) => e.set i (bk l s)
    | _ => e)
  | _ :: rs, _ :: ss, e => wb rs ss e
  | _, _, e => e
theorem wb_len : ∀ (rs : List Od) (ss : List Sl) (e : En), (wb rs ss e).length = e.length
  | [], _, _ => rfl
  | .s i :: rs, [], _ => rfl
  | .r _ :: rs, [], _ => rfl
  | .b _ :: rs, [], _ => rfl
  | .r _ :: rs, _ :: ss, e => wb_len rs ss e
  | .b _ :: rs, _ :: ss, e => wb_len rs ss e
  | .s i :: rs, s :: ss, e => by
    unfold wb
    rw [wb_len rs ss]
    split <;> simp
theorem wb_out {k : Nat} : ∀ (rs : List Od) (ss : List Sl) (e : En), (∀ l z, e[k]? = some (.ow l z) → Od.s k ∉ rs) → (wb rs ss e)[k]? = e[k]?
  | [], _, _, _ => rfl
  | .s i :: rs, [], _, _ => rfl
  | .r _ :: rs, [], _, _ => rfl
  | .b _ :: rs, [], _, _ => rfl
  | .r _ :: rs, _ :: ss, e, h => wb_out rs ss e fun l z q m => h l z q (List.mem_cons_of_mem _ m)
  | .b _ :: rs, _ :: ss, e, h => wb_out rs ss e fun l z q m => h l z q (List.mem_cons_of_mem _ m)
  | .s i :: rs, s :: ss, e, h => by
    unfold wb
    by_cases q : i = k
    · subst q
      have n : ∀ l z, e[i]? ≠ some (.ow l z) := fun l z q => h l z q List.mem_cons_self
      have e1 : (match e[i]? with
        | some (.ow l _) => e.set i (bk l s)
        | _ => e) = e := by
        cases w : e[i]? with
        | none => rfl
        | some y =>
          cases y with
          | ow l z => exact absurd w (n l z)
          | un => rfl
          | v _ => rfl
          | fz _ => rfl
      rw [e1]
      exact wb_out rs ss e fun l z q => absurd q (n l z)
    · have e1 : (match e[i]? with
        | some (.ow l _) => e.set i (bk l s)
        | _ => e)[k]? = e[k]? := by
        split
        · rw [List.getElem?_set_ne q]
        · rfl
      rw [wb_out rs ss _ fun l z w m => h l z (by rw [e1] at w; exact w) (List.mem_cons_of_mem _ m)]
      exact e1
theorem mem_sIdx {k : Nat} : ∀ {rs : List Od}, Od.s k ∈ rs → k ∈ sIdx rs
  | [], h => by cases h
  | .s i :: rs, h => by
    rcases List.mem_cons.mp h with h | h
    · cases h; exact List.mem_cons_self
    · exact List.mem_cons_of_mem _ (mem_sIdx h)
  | .r _ :: rs, h => by
    rcases List.mem_cons.mp h with h | h
    · cases h
    · exact mem_sIdx (rs := rs) h
  | .b _ :: rs, h => by
    rcases List.mem_cons.mp h with h | h
    · cases h
    · exact mem_sIdx (rs := rs) h
theorem wb_in {k : Nat} {l : Bool} {z : Bx} : ∀ {rs : List Od} {ss : List Sl} {e : En} {j : Nat} {s : Sl}, (sIdx rs).Nodup → rs[j]? = some (.s k) → ss[j]? = some s → e[k]? = some (.ow l z) → (wb rs ss e)[k]? = some (bk l s)
  | [], _, _, _, _, _, h, _, _ => by simp at h
  | _ :: _, [], _, _, _, _, _, h, _ => by simp at h
  | .s i :: rs, s' :: ss, e, 0, s, nd, h1, h2, h3 => by
    simp at h1 h2
    subst h1 h2
    unfold wb
    rw [h3]
    have hk : i < e.length := (List.getElem?_eq_some_iff.mp h3).1
    rw [wb_out]
    · exact List.getElem?_set_self hk
    · intro _ _ _ m
      exact (List.nodup_cons.mp nd).1 (mem_sIdx m)
  | .r _ :: rs, s' :: ss, e, 0, s, nd, h1, h2, h3 => by simp at h1
  | .b _ :: rs, s' :: ss, e, 0, s, nd, h1, h2, h3 => by simp at h1
  | .r _ :: rs, s' :: ss, e, j + 1, s, nd, h1, h2, h3 => wb_in (rs := rs) (j := j) nd (by simpa using h1) (by simpa using h2) h3
  | .b _ :: rs, s' :: ss, e, j + 1, s, nd, h1, h2, h3 => wb_in (rs := rs) (j := j) nd (by simpa using h1) (by simpa using h2) h3
  | .s i :: rs, s' :: ss, e, j + 1, s, nd, h1, h2, h3 => by
    unfold wb
    have hm : Od.s k ∈ rs := List.mem_of_getElem? (i := j) (by simpa using h1)
    have hik : i ≠ k := fun q => by subst q; exact (List.nodup_cons.mp nd).1 (mem_sIdx hm)
    refine wb_in (z := z) (rs := rs) (ss := ss) (j := j) (List.nodup_cons.mp nd).2 (by simpa using h1) (by simpa using h2) ?_
    split
    · rw [List.getElem?_set_ne hik]; exact h3
    · exact h3
/-- a call: what is handed over, what comes back -/
def eCallR (m : FSem) (rs : List Od) (e1 : En) : Out Od := match toSls e1 rs with
  | some ss => if (sIdx rs).Nodup then (match m ss with
    | .ok (.s _) _ => .bad
    | .ok r ss' => .ok r (wb rs ss' e1)
    | .exc c t ss' => .exc c t (wb rs ss' e1)
    | .bad => .bad) else .bad
  | none => .bad
def eCall (n : Nat) (m : FSem) (ma : SemA) : SemE := fun e => (ma e).bind fun rs e1 => if rs.length = n then eCallR m rs e1 else .bad
theorem toSls_get {e : En} : ∀ {rs : List Od} {ss : List Sl}, toSls e rs = some ss → rs.length = ss.length ∧ ∀ (j : Nat) (s : Sl), ss[j]? = some s → ∃ r, rs[j]? = some r ∧ toSl e r = some s
  | [], _, h => by cases h; exact ⟨rfl, fun j s h => by simp at h⟩
  | r :: rs, _, h => by
    unfold toSls at h
    cases q : toSl e r with
    | none => rw [q] at h; cases h
    | some s =>
      cases q2 : toSls e rs with
      | none => rw [q, q2] at h; cases h
      | some ss =>
        rw [q, q2] at h; cases h
        obtain ⟨l, g⟩ := toSls_get q2
        refine ⟨by simp [l], fun j s' hj => ?_⟩
        cases j with
        | zero => simp at hj; subst hj; exact ⟨r, rfl, q⟩
        | succ j => simpa using g j s' (by simpa using hj)
theorem ods_len {K : PySem.W.Frag} {σ : Sg} {Hs F H : Hp} : ∀ {rs : List Od} {xs : List V}, OdsR K σ Hs F H rs xs → rs.length = xs.length
  | _, _, .nil => rfl
  | _, _, .cons a b _ => by simp [ods_len b]
theorem ods_get {K : PySem.W.Frag} {σ : Sg} {Hs F H : Hp} : ∀ {rs : List Od} {xs : List V} {j : Nat} {r : Od}, OdsR K σ Hs F H rs xs → rs[j]? = some r → ∃ x, xs[j]? = some x ∧ OdR K σ Hs F H x r
  | _, _, _, _, .nil, h => by simp at h
  | _, _, 0, _, .cons a b _, h => by simp at h; subst h; exact ⟨_, rfl, a⟩
  | _, _, j + 1, _, .cons a b _, h => by simpa using ods_get b (by simpa using h)
theorem ods_ne {K : PySem.W.Frag} {σ : Sg} {Hs F H : Hp} {p : Addr} {z z' : Bx} : ∀ {rs : List Od} {xs : List V} {i j : Nat}, OdsR K σ Hs F H rs xs → rs[i]? = some (.b z) → rs[j]? = some (.b z') → xs[i]? = some (.ref p) → xs[j]? = some (.ref p) → i = j
  | _, _, _, _, .nil, h, _, _, _ => by simp at h
  | _, _, 0, 0, .cons a b n, _, _, _, _ => rfl
  | _, _, 0, j + 1, .cons a b n, h1, h2, h3, h4 => by
    simp at h1 h3
    exact absurd (by simpa using h4) (n z p h1 h3 j z' (by simpa using h2))
  | _, _, i + 1, 0, .cons a b n, h1, h2, h3, h4 => by
    simp at h2 h4
    exact absurd (by simpa using h3) (n z' p h2 h4 i z (by simpa using h1))
  | _, _, i + 1, j + 1, .cons a b n, h1, h2, h3, h4 => by rw [ods_ne (i := i) (j := j) b (by simpa using h1) (by simpa using h2) (by simpa using h3) (by simpa using h4)]
theorem s_inj {k : Nat} : ∀ {rs : List Od} {i j : Nat}, (sIdx rs).Nodup → rs[i]? = some (.s k) → rs[j]? = some (.s k) → i = j
  | [], _, _, _, h, _ => by simp at h
  | _ :: _, 0, 0, _, _, _ => rfl
  | .s m :: rs, 0, j + 1, nd, h1, h2 => by
    simp at h1; subst h1
    exact absurd (mem_sIdx (List.mem_of_getElem? (i := j) (by simpa using h2))) (List.nodup_cons.mp nd).1
  | .s m :: rs, i + 1, 0, nd, h1, h2 => by
    simp at h2; subst h2
    exact absurd (mem_sIdx (List.mem_of_getElem? (i := i) (by simpa using h1))) (List.nodup_cons.mp nd).1
  | .r _ :: rs, 0, j + 1, nd, h1, h2 => by simp at h1
  | .b _ :: rs, 0, j + 1, nd, h1, h2 => by simp at h1
  | .r _ :: rs, i + 1, 0, nd, h1, h2 => by simp at h2
  | .b _ :: rs, i + 1, 0, nd, h1, h2 => by simp at h2
  | .s m :: rs, i + 1, j + 1, nd, h1, h2 => by rw [s_inj (rs := rs) (i := i) (j := j) (List.nodup_cons.mp nd).2 (by simpa using h1) (by simpa using h2)]
  | .r _ :: rs, i + 1, j + 1, nd, h1, h2 => by rw [s_inj (rs := rs) (i := i) (j := j) nd (by simpa using h1) (by simpa using h2)]
  | .b _ :: rs, i + 1, j + 1, nd, h1, h2 => by rw [s_inj (rs := rs) (i := i) (j := j) nd (by simpa using h1) (by simpa using h2)]
theorem map_some_get {xs : List V} {j : Nat} {o : Option V} (h : (xs.map some)[j]? = some o) : ∃ x, o = some x ∧ xs[j]? = some x := by
  rw [List.getElem?_map] at h
  cases q : xs[j]? with
  | none => rw [q] at h; cases h
  | some x => rw [q] at h; cases h; exact ⟨x, rfl, rfl⟩
/-- what is handed over, as the callee sees it -/
theorem args_rel {K : PySem.W.Frag} {σ : Sg} {e0 e : En} {F0 H0 F H : Hp} {rs : List Od} {xs : List V} {ss : List Sl} (R0 : Rel K e0 σ F0 H0) (R : Rel K e σ F H) (S : Step e0 e σ F0 H0 F H) (O : OdsR K σ H0 F H rs xs) (hs : toSls e rs = some ss) (nd : (sIdx rs).Nodup) :
    Rel K ss (xs.map some) F H ∧ ∀ p, Own ss (xs.map some) p → Own e σ p ∨ H0 p = none := by
  obtain ⟨hl, g⟩ := toSls_get hs
  have cases_ow : ∀ (j : Nat) (l : Bool) (z : Bx) (p : Addr), ss[j]? = some (.ow l z) → (xs.map some)[j]? = some (some (.ref p)) → xs[j]? = some (.ref p) ∧ ((∃ z', rs[j]? = some (.b z') ∧ H0 p = none) ∨ ∃ i l' z', rs[j]? = some (.s i) ∧ e[i]? = some (.ow l' z') ∧ σ[i]? = some (some (.ref p))) := by
    intro j l z p h1 h2
    obtain ⟨r, hr, ht⟩ := g j _ h1
    obtain ⟨x, ex, hx⟩ := map_some_get h2
    cases ex
    refine ⟨hx, ?_⟩
    obtain ⟨x', hx', o⟩ := ods_get O hr
    rw [hx] at hx'; cases hx'
    cases r with
    | r t => cases ht
    | b z' =>
      obtain ⟨p', ep, hn, _⟩ := o
      cases ep
      exact .inl ⟨z', hr, hn⟩
    | s i =>
      simp only [toSl] at ht
      cases q : e[i]? with
      | none => rw [q] at ht; cases ht
      | some y =>
        rw [q] at ht
        cases y with
        | un => cases ht
        | v _ => cases ht
        | fz _ => cases ht
        | ow l' z' => exact .inr ⟨i, l', z', hr, q, o⟩
  refine ⟨⟨R.sub, by rw [List.length_map, ← hl, ods_len O], fun j s o h1 h2 => ?_, fun i j l b l' b' p h1 h2 h3 h4 => ?_⟩, fun p ⟨j, l, z, h1, h2⟩ => ?_⟩
  · obtain ⟨r, hr, ht⟩ := g j _ h1
    obtain ⟨x, ex, hx⟩ := map_some_get h2
    cases ex
    obtain ⟨x', hx', od⟩ := ods_get O hr
    rw [hx] at hx'; cases hx'
    cases r with
    | r t => cases ht; exact ⟨x, rfl, od⟩
    | b z =>
      cases ht
      obtain ⟨p, ep, _, hf, bx⟩ := od
      cases ep
      exact ⟨p, rfl, hf, bx⟩
    | s i =>
      simp only [toSl] at ht
      have od : σ[i]? = some (some x) := od
      cases q : e[i]? with
      | none => rw [q] at ht; cases ht
      | some y =>
        rw [q] at ht
        have z := R.at_ i y _ q od
        cases y with
        | un => cases ht
        | v _ => cases ht; exact z
        | fz _ => cases ht; exact z
        | ow l' z' => cases ht; exact z
  · obtain ⟨a1, c1⟩ := cases_ow i l b p h1 h3
    obtain ⟨a2, c2⟩ := cases_ow j l' b' p h2 h4
    rcases c1 with ⟨z1, r1, n1⟩ | ⟨i1, l1, z1, r1, e1, s1⟩
    · rcases c2 with ⟨z2, r2, n2⟩ | ⟨i2, l2, z2, r2, e2, s2⟩
      · exact ods_ne O r1 r2 a1 a2
      · exact absurd ⟨i2, l2, z2, e2, s2⟩ (fresh_not_own R0 S n1)
    · rcases c2 with ⟨z2, r2, n2⟩ | ⟨i2, l2, z2, r2, e2, s2⟩
      · exact absurd ⟨i1, l1, z1, e1, s1⟩ (fresh_not_own R0 S n2)
      · have q := R.ne i1 i2 _ _ _ _ p e1 e2 s1 s2
        subst q
        exact s_inj nd r1 r2
  · obtain ⟨a1, c1⟩ := cases_ow j l z p h1 h2
    rcases c1 with ⟨z1, r1, n1⟩ | ⟨i1, l1, z1, r1, e1, s1⟩
    · exact .inr n1
    · exact .inl ⟨i1, l1, z1, e1, s1⟩
/-- behind a call -/
theorem back_rel {K : PySem.W.Frag} {σ : Sg} {e0 e : En} {F0 H0 F H F' H' : Hp} {rs : List Od} {xs : List V} {ss ss' : List Sl} (R0 : Rel K e0 σ F0 H0) (R : Rel K e σ F H) (S : Step e0 e σ F0 H0 F H) (O : OdsR K σ H0 F H rs xs) (hs : toSls e rs = some ss) (nd : (sIdx rs).Nodup)
    (R' : Rel K ss' (xs.map some) F' H') (S' : Step ss ss' (xs.map some) F H F' H') : Rel K (wb rs ss' e) σ F' H' ∧ Step e0 (wb rs ss' e) σ F0 H0 F' H' := by
  obtain ⟨RA, ow⟩ := args_rel R0 R S O hs nd
  obtain ⟨hl, g⟩ := toSls_get hs
  have hl' : ss'.length = rs.length := by rw [R'.len, List.length_map, ods_len O]
  -- each name: as it was, or as the callee left it
  have at2 : ∀ (k : Nat) (s : Sl), (wb rs ss' e)[k]? = some s → (e[k]? = some s ∧ ∀ l z, s = Sl.ow l z → Od.s k ∉ rs) ∨ ∃ (j : Nat) (l : Bool) (z : Bx) (s' : Sl) (x : V), rs[j]? = some (Od.s k) ∧ ss'[j]? = some s' ∧ e[k]? = some (Sl.ow l z) ∧ s = bk l s' ∧ ss[j]? = some (Sl.ow true z) ∧ (∃ z', s' = Sl.ow true z' ∨ s' = Sl.fz z') ∧ xs[j]? = some x ∧ σ[k]? = some (some x) := by
    intro k s h
    by_cases c : ∃ l z, e[k]? = some (.ow l z) ∧ Od.s k ∈ rs
    · obtain ⟨l, z, c1, c2⟩ := c
      obtain ⟨j, hj⟩ := List.getElem?_of_mem c2
      have hjl : j < ss'.length := by rw [hl']; exact (List.getElem?_eq_some_iff.mp hj).1
      have hj2 : ss'[j]? = some ss'[j] := List.getElem?_eq_getElem hjl
      rw [wb_in nd hj hj2 c1] at h
      cases h
      have hss : ss[j]? = some (.ow true z) := by
        have hjl2 : j < ss.length := by rw [← hl]; exact (List.getElem?_eq_some_iff.mp hj).1
        obtain ⟨r, hr, ht⟩ := g j _ (List.getElem?_eq_getElem hjl2)
        rw [hj] at hr; cases hr
        simp only [toSl, c1] at ht
        cases ht'' : ss[j]
        all_goals rw [ht''] at ht
        all_goals cases ht
        rw [List.getElem?_eq_getElem hjl2, ht'']
      obtain ⟨b', hb⟩ := S'.lt j ⟨z, .inl hss⟩
      obtain ⟨x, hx, od⟩ := ods_get O hj
      refine .inr ⟨j, l, z, _, x, hj, hj2, c1, rfl, hss, ⟨b', ?_⟩, hx, od⟩
      rw [hj2] at hb
      rcases hb with hb | hb
      · exact .inl (Option.some.inj hb)
      · exact .inr (Option.some.inj hb)
    · rw [wb_out rs ss' e fun l z q m => c ⟨l, z, q, m⟩] at h
      exact .inl ⟨h, fun l z q m => c ⟨l, z, by rw [h, q], m⟩⟩
  have own2 : ∀ (k : Nat) (l : Bool) (b : Bx), (wb rs ss' e)[k]? = some (Sl.ow l b) → ∃ l' b', e[k]? = some (Sl.ow l' b') := fun k l b h => by
    rcases at2 k _ h with ⟨h, _⟩ | ⟨j, l1, z, s', x, _, _, h, _⟩
    · exact ⟨l, b, h⟩
    · exact ⟨l1, z, h⟩
  have own : ∀ p, Own (wb rs ss' e) σ p → Own e σ p := fun p ⟨k, l, b, h1, h2⟩ => by
    obtain ⟨l', b', h⟩ := own2 k l b h1
    exact ⟨k, l', b', h, h2⟩
  refine ⟨⟨R'.sub, by rw [wb_len]; exact R.len, fun k s o h1 h2 => ?_, fun i j l b l' b' p h1 h2 h3 h4 => ?_⟩, ⟨fun a o h => S'.ff _ _ (S.ff _ _ h), fun a o h n => ?_, fun a o h => ?_, fun p h => S.own _ (own p h), fun i hi => ?_, fun i l b h => ?_⟩⟩
  · rcases at2 k s h1 with ⟨h, no⟩ | ⟨j, l, z, s', x, hr, hs', he, es, hss, lent, hx, hσ⟩
    · have q := R.at_ k s o h h2
      cases s with
      | un => trivial
      | v t => obtain ⟨y, ey, d⟩ := q; exact ⟨y, ey, dp_mono S'.ff _ _ d⟩
      | fz b => obtain ⟨y, ey, d⟩ := q; exact ⟨y, ey, dp_mono S'.ff _ _ d⟩
      | ow l b =>
        obtain ⟨p, ep, hf, bx⟩ := q
        subst ep
        obtain ⟨u, hu⟩ := bx_some bx
        have na : ¬ Own ss (xs.map some) p := fun ⟨j, l1, z1, g1, g2⟩ => by
          obtain ⟨r, hr, ht⟩ := g j _ g1
          obtain ⟨x, ex, hx⟩ := map_some_get g2
          cases ex
          obtain ⟨x', hx', od⟩ := ods_get O hr
          rw [hx] at hx'; cases hx'
          cases r with
          | r t => cases ht
          | b z' =>
            obtain ⟨p', ep, hn, _⟩ := od
            cases ep
            exact fresh_not_own R0 S hn ⟨k, l, b, h, h2⟩
          | s i =>
            simp only [toSl] at ht
            cases q : e[i]? with
            | none => rw [q] at ht; cases ht
            | some y =>
              rw [q] at ht
              cases y with
              | un => cases ht
              | v _ => cases ht
              | fz _ => cases ht
              | ow l' z' =>
                have ik := R.ne i k _ _ _ _ p q h od h2
                subst ik
                exact no l b rfl (List.mem_of_getElem? hr)
        obtain ⟨k1, k2⟩ := S'.keep p u hu na
        exact ⟨p, rfl, k2 hf, bx_keep bx S'.ff fun o' h' => by rw [hu] at h'; cases h'; exact k1⟩
    · rw [hσ] at h2; cases h2
      have q := R'.at_ j s' (some x) hs' (by rw [List.getElem?_map, hx]; rfl)
      subst es
      obtain ⟨z', lent⟩ := lent
      rcases lent with e' | e'
      · subst e'; exact q
      · subst e'
        cases l with
        | true => exact q
        | false => exact q
  · obtain ⟨l1, b1, q1⟩ := own2 i _ _ h1
    obtain ⟨l2, b2, q2⟩ := own2 j _ _ h2
    exact R.ne i j _ _ _ _ p q1 q2 h3 h4
  · obtain ⟨k1, k2⟩ := S.keep a o h n
    have na : ¬ Own ss (xs.map some) a := fun z => by
      rcases ow a z with z | z
      · exact n (S.own _ z)
      · rw [h] at z; cases z
    obtain ⟨k3, k4⟩ := S'.keep a o k1 na
    exact ⟨k3, fun z => k4 (k2 z)⟩
  · obtain ⟨o1, h1⟩ := S.dom a o h
    exact S'.dom a o1 h1
  · obtain ⟨b, hb⟩ := S.lt i hi
    rcases hb with hb | hb
    · by_cases m : Od.s i ∈ rs
      · obtain ⟨j, hj⟩ := List.getElem?_of_mem m
        have hjl : j < ss'.length := by rw [hl']; exact (List.getElem?_eq_some_iff.mp hj).1
        have w := wb_in nd hj (List.getElem?_eq_getElem hjl) hb
        rcases at2 i _ w with ⟨h, no⟩ | ⟨j', l, z, s', x, hr, hs', he, es, hss, ⟨z', lent⟩, hx, hσ⟩
        · exact ⟨b, .inl (by rw [wb_in nd hj (List.getElem?_eq_getElem hjl) hb] at w ⊢; rw [← h, hb])⟩
        · rw [hb] at he; cases he
          rcases lent with e' | e'
          · subst e'; exact ⟨z', .inl (by rw [w, es]; rfl)⟩
          · subst e'; exact ⟨z', .inr (by rw [w, es]; rfl)⟩
      · exact ⟨b, .inl (by rw [wb_out rs ss' e fun _ _ _ m' => m m']; exact hb)⟩
    · exact ⟨b, .inr (by rw [wb_out rs ss' e fun l z q _ => by rw [hb] at q; cases q]; exact hb)⟩
  · rcases at2 i _ h with ⟨q, _⟩ | ⟨j, l1, z, s', x, _, _, q, es, _, ⟨z', lent⟩, _⟩
    · exact S.sk i l b q
    · rcases lent with e' | e'
      · subst e'; cases es; exact S.sk i l z q
      · subst e'
        cases l1 with
        | true => cases es
        | false => cases es
theorem call_read {n : Nat} {m : FSem} {ma : SemA} {K : PySem.W.Frag} {σ : Sg} {H : Hp} {Q : VK} (h : tE K W (eCall n m ma) σ H Q) : tA K W ma σ H fun vs H1 => spF K n m vs H1 Q (WE W σ) := by
  obtain ⟨e, F, R, h⟩ := h
  refine tX_imp (tX_bind (rel := fun σ Hs F H xs rs => OdsR K σ Hs F H rs xs) R .refl h) fun xs H1 ⟨rs, e1, F1, R1, S1, O1, h1⟩ => ?_
  by_cases hl : rs.length = n
  · rw [if_pos hl] at h1
    refine ⟨by rw [← ods_len O1]; exact hl, ?_⟩
    unfold eCallR at h1
    cases q : toSls e1 rs with
    | none => rw [q] at h1; exact h1.elim
    | some ss =>
      simp only [q] at h1
      by_cases nd : (sIdx rs).Nodup
      · rw [if_pos nd] at h1
        obtain ⟨RA, _⟩ := args_rel R R1 S1 O1 q nd
        refine ⟨ss, F1, RA, ?_⟩
        cases w : m ss with
        | bad => rw [w] at h1; exact h1
        | exc c t ss' =>
          rw [w] at h1
          exact fun F' H' cls d R' S' x => let ⟨a, b⟩ := back_rel R R1 S1 O1 q nd R' S'; h1 F' H' cls d a b x
        | ok r ss' =>
          rw [w] at h1
          intro x F' H' R' S' o
          obtain ⟨a, b⟩ := back_rel R R1 S1 O1 q nd R' S'
          cases r with
          | s i => exact h1.elim
          | r t => exact h1 x F' H' a b o
          | b z => obtain ⟨p, ep, hn, hf, bx⟩ := o; exact h1 x F' H' a b ⟨p, ep, step_none S1 hn, hf, bx⟩
      · rw [if_neg nd] at h1; exact h1.elim
  · rw [if_neg hl] at h1; exact h1.elim
theorem qcall {CX : CXT} {k : Nat} {f : Addr} {fd : FuncData} {ps : List Str} {m : FSem} {ma : SemA} {x : Str} {p : Pos} {es : List Expr} {n : Nat} (Fn : FnOk X.prog X.w X.K X.mg X.base CX k f fd ps (spF X.K n m)) (hr : Room k X.A) (hg : Gl X x) (hm : X.mg x = some (.ref f)) (hk : PySem.W.keepIn X.K (.ref f) = true)
    (hb : Binds X.K fd ps []) (hx : ∀ σ, PassesAt CX X σ (WE W σ)) (ha : QA X W (a :: es) ma) (hdb : (x == ("__debug__" : Str)) = false := by decide) (he : starEach (a :: es) X.env = (false, eval a X.env) :: starEach es X.env := by rfl)
    (hpl : (backTo pos (starEach es X.env)).any (·.1) = false := by rfl) : QE X W (.Call (.Name x p) (a :: es) [] pos) (eCall n m ma) :=
  pe_mono (pe_callS (E := fun σ => WE W σ) Fn hr hg hm hk hb hx ha hdb he hpl) fun σ H Q h => call_read h
end
end Ev

set_option Elab.async false
set_option linter.all false
set_option maxRecDepth 100000
namespace Ev
open PySem PySem.Spec PyProof.Rows L2
/-- the entry of the def whose body runs -/
structure Bd where
  e : En
  σ : Sg
  F : Hp
  H : Hp
structure BOk (B : Bd) (e : En) (σ : Sg) (F H : Hp) : Prop where
  ff : ∀ a o, B.F a = some o → F a = some o
  keep : ∀ a o, B.H a = some o → ¬ Own B.e B.σ a → H a = some o ∧ (B.F a = none → F a = none)
  dom : ∀ a o, B.H a = some o → ∃ o', H a = some o'
  fresh : ∀ (i : Nat) (b : Bx) (p : Addr), e[i]? = some (Sl.ow false b) → σ[i]? = some (some (V.ref p)) → B.H p = none
  own : ∀ (i : Nat) (b : Bx), e[i]? = some (Sl.ow true b) → σ[i]? = B.σ[i]? ∧ ∃ b', B.e[i]? = some (Sl.ow true b')
  lent : ∀ (i : Nat) (b : Bx), B.e[i]? = some (Sl.ow true b) → Lent e i ∧ σ[i]? = B.σ[i]?
section
variable {K : PySem.W.Frag} {W : WX} {B : Bd} {e e1 e2 : En} {σ σ1 : Sg} {F H F1 H1 F2 H2 : Hp}
theorem BOk.own' (k : BOk B e σ F H) {p : Addr} (h : Own e σ p) : Own B.e B.σ p ∨ B.H p = none := by
  obtain ⟨i, l, b, h1, h2⟩ := h
  cases l with
  | true => obtain ⟨q, b', q2⟩ := k.own i b h1; exact .inl ⟨i, true, b', q2, by rw [← q]; exact h2⟩
  | false => exact .inr (k.fresh i b p h1 h2)
theorem BOk.step (k : BOk B e σ F H) (S : Step e e1 σ F H F1 H1) : BOk B e1 σ F1 H1 where
  ff := fun a o h => S.ff _ _ (k.ff _ _ h)
  keep := fun a o h n => by
    obtain ⟨h1, h2⟩ := k.keep a o h n
    obtain ⟨h3, h4⟩ := S.keep a o h1 fun z => by
      rcases k.own' z with z | z
      · exact n z
      · rw [h] at z; cases z
    exact ⟨h3, fun z => h4 (h2 z)⟩
  dom := fun a o h => by
    obtain ⟨o1, h1⟩ := k.dom a o h
    exact S.dom a o1 h1
  fresh := fun i b p h1 h2 => by
    obtain ⟨b', q⟩ := S.sk i _ _ h1
    exact k.fresh i b' p q h2
  own := fun i b h1 => by
    obtain ⟨b', q⟩ := S.sk i _ _ h1
    exact k.own i b' q
  lent := fun i b h => ⟨S.lt i (k.lent i b h).1, (k.lent i b h).2⟩

/-! ### statements -/
inductive Fl where
  | nx
  | rt (r : Od)
  | bk
  | ct
abbrev SemS := En → Out Fl
def OutS (K : PySem.W.Frag) (W : WX) (B : Bd) (o : Out Fl) (D : Ends) : Prop := match o with
  | .ok .nx e' => ∀ σ' F' H', Rel K e' σ' F' H' → BOk B e' σ' F' H' → D.nx σ' H'
  | .ok .bk e' => ∀ σ' F' H', Rel K e' σ' F' H' → BOk B e' σ' F' H' → D.bk σ' H'
  | .ok .ct e' => ∀ σ' F' H', Rel K e' σ' F' H' → BOk B e' σ' F' H' → D.ct σ' H'
  | .ok (.rt r) e' => ∀ x σ' F' H', Rel K e' σ' F' H' → BOk B e' σ' F' H' → OdR K [] B.H F' H' x r → D.rt x H'
  | .exc c t e' => ∀ σ' F' H' cls d, Rel K e' σ' F' H' → BOk B e' σ' F' H' → ExR K F' H' c t cls d → W cls d σ' H'
  | .bad => False
def tS (K : PySem.W.Frag) (W : WX) (B : Bd) (m : SemS) : TS := fun D σ H => ∃ e F, Rel K e σ F H ∧ BOk B e σ F H ∧ OutS K W B (m e) D
theorem tS_bind {α β : Type} {rel : Sg → Hp → Hp → Hp → β → α → Prop} {m : En → Out α} {f : α → En → Out Fl} {D : Ends} (R : Rel K e σ F H) (k : BOk B e σ F H) (h : OutS K W B ((m e).bind f) D) :
    tX K W rel m σ H (fun x H1 => ∃ r e1 F1, Rel K e1 σ F1 H1 ∧ Step e e1 σ F H F1 H1 ∧ BOk B e1 σ F1 H1 ∧ rel σ H F1 H1 x r ∧ OutS K W B (f r e1) D) := by
  refine ⟨e, F, R, ?_⟩
  cases q : m e with
  | ok r e' => rw [q] at h; exact fun x F' H' R' S' O => ⟨r, e', F', R', S', k.step S', O, h⟩
  | exc c t e' => rw [q] at h; exact fun F' H' cls d R' S' X => h σ F' H' cls d R' (k.step S') X
  | bad => rw [q] at h; exact h
abbrev QS (X : Cx) (W : WX) (B : Bd) (st : Stmt) (m : SemS) : Prop := PS X st (tS X.K W B m)
abbrev QSs (X : Cx) (W : WX) (B : Bd) (st : List Stmt) (m : SemS) : Prop := PSs X st (tS X.K W B m)
def isLent (e : En) (i : Nat) : Bool := match e[i]? with
  | some (.ow true _) => true
  | some (.fz _) => true
  | _ => false
theorem isLent_no {i : Nat} (h : isLent e i = false) : ¬ Lent e i := fun ⟨b, q⟩ => by
  rcases q with q | q <;> simp [isLent, q] at h
theorem set_v {i : Nat} {x : V} {t : T} (R : Rel K e σ F H) (k : BOk B e σ F H) (d : Dp K F x t) (n : ¬ Lent e i) : Rel K (e.set i (.v t)) (σ.set i (some x)) F H ∧ BOk B (e.set i (.v t)) (σ.set i (some x)) F H := by
  have get : ∀ (j : Nat) (s : Sl), (e.set i (.v t))[j]? = some s → (j = i ∧ s = .v t ∧ i < e.length) ∨ (i ≠ j ∧ e[j]? = some s) := fun j s h => by
    by_cases q : i = j
    · subst q
      have hi : i < e.length := by have := (List.getElem?_eq_some_iff.mp h).1; simpa using this
      rw [List.getElem?_set_self hi] at h; cases h; exact .inl ⟨rfl, rfl, hi⟩
    · rw [List.getElem?_set_ne q] at h; exact .inr ⟨q, h⟩
  have sg : ∀ (j : Nat), i ≠ j → (σ.set i (some x))[j]? = σ[j]? := fun j q => List.getElem?_set_ne q
  refine ⟨⟨R.sub, by simp [R.len], fun j s o h1 h2 => ?_, fun j j' l b l' b' p h1 h2 h3 h4 => ?_⟩, ⟨k.ff, k.keep, k.dom, fun j b p h1 h2 => ?_, fun j b h1 => ?_, fun j b h => ?_⟩⟩
  · rcases get j s h1 with ⟨rfl, rfl, hi⟩ | ⟨q, h⟩
    · rw [List.getElem?_set_self (by rw [← R.len]; exact hi)] at h2; cases h2; exact ⟨x, rfl, d⟩
    · rw [sg j q] at h2; exact R.at_ j s o h h2
  · rcases get j _ h1 with ⟨_, z, _⟩ | ⟨q, g1⟩
    · cases z
    · rcases get j' _ h2 with ⟨_, z, _⟩ | ⟨q', g2⟩
      · cases z
      · rw [sg j q] at h3; rw [sg j' q'] at h4; exact R.ne j j' l b l' b' p g1 g2 h3 h4
  · rcases get j _ h1 with ⟨_, z, _⟩ | ⟨q, g1⟩
    · cases z
    · rw [sg j q] at h2; exact k.fresh j b p g1 h2
  · rcases get j _ h1 with ⟨_, z, _⟩ | ⟨q, g1⟩
    · cases z
    · rw [sg j q]; exact k.own j b g1
  · obtain ⟨l, q⟩ := k.lent j b h
    have ne : i ≠ j := fun z => n (by rw [z]; exact l)
    refine ⟨?_, by rw [sg j ne]; exact q⟩
    obtain ⟨b', l⟩ := l
    exact ⟨b', by rw [List.getElem?_set_ne ne]; exact l⟩
theorem set_b {i : Nat} {p : Addr} {z : Bx} (R : Rel K e σ F H) (k : BOk B e σ F H) (hf : F p = none) (bx : BxAt K F H p z) (hB : B.H p = none) (no : ¬ Own e σ p) (n : ¬ Lent e i) : Rel K (e.set i (.ow false z)) (σ.set i (some (.ref p))) F H ∧ BOk B (e.set i (.ow false z)) (σ.set i (some (.ref p))) F H := by
  have get : ∀ (j : Nat) (s : Sl), (e.set i (.ow false z))[j]? = some s → (j = i ∧ s = .ow false z ∧ i < e.length) ∨ (i ≠ j ∧ e[j]? = some s) := fun j s h => by
    by_cases q : i = j
    · subst q
      have hi : i < e.length := by have := (List.getElem?_eq_some_iff.mp h).1; simpa using this
      rw [List.getElem?_set_self hi] at h; cases h; exact .inl ⟨rfl, rfl, hi⟩
    · rw [List.getElem?_set_ne q] at h; exact .inr ⟨q, h⟩
  have sg : ∀ (j : Nat), i ≠ j → (σ.set i (some (V.ref p)))[j]? = σ[j]? := fun j q => List.getElem?_set_ne q
  have si : i < e.length → (σ.set i (some (V.ref p)))[i]? = some (some (V.ref p)) := fun h => List.getElem?_set_self (by rw [← R.len]; exact h)
  refine ⟨⟨R.sub, by simp [R.len], fun j s o h1 h2 => ?_, fun j j' l b l' b' p' h1 h2 h3 h4 => ?_⟩, ⟨k.ff, k.keep, k.dom, fun j b p' h1 h2 => ?_, fun j b h1 => ?_, fun j b h => ?_⟩⟩
  · rcases get j s h1 with ⟨rfl, rfl, hi⟩ | ⟨q, h⟩
    · rw [si hi] at h2; cases h2; exact ⟨p, rfl, hf, bx⟩
    · rw [sg j q] at h2; exact R.at_ j s o h h2
  · rcases get j _ h1 with ⟨e1, _, hi⟩ | ⟨q, g1⟩
    · rcases get j' _ h2 with ⟨e2, _, _⟩ | ⟨q', g2⟩
      · rw [e1, e2]
      · subst e1
        rw [si hi] at h3; cases h3
        rw [sg j' q'] at h4
        exact absurd ⟨j', l', b', g2, h4⟩ no
    · rcases get j' _ h2 with ⟨e2, _, hi⟩ | ⟨q', g2⟩
      · subst e2
        rw [si hi] at h4; cases h4
        rw [sg j q] at h3
        exact absurd ⟨j, l, b, g1, h3⟩ no
      · rw [sg j q] at h3; rw [sg j' q'] at h4; exact R.ne j j' l b l' b' p' g1 g2 h3 h4
  · rcases get j _ h1 with ⟨e1, _, hi⟩ | ⟨q, g1⟩
    · subst e1; rw [si hi] at h2; cases h2; exact hB
    · rw [sg j q] at h2; exact k.fresh j b p' g1 h2
  · rcases get j _ h1 with ⟨_, z, _⟩ | ⟨q, g1⟩
    · cases z
    · rw [sg j q]; exact k.own j b g1
  · obtain ⟨l, q⟩ := k.lent j b h
    have ne : i ≠ j := fun z => n (by rw [z]; exact l)
    refine ⟨?_, by rw [sg j ne]; exact q⟩
    obtain ⟨b', l⟩ := l
    exact ⟨b', by rw [List.getElem?_set_ne ne]; exact l⟩
/-- name = value -/
def setO (i : Nat) (r : Od) (e : En) : Out Fl := if isLent e i then .bad else match r with
  | .b z => .ok .nx (e.set i (.ow false z))
  | r => match esc r e with
    | some (t, e') => .ok .nx (e'.set i (.v t))
    | none => .bad
theorem esc_lent {r : Od} {t : T} {i : Nat} (h : esc r e = some (t, e1)) (n : ¬ Lent e i) : ¬ Lent e1 i := by
  cases r with
  | r u => cases h; exact n
  | b z =>
    simp only [esc] at h
    split at h
    · cases h; exact n
    · cases h
  | s j =>
    simp only [esc] at h
    cases q : e[j]? with
    | none => rw [q] at h; cases h
    | some s =>
      rw [q] at h
      cases s with
      | un => cases h
      | v u => cases h; exact n
      | fz u => cases h; exact n
      | ow l b =>
        simp only at h
        split at h
        · cases h
          rintro ⟨b', w⟩
          by_cases ij : j = i
          · subst ij
            have hj : j < e.length := (List.getElem?_eq_some_iff.mp q).1
            rw [List.getElem?_set_self hj] at w
            cases l with
            | true => exact n ⟨b, .inl q⟩
            | false => rcases w with w | w <;> cases w
          · rw [List.getElem?_set_ne ij] at w
            exact n ⟨b', w⟩
        · cases h
theorem set_ok {i : Nat} {r : Od} {x : V} {D : Ends} {e0 : En} {F0 H0 : Hp} (R0 : Rel K e0 σ F0 H0) (k0 : BOk B e0 σ F0 H0) (R : Rel K e σ F H) (S : Step e0 e σ F0 H0 F H) (O : OdR K σ H0 F H x r) (h : OutS K W B (setO i r e) D) : D.nx (σ.set i (some x)) H := by
  unfold setO at h
  cases l : isLent e i with
  | true => rw [l] at h; exact h.elim
  | false =>
    rw [l, if_neg (by decide)] at h
    have n := isLent_no l
    have tree : ∀ t e', esc r e = some (t, e') → OutS K W B (.ok .nx (e'.set i (.v t))) D → D.nx (σ.set i (some x)) H := fun t e' q h => by
      obtain ⟨F', R', S', d, _⟩ := esc_ok R0 R S O q
      obtain ⟨a, b⟩ := set_v R' (k0.step S') d (esc_lent q n)
      exact h _ _ _ a b
    cases r with
    | b z =>
      obtain ⟨p, rfl, hn, hf, bx⟩ := O
      have hB : B.H p = none := by
        cases q : B.H p with
        | none => rfl
        | some o => obtain ⟨o', e'⟩ := k0.dom _ _ q; rw [hn] at e'; cases e'
      obtain ⟨a, b⟩ := set_b R (k0.step S) hf bx hB (fresh_not_own R0 S hn) n
      exact h _ _ _ a b
    | r t =>
      cases q : esc (.r t) e with
      | none => simp only [q] at h; exact h.elim
      | some te => obtain ⟨t', e'⟩ := te; simp only [q] at h; exact tree t' e' q h
    | s j =>
      cases q : esc (.s j) e with
      | none => simp only [q] at h; exact h.elim
      | some te => obtain ⟨t', e'⟩ := te; simp only [q] at h; exact tree t' e' q h
end
section
variable {X : Cx} {W : WX} {B : Bd} {a b c : Expr} {ma mb mc : SemE} {pos : Pos} {st : Stmt} {sts : List Stmt} {m1 m2 : SemS}
def sSet (i : Nat) (m : SemE) : SemS := fun e => (m e).bind fun r e1 => setO i r e1
theorem asg_read {i : Nat} {m : SemE} {K : PySem.W.Frag} {D : Ends} {σ : Sg} {H : Hp} (h : tS K W B (sSet i m) D σ H) : tAsg (tE K W m) (gName i) D σ H := by
  obtain ⟨e, F, R, k, h⟩ := h
  exact tX_imp (tS_bind (rel := fun σ => OdR K σ) R k h) fun x H1 ⟨r, e1, F1, R1, S1, k1, O, h1⟩ => set_ok R k R1 S1 O h1
theorem qset {i : Nat} {x : Str} {pos' : Pos} (hN : X.N.Nodup) (hi : X.N[i]? = some x) (hx : Loc X.env.scope x) (he : QE X W a ma) (hs : swapsWith a (some (.Name x pos')) pos.line X.env = pure false := by rfl)
    (hf : X.fn x = true ∨ X.env.scope.names.lookup x = some .local := by first | exact .inl rfl | exact .inr rfl | assumption) : QS X W B (.Assign [.Name x pos'] a pos) (sSet i ma) :=
  ps_mono (ps_set hN hi hx he hs hf) fun D σ H h => asg_read h
def sDrop (m : SemE) : SemS := fun e => (m e).bind fun _ e1 => .ok .nx e1
theorem qexpr (he : QE X W a ma) (hs : swapsWith a none pos.line X.env = pure false := by rfl) : QS X W B (.Expr a pos) (sDrop ma) := by
  refine ps_mono (ps_expr he hs) fun D σ H h => ?_
  obtain ⟨e, F, R, k, h⟩ := h
  exact tX_imp (tS_bind (rel := fun σ => OdR X.K σ) R k h) fun x H1 ⟨r, e1, F1, R1, S1, k1, O, h1⟩ => h1 _ _ _ R1 k1
def sNil : SemS := fun e => .ok .nx e
theorem qnil : QSs X W B [] sNil := pss_mono pss_nil fun D σ H ⟨e, F, R, k, h⟩ => h _ _ _ R k
def sBrk : SemS := fun e => .ok .bk e
def sCnt : SemS := fun e => .ok .ct e
def sNever : SemS := fun _ => .bad
theorem qnever : QS X W B st sNever := ps_mono ps_never fun D σ H ⟨e, F, R, k, h⟩ => h.elim
theorem qnevers : QSs X W B sts sNever := pss_mono pss_never fun D σ H ⟨e, F, R, k, h⟩ => h.elim
def sSeq (m1 m2 : SemS) : SemS := fun e => match m1 e with
  | .ok .nx e1 => m2 e1
  | o => o
theorem qcons (h1 : QS X W B st m1) (h2 : QSs X W B sts m2) : QSs X W B (st :: sts) (sSeq m1 m2) := by
  refine pss_mono (pss_cons h1 h2) fun D σ H h => ?_
  obtain ⟨e, F, R, k, h⟩ := h
  refine ⟨e, F, R, k, ?_⟩
  unfold sSeq at h
  cases q : m1 e with
  | bad => rw [q] at h; exact h
  | exc c t e' => rw [q] at h; exact h
  | ok f e' =>
    rw [q] at h
    cases f with
    | nx => exact fun σ' F' H' R' k' => ⟨e', F', R', k', h⟩
    | rt r => exact h
    | bk => exact h
    | ct => exact h
theorem qone (h1 : QS X W B st m1) : QSs X W B [st] m1 := pss_one h1
def sIf (c : SemT) (m1 m2 : SemS) : SemS := fun e => (c e).bind fun k e1 => if k then m1 e1 else m2 e1
theorem qif {mt : SemT} {s1 s2 : List Stmt} (hc : QT X W c mt) (h1 : QSs X W B s1 m1) (h2 : QSs X W B s2 m2) : QS X W B (.If c s1 s2 pos) (sIf mt m1 m2) := by
  refine ps_mono (ps_if hc h1 h2) fun D σ H h => ?_
  obtain ⟨e, F, R, k, h⟩ := h
  refine tX_imp (tS_bind (rel := fun _ _ _ _ (x : Bool) r => x = r) R k h) fun x H1 ⟨r, e1, F1, R1, S1, k1, O, h1⟩ => ?_
  subst O
  cases x with
  | true => exact ⟨e1, F1, R1, k1, h1⟩
  | false => exact ⟨e1, F1, R1, k1, h1⟩
/-- return: what a name alone holds goes with it -/
def retO (r : Od) (e : En) : Out Fl := match r with
  | .r t => .ok (.rt (.r t)) e
  | .b z => .ok (.rt (.b z)) e
  | .s i => match e[i]? with
    | some (.ow false z) => .ok (.rt (.b z)) (e.set i .un)
    | _ => (match esc (.s i) e with
      | some (t, e') => .ok (.rt (.r t)) e'
      | none => .bad)
def sRet (m : SemE) : SemS := fun e => (m e).bind fun r e1 => retO r e1
end
end Ev

set_option Elab.async false
set_option linter.all false
set_option maxRecDepth 100000
namespace Ev
open PySem PySem.Spec PyProof.Rows L2
section
variable {K : PySem.W.Frag} {W : WX} {B : Bd} {e e1 e2 : En} {σ σ1 : Sg} {F H F1 H1 F2 H2 : Hp}
theorem set_un {i : Nat} (R : Rel K e σ F H) (k : BOk B e σ F H) (n : ¬ Lent e i) : Rel K (e.set i .un) σ F H ∧ BOk B (e.set i .un) σ F H := by
  have get : ∀ (j : Nat) (s : Sl), (e.set i .un)[j]? = some s → s = .un ∨ e[j]? = some s := fun j s h => by
    by_cases q : i = j
    · subst q
      have hi : i < e.length := by have := (List.getElem?_eq_some_iff.mp h).1; simpa using this
      rw [List.getElem?_set_self hi] at h; cases h; exact .inl rfl
    · rw [List.getElem?_set_ne q] at h; exact .inr h
  have gow : ∀ (j : Nat) (l : Bool) (b : Bx), (e.set i .un)[j]? = some (.ow l b) → e[j]? = some (.ow l b) := fun j l b h => by
    rcases get j _ h with z | z
    · cases z
    · exact z
  refine ⟨⟨R.sub, by simp [R.len], fun j s o h1 h2 => ?_, fun j j' l b l' b' p h1 h2 => R.ne j j' l b l' b' p (gow _ _ _ h1) (gow _ _ _ h2)⟩, ⟨k.ff, k.keep, k.dom, fun j b p h1 => k.fresh j b p (gow _ _ _ h1), fun j b h1 => k.own j b (gow _ _ _ h1), fun j b h => ?_⟩⟩
  · rcases get j s h1 with rfl | z
    · trivial
    · exact R.at_ j s o z h2
  · obtain ⟨⟨b', l⟩, q⟩ := k.lent j b h
    have ne : i ≠ j := fun z => n (by rw [z]; exact ⟨b', l⟩)
    exact ⟨⟨b', by rw [List.getElem?_set_ne ne]; exact l⟩, q⟩
theorem ret_ok {r : Od} {x : V} {D : Ends} {e0 : En} {F0 H0 : Hp} (R0 : Rel K e0 σ F0 H0) (k0 : BOk B e0 σ F0 H0) (R : Rel K e σ F H) (S : Step e0 e σ F0 H0 F H) (O : OdR K σ H0 F H x r) (h : OutS K W B (retO r e) D) : D.rt x H := by
  have k := k0.step S
  have hB : ∀ p, H0 p = none → B.H p = none := fun p hn => by
    cases q : B.H p with
    | none => rfl
    | some o => obtain ⟨o', e'⟩ := k0.dom _ _ q; rw [hn] at e'; cases e'
  cases r with
  | r t => exact h x σ F H R k O
  | b z => obtain ⟨p, ep, hn, hf, bx⟩ := O; exact h x σ F H R k ⟨p, ep, hB p hn, hf, bx⟩
  | s i =>
    have hs : σ[i]? = some (some x) := O
    have tree : ∀ t e', esc (.s i) e = some (t, e') → OutS K W B (.ok (.rt (.r t)) e') D → D.rt x H := fun t e' q h => by
      obtain ⟨F', R', S', d, _⟩ := esc_ok R0 R S O q
      exact h x σ F' H R' (k0.step S') d
    have other : (match esc (.s i) e with
      | some (t, e') => OutS K W B (.ok (.rt (.r t)) e') D
      | none => False) → D.rt x H := fun h => by
      cases q : esc (.s i) e with
      | none => rw [q] at h; exact h.elim
      | some te => obtain ⟨t, e'⟩ := te; rw [q] at h; exact tree t e' q h
    have conv : OutS K W B (match esc (.s i) e with
      | some (t, e') => .ok (.rt (.r t)) e'
      | none => .bad) D → D.rt x H := fun h => by
      cases q : esc (.s i) e with
      | none => rw [q] at h; exact h.elim
      | some te => obtain ⟨t, e'⟩ := te; rw [q] at h; exact tree t e' q h
    simp only [retO] at h
    cases q : e[i]? with
    | none => rw [q] at h; exact conv h
    | some s =>
      rw [q] at h
      cases s with
      | un => exact conv h
      | v _ => exact conv h
      | fz _ => exact conv h
      | ow l z =>
        cases l with
        | true => exact conv h
        | false =>
          obtain ⟨p, ep, hf, bx⟩ := R.at_ i _ _ q hs
          cases ep
          have n : ¬ Lent e i := fun ⟨b, w⟩ => by rw [q] at w; rcases w with w | w <;> cases w
          obtain ⟨R', k'⟩ := set_un R k n
          exact h _ σ F H R' k' ⟨p, rfl, k.fresh i z p q hs, hf, bx⟩
end
section
variable {X : Cx} {W : WX} {B : Bd} {a b c : Expr} {ma mb mc : SemE} {pos : Pos} {st : Stmt} {sts : List Stmt} {m1 m2 : SemS} {t1 t2 : SemT}
theorem qret (he : QE X W a ma) : QS X W B (.Return (some a) pos) (sRet ma) := by
  refine ps_mono (ps_ret he) fun D σ H h => ?_
  obtain ⟨e, F, R, k, h⟩ := h
  exact tX_imp (tS_bind (rel := fun σ => OdR X.K σ) R k h) fun x H1 ⟨r, e1, F1, R1, S1, k1, O, h1⟩ => ret_ok R k R1 S1 O h1
def sRetN : SemS := fun e => .ok (.rt (.r .none)) e
/-! ### tests -/
/-- the truth of a bool -/
def tb (m : SemE) : SemT := fun e => (m e).bind fun r e1 => match r.val e1 with
  | some (.bool k) => .ok k e1
  | _ => .bad
theorem tb_read {m : SemE} {σ : Sg} {H : Hp} {K : PySem.W.Frag} {Q : Bool → Hp → Prop} (h : tT K W (tb m) σ H Q) : tE K W m σ H fun x H' => ∃ k, x = .bl k ∧ Q k H' := by
  obtain ⟨e, F, R, h⟩ := h
  refine tX_imp (tX_bind R .refl h) fun x H1 ⟨r, e1, F1, R1, S1, O1, h1⟩ => ?_
  cases q : r.val e1 with
  | none => simp only [q] at h1; exact h1.elim
  | some t =>
    have d := val_ok R1 O1 q
    cases t with
    | bool k => simp only [q] at h1; cases d; exact ⟨k, rfl, h1 k F1 H1 R1 S1 rfl⟩
    | none => simp only [q] at h1; exact h1.elim
    | int _ => simp only [q] at h1; exact h1.elim
    | str _ => simp only [q] at h1; exact h1.elim
    | list _ => simp only [q] at h1; exact h1.elim
    | tuple _ => simp only [q] at h1; exact h1.elim
    | dict _ => simp only [q] at h1; exact h1.elim
theorem qtval (h : QE X W a ma) (he : ∀ whole, isTrue a X.env whole = (do let v ← whole; standAt a.pos; holding [v] (truthy v)) := by intro _; rfl) : QT X W a (tb ma) :=
  pt_mono (pt_val h he) fun σ H Q h => tb_read h
theorem qtcmp {f : CmpOp} {r : R2} {g : T → T → Option Od} (ho : OpR X (compareOp f) r) (hr : Does2 X.K r g) (ha : QE X W a ma) (hb : QE X W b mb) (hm : behindInMarks f b = false := by first | rfl | exact nomark _) : QT X W (.Compare a [f] [b] pos) (tb (eOp2 g ma mb)) :=
  pt_mono (pt_cmpR ho ha hb hm) fun σ H Q h => tX_imp (two (tb_read h)) fun x H1 h1 => tX_imp h1 fun y H2 h2 => does2 hr h2
def tNot (t : SemT) : SemT := fun e => (t e).bind fun k e1 => .ok (!k) e1
theorem qtnot (h : QT X W a t1) : QT X W (.UnaryOp .Not a pos) (tNot t1) := by
  refine pt_mono (pt_not h) fun σ H Q h => ?_
  obtain ⟨e, F, R, h⟩ := h
  exact tX_imp (tX_bind (rel := fun _ _ _ _ (x : Bool) r => x = r) R .refl h) fun x H1 ⟨r, e1, F1, R1, S1, O1, h1⟩ => by subst O1; exact h1 _ F1 H1 R1 S1 rfl
abbrev QW (X : Cx) (W : WX) (ex : Expr) (m : SemT) : Prop := PW X ex (tT X.K W m)
theorem pw_mono {X : Cx} {ex : Expr} {t t' : TT} (h : PW X ex t) (m : ∀ σ H Q, t' σ H Q → t σ H Q) : PW X ex t' := ⟨fun wh pins s σ H Q I q => h.run wh pins s σ H Q I (m σ H Q q)⟩
def tAnd (t1 t2 : SemT) : SemT := fun e => (t1 e).bind fun k e1 => if k then t2 e1 else .ok false e1
def tOr (t1 t2 : SemT) : SemT := fun e => (t1 e).bind fun k e1 => if k then .ok true e1 else t2 e1
theorem qw_and1 (h : QT X W a t1) : QW X W (.BoolOp .And [a] pos) t1 := pw_and1 h
theorem qw_or1 (h : QT X W a t1) : QW X W (.BoolOp .Or [a] pos) t1 := pw_or1 h
theorem outT_trans {K : PySem.W.Frag} {m : SemT} {e e1 : En} {σ : Sg} {F H F1 H1 : Hp} {Q : Bool → Hp → Prop} (R : Rel K e1 σ F1 H1) (S : Step e e1 σ F H F1 H1) (h : OutX K W (fun _ _ _ (x : Bool) r => x = r) (m e1) e σ F H Q) : tT K W m σ H1 Q := by
  refine ⟨e1, F1, R, ?_⟩
  cases q : m e1 with
  | bad => rw [q] at h; exact h
  | exc c t e' => rw [q] at h; exact fun F' H' cls d R' S' => h F' H' cls d R' (S.trans S')
  | ok r e' => rw [q] at h; exact fun x F' H' R' S' => h x F' H' R' (S.trans S')
theorem qw_and {rest : List Expr} (ha : QT X W a t1) (hb : QW X W (.BoolOp .And (b :: rest) pos) t2) : QW X W (.BoolOp .And (a :: b :: rest) pos) (tAnd t1 t2) := by
  refine pw_mono (pw_and ha hb) fun σ H Q h => ?_
  obtain ⟨e, F, R, h⟩ := h
  refine tX_imp (tX_bind (rel := fun _ _ _ _ (x : Bool) r => x = r) R .refl h) fun x H1 ⟨r, e1, F1, R1, S1, O1, h1⟩ => ?_
  subst O1
  cases x with
  | true => exact outT_trans R1 S1 h1
  | false => exact h1 _ F1 H1 R1 S1 rfl
theorem qw_or {rest : List Expr} (ha : QT X W a t1) (hb : QW X W (.BoolOp .Or (b :: rest) pos) t2) : QW X W (.BoolOp .Or (a :: b :: rest) pos) (tOr t1 t2) := by
  refine pw_mono (pw_or ha hb) fun σ H Q h => ?_
  obtain ⟨e, F, R, h⟩ := h
  refine tX_imp (tX_bind (rel := fun _ _ _ _ (x : Bool) r => x = r) R .refl h) fun x H1 ⟨r, e1, F1, R1, S1, O1, h1⟩ => ?_
  subst O1
  cases x with
  | true => exact h1 _ F1 H1 R1 S1 rfl
  | false => exact outT_trans R1 S1 h1
theorem QW.t (h : QW X W a t1) : QT X W a t1 := h.pt
/-! ### and, or, not, if as values -/
theorem outE_trans {K : PySem.W.Frag} {m : SemE} {e e1 : En} {σ : Sg} {F H F1 H1 : Hp} {Q : VK} (R : Rel K e1 σ F1 H1) (S : Step e e1 σ F H F1 H1) (h : OutX K W (OdR K σ) (m e1) e σ F H Q) : tE K W m σ H1 Q := by
  refine ⟨e1, F1, R, ?_⟩
  cases q : m e1 with
  | bad => rw [q] at h; exact h
  | exc c t e' => rw [q] at h; exact fun F' H' cls d R' S' => h F' H' cls d R' (S.trans S')
  | ok r e' => rw [q] at h; exact fun x F' H' R' S' O => h x F' H' R' (S.trans S') (od_back O S)
def eAnd (ma mb : SemE) : SemE := fun e => (tb ma e).bind fun k e1 => if k then mb e1 else .ok (.r (.bool false)) e1
def eOr (ma mb : SemE) : SemE := fun e => (tb ma e).bind fun k e1 => if k then .ok (.r (.bool true)) e1 else mb e1
theorem qone_ {op : BoolOp} (h : QE X W a ma) : QE X W (.BoolOp op [a] pos) ma := pe_one h
theorem qand {rest : List Expr} (ha : QE X W a ma) (hb : QE X W (.BoolOp .And (b :: rest) pos) mb) : QE X W (.BoolOp .And (a :: b :: rest) pos) (eAnd ma mb) := by
  refine pe_mono (pe_and ha hb) fun σ H Q h => ?_
  obtain ⟨e, F, R, h⟩ := h
  have z := tX_bind (m := tb ma) (rel := fun _ _ _ _ (x : Bool) r => x = r) R .refl h
  refine tX_imp (tb_read z) fun x H1 ⟨k, ex, r, e1, F1, R1, S1, O1, h1⟩ => ⟨k, ex, ?_⟩
  subst O1
  cases k with
  | true => exact outE_trans R1 S1 h1
  | false => exact h1 _ F1 H1 R1 S1 (.bl false)
def eNot (ma : SemE) : SemE := fun e => (tb ma e).bind fun k e1 => .ok (.r (.bool !k)) e1
theorem qnot (ha : QE X W a ma) : QE X W (.UnaryOp .Not a pos) (eNot ma) := by
  refine pe_mono (pe_not ha) fun σ H Q h => ?_
  obtain ⟨e, F, R, h⟩ := h
  have z := tX_bind (m := tb ma) (rel := fun _ _ _ _ (x : Bool) r => x = r) R .refl h
  refine tX_imp (tb_read z) fun x H1 ⟨k, ex, r, e1, F1, R1, S1, O1, h1⟩ => ⟨k, ex, ?_⟩
  subst O1
  exact h1 _ F1 H1 R1 S1 (.bl _)
def eIf (t : SemT) (ma mb : SemE) : SemE := fun e => (t e).bind fun k e1 => if k then ma e1 else mb e1
theorem qifx (hc : QT X W c t1) (ha : QE X W a ma) (hb : QE X W b mb) : QE X W (.IfExp c a b pos) (eIf t1 ma mb) := by
  refine pe_mono (pe_ifExp hc ha hb) fun σ H Q h => ?_
  obtain ⟨e, F, R, h⟩ := h
  refine tX_imp (tX_bind (rel := fun _ _ _ _ (x : Bool) r => x = r) R .refl h) fun x H1 ⟨r, e1, F1, R1, S1, O1, h1⟩ => ?_
  subst O1
  cases x with
  | true => exact outE_trans R1 S1 h1
  | false => exact outE_trans R1 S1 h1
end
end Ev

set_option Elab.async false
set_option linter.all false
set_option maxRecDepth 100000
namespace Ev
open PySem PySem.Spec PyProof.Rows L2
section
variable {X : Cx}
theorem opr_or {f : Value → Value → Sem Value} {r r' : R2} (h : OpR X f r) (h' : OpR X f r') : OpR X f (fun x y H Q => r x y H Q ∨ r' x y H Q) := by
  intro pins s σ H x y v u Q I rx ry q
  rcases q with q | q
  · exact h pins s σ H x y v u Q I rx ry q
  · exact h' pins s σ H x y v u Q I rx ry q
def rCatS (K : PySem.W.Frag) : R2 := fun x y H Q => ∃ l b xs zs, x = .ref l ∧ y = .ref b ∧ SqL K H l xs ∧ SqL K H b zs ∧ xs.length + zs.length ≤ sizeLine ∧ ∀ p, H p = none → Q (.ref p) (upd H p (.lst (xs ++ zs)))
theorem op_catS : OpR X (binaryOp .Add) (rCatS X.K) := by
  intro pins s σ H x y v u Q I rx ry h
  obtain ⟨l, b, xs, zs, rfl, rfl, hH, hB, hz, q⟩ := h
  cases rx
  cases ry
  obtain ⟨its, r, ⟨⟨cls, dd, data, sl⟩, n, ho, hc, hd0, hd⟩, _⟩ := I.list hH
  obtain ⟨its2, r2, ⟨⟨cls2, dd2, data2, sl2⟩, n2, ho2, hc2, hd02, hd2⟩, _⟩ := I.list hB
  simp only at hc hd hc2 hd2 hd0 hd02
  subst hc hd hc2 hd2 hd0 hd02
  have hl := r.length
  have hl2 := r2.length
  refine concat_meets ⟨_, ho, rfl⟩ ⟨_, ho2, rfl⟩ noFill_list_add seq_list_add PySem.F.slot_list_add PySem.F.entry_list_add (PySem.F.args_list_add_2 _ _) (list_addW l b its.toArray its2.toArray n n2 none none sl sl2 (by simp; omega)) ⟨ho, ho2, ?_⟩
  have ea : its.toArray ++ its2.toArray = (its ++ its2).toArray := by simp
  rw [ea]
  exact ⟨.ref _, _, I.lnew (t' := s.toks) (r.append r2) (by rw [List.length_append]; omega), rfl, q _ I.fresh⟩
end
/-! ### what operations hand back -/
def gAdd : T → T → Option Od
  | .int i, .int j => some (.r (.int (i + j)))
  | .str i, .str j => if i.length + j.length ≤ sizeLine then some (.r (.str (i ++ j))) else none
  | .list xs, .list ys => if xs.length + ys.length ≤ sizeLine then some (.b (.l (xs ++ ys))) else none
  | .tuple xs, .tuple ys => if xs.length + ys.length ≤ sizeLine then some (.r (.tuple (xs ++ ys))) else none
  | _, _ => none
def rAdd4 (K : PySem.W.Frag) : R2 := fun x y H Q => (((∃ i j, x = .int i ∧ y = .int j ∧ Q (.int (i + j)) H) ∨ ∃ i j, x = .str i ∧ y = .str j ∧ i.length + j.length ≤ sizeLine ∧ Q (.str (i ++ j)) H) ∨ rCatS K x y H Q) ∨ rCatA K x y H Q
theorem op_add4 {X : Cx} : OpR X (binaryOp .Add) (rAdd4 X.K) := opr_or (opr_or (opr_or op_add op_add_str) op_catS) op_catA
theorem does_add {K : PySem.W.Frag} : Does2 K (rAdd4 K) gAdd := by
  intro x y t u w F H Q ff dx dy hg
  cases t with
  | int i =>
    cases u with
    | int j => cases hg; cases dx; cases dy; exact ⟨trivial, fun q => .inl (.inl (.inl ⟨i, j, rfl, rfl, q.1 _ (.int _)⟩))⟩
    | _ => cases hg
  | str i =>
    cases u with
    | str j =>
      simp only [gAdd] at hg
      split at hg
      · cases hg; cases dx; cases dy; rename_i hl; exact ⟨trivial, fun q => .inl (.inl (.inr ⟨i, j, rfl, rfl, hl, q.1 _ (.str _)⟩))⟩
      · cases hg
    | _ => cases hg
  | list xs =>
    cases u with
    | list ys =>
      simp only [gAdd] at hg
      split at hg
      · cases hg
        rename_i hl
        obtain ⟨p, vs, rfl, h1, d1⟩ := dx
        obtain ⟨p2, vs2, rfl, h2, d2⟩ := dy
        refine ⟨trivial, fun q => .inl (.inr ⟨p, p2, vs, vs2, rfl, rfl, h1, h2, by rw [dpAll_len d1, dpAll_len d2]; exact hl, fun p hp => q p _ hp (dpAll_app d1 d2)⟩)⟩
      · cases hg
    | _ => cases hg
  | tuple xs =>
    cases u with
    | tuple ys =>
      simp only [gAdd] at hg
      split at hg
      · cases hg
        rename_i hl
        have dx0 : Dp K F x (.tuple xs) := dx
        have dy0 : Dp K F y (.tuple ys) := dy
        cases dx with
        | tup h1 d1 =>
          cases dy with
          | tup h2 d2 =>
            refine ⟨trivial, fun q => .inr ⟨_, _, _, _, rfl, rfl, tupS ff h1, tupS ff h2, by rw [dpAll_len d1, dpAll_len d2]; exact hl, fun e => ?_, fun _ e => ?_, fun _ _ p hp => q.2 _ p _ rfl hp (dpAll_app d1 d2)⟩⟩
            · subst e; cases d1; exact q.1 _ dy0
            · subst e; cases d2; rw [List.append_nil] at q; exact q.1 _ dx0
      · cases hg
    | _ => cases hg
  | _ => cases hg
/-- ints -/
def gII (c : Int → Int → Bool) (g : Int → Int → T) : T → T → Option Od
  | .int i, .int j => if c i j then some (.r (g i j)) else none
  | _, _ => none
theorem does_ii {K : PySem.W.Frag} {C : Int → Int → Prop} {c : Int → Int → Bool} {g : Int → Int → V} {g' : Int → Int → T} (hc : ∀ i j, c i j = true → C i j) (hg : ∀ i j F, Dp K F (g i j) (g' i j)) : Does2 K (rI C g) (gII c g') := by
  intro x y t u w F H Q ff dx dy h
  cases t with
  | int i =>
    cases u with
    | int j =>
      simp only [gII] at h
      split at h
      · rename_i hl; cases h; cases dx; cases dy; exact ⟨trivial, fun q => ⟨i, j, rfl, rfl, hc i j hl, q.1 _ (hg i j F)⟩⟩
      · cases h
    | _ => cases h
  | _ => cases h
theorem does_ii0 {K : PySem.W.Frag} {g : Int → Int → V} {g' : Int → Int → T} (hg : ∀ i j F, Dp K F (g i j) (g' i j)) : Does2 K (rI0 g) (gII (fun _ _ => true) g') := by
  intro x y t u w F H Q ff dx dy h
  obtain ⟨a, b⟩ := does_ii (C := fun _ _ => True) (c := fun _ _ => true) (fun _ _ _ => trivial) hg x y t u w F H Q ff dx dy h
  refine ⟨a, fun q => ?_⟩
  obtain ⟨i, j, h1, h2, _, h3⟩ := b q
  exact ⟨i, j, h1, h2, h3⟩
abbrev gSub : T → T → Option Od := gII (fun _ _ => true) fun i j => .int (i - j)
theorem does_sub {K : PySem.W.Frag} : Does2 K (rI0 fun i j => .int (i - j)) gSub := does_ii0 fun _ _ _ => .int _
abbrev gMod : T → T → Option Od := gII (fun _ j => decide (0 < j)) fun i j => .int (i % j)
theorem does_mod {K : PySem.W.Frag} : Does2 K (rI (fun _ j => 0 < j) fun i j => .int (i % j)) gMod := does_ii (fun _ _ h => of_decide_eq_true h) fun _ _ _ => .int _
abbrev gDiv : T → T → Option Od := gII (fun _ j => decide (0 < j ∧ j.natAbs.log2 < 9000)) fun i j => .int (i / j)
theorem does_div {K : PySem.W.Frag} : Does2 K (rI CDivW fun i j => .int (i / j)) gDiv := does_ii (fun i j h => of_decide_eq_true (p := 0 < j ∧ j.natAbs.log2 < 9000) h) fun _ _ _ => .int _
abbrev gPow : T → T → Option Od := gII (fun i j => decide (0 ≤ j ∧ j ≤ 1000000 ∧ i.natAbs < 2 ^ 64)) fun i j => .int (i ^ j.toNat)
theorem does_pow {K : PySem.W.Frag} : Does2 K (rI CPow fun i j => .int (i ^ j.toNat)) gPow := does_ii (fun i j h => of_decide_eq_true (p := 0 ≤ j ∧ j ≤ 1000000 ∧ i.natAbs < 2 ^ 64) h) fun _ _ _ => .int _
def mulOk (i j : Int) : Bool := decide (i.natAbs.log2 + j.natAbs.log2 < 1000000)
def gMul : T → T → Option Od
  | .int i, .int j => if mulOk i j then some (.r (.int (i * j))) else none
  | _, _ => none
theorem does_mul {K : PySem.W.Frag} : Does2 K (rI CMulW fun i j => .int (i * j)) gMul := by
  intro x y t u w F H Q ff dx dy h
  refine does_ii (K := K) (C := CMulW) (c := mulOk) (g' := fun i j => .int (i * j)) (fun i j h => of_decide_eq_true (p := i.natAbs.log2 + j.natAbs.log2 < 1000000) h) (fun _ _ _ => .int _) x y t u w F H Q ff dx dy ?_
  cases t <;> cases u <;> first | exact h | cases h
abbrev gLt : T → T → Option Od := gII (fun _ _ => true) fun i j => .bool (decide (i < j))
abbrev gLe : T → T → Option Od := gII (fun _ _ => true) fun i j => .bool (decide (i ≤ j))
abbrev gGt : T → T → Option Od := gII (fun _ _ => true) fun i j => .bool (decide (j < i))
abbrev gGe : T → T → Option Od := gII (fun _ _ => true) fun i j => .bool (decide (j ≤ i))
theorem does_lt {K : PySem.W.Frag} : Does2 K (rI0 fun i j => .bl (decide (i < j))) gLt := does_ii0 fun _ _ _ => .bl _
theorem does_gt {K : PySem.W.Frag} : Does2 K (rI0 fun i j => .bl (decide (j < i))) gGt := does_ii0 fun _ _ _ => .bl _
theorem does_ge {K : PySem.W.Frag} : Does2 K (rI0 fun i j => .bl (decide (j ≤ i))) gGe := does_ii0 fun _ _ _ => .bl _
/-- == on data -/
def gEq (k : Bool → Bool) : T → T → Option Od := fun t u => if SeqAt.shaped t && SeqAt.shaped u then some (.r (.bool (k (PyData.eqv t u)))) else none
theorem does_eq {K : PySem.W.Frag} : Does2 K (rEqD K) (gEq id) := by
  intro x y t u w F H Q ff dx dy h
  simp only [gEq] at h
  split at h
  · rename_i hs
    rw [Bool.and_eq_true] at hs
    cases h
    exact ⟨trivial, fun q => ⟨t, u, dp_hand _ (noD_sh hs.1) (dx.dp ff), dp_hand _ (noD_sh hs.2) (dy.dp ff), hs.1, hs.2, q.1 _ (.bl _)⟩⟩
  · cases h
theorem does_ne {K : PySem.W.Frag} : Does2 K (rNeD K) (gEq not) := by
  intro x y t u w F H Q ff dx dy h
  simp only [gEq] at h
  split at h
  · rename_i hs
    rw [Bool.and_eq_true] at hs
    cases h
    exact ⟨trivial, fun q => ⟨t, u, dp_hand _ (noD_sh hs.1) (dx.dp ff), dp_hand _ (noD_sh hs.2) (dy.dp ff), hs.1, hs.2, q.1 _ (.bl _)⟩⟩
  · cases h
def isN : T → Bool
  | .none => true
  | _ => false
/-- is None -/
def gIsN (k : Bool → Bool) : T → T → Option Od := fun t u => match u with
  | .none => some (.r (.bool (k (isN t))))
  | _ => none
theorem dpo_non {K : PySem.W.Frag} {F H : Hp} {x : V} {t : T} (d : DpO K F H x t) : decide (x = .non) = isN t := by
  cases t with
  | list ts => obtain ⟨p, xs, rfl, _⟩ := d; rfl
  | none => cases d; rfl
  | bool _ => cases d; rfl
  | int _ => cases d; rfl
  | str _ => cases d; rfl
  | tuple _ => cases d; rfl
  | dict _ => cases d; rfl
theorem does_isN {K : PySem.W.Frag} : Does2 K (fun x y H Q => y = .non ∧ Q (.bl (decide (x = .non))) H) (gIsN id) := by
  intro x y t u w F H Q ff dx dy h
  cases u with
  | none => cases h; cases dy; exact ⟨trivial, fun q => ⟨rfl, by rw [dpo_non dx]; exact q.1 _ (.bl _)⟩⟩
  | _ => cases h
/-! ### in -/
def flatT : T → Bool
  | .none => true
  | .bool _ => true
  | .int _ => true
  | .str _ => true
  | _ => false
def gIn (k : Bool → Bool) : T → T → Option Od := fun t u => match u with
  | .list ds => if SeqAt.shaped t && SeqAt.shaped (.list ds) then some (.r (.bool (k (ds.any fun z => PyData.eqv z t)))) else none
  | .tuple ds => if flatT t && ds.all flatT then some (.r (.bool (k (ds.any fun z => PyData.eqv z t)))) else none
  | _ => none
theorem dp_flat {K : PySem.W.Frag} {F : Hp} {x : V} {t : T} (d : Dp K F x t) (h : flatT t = true) : flatV x = true := by
  cases d <;> first | rfl | cases h
theorem dp_flats {K : PySem.W.Frag} {F : Hp} : ∀ {ts : List T} {xs : List V}, DpAll K F xs ts → ts.all flatT = true → xs.all flatV = true
  | [], _, h, _ => by cases h; rfl
  | t :: ts, _, .cons a b, h => by
    rw [List.all_cons, Bool.and_eq_true] at h
    rw [List.all_cons, dp_flat a h.1, dp_flats b h.2]
    rfl
theorem flat_eqv {K : PySem.W.Frag} {F : Hp} {x y : V} {t u : T} (d : Dp K F x t) (d' : Dp K F y u) (h : flatT t = true) (h' : flatT u = true) : eqV x y = PyData.eqv t u := by
  cases d <;> cases d' <;> first | (simp only [eqV, PyData.eqv]; done) | cases h | cases h' | (simp [eqV, PyData.eqv]; done) | (unfold eqV PyData.eqv; rfl)
theorem flat_any {K : PySem.W.Frag} {F : Hp} {x : V} {t : T} (d : Dp K F x t) (h : flatT t = true) : ∀ {ts : List T} {xs : List V}, DpAll K F xs ts → ts.all flatT = true → inV x xs = ts.any fun z => PyData.eqv z t
  | [], _, h1, _ => by cases h1; rfl
  | u :: ts, _, .cons a b, h1 => by
    rw [List.all_cons, Bool.and_eq_true] at h1
    have e := flat_any d h b h1.2
    unfold inV at e ⊢
    rw [List.any_cons, List.any_cons, e, flat_eqv a d h1.1 h]
def rIn2 (K : PySem.W.Frag) : R2 := fun x y H Q => rInD K x y H Q ∨ rIn K false x y H Q
def rNotIn2 (K : PySem.W.Frag) : R2 := fun x y H Q => rNotInD K x y H Q ∨ rIn K true x y H Q
theorem op_in2 {X : Cx} (hu : X.A.units + 65 < cLine) : OpR X (compareOp .In) (rIn2 X.K) := opr_or (op_inD hu) op_in_seq
theorem op_notIn2 {X : Cx} (hu : X.A.units + 65 < cLine) : OpR X (compareOp .NotIn) (rNotIn2 X.K) := opr_or (op_notInD hu) op_notIn_seq
theorem does_in {K : PySem.W.Frag} : Does2 K (rIn2 K) (gIn id) := by
  intro x y t u w F H Q ff dx dy h
  cases u with
  | list ds =>
    simp only [gIn] at h
    split at h
    · rename_i hs
      rw [Bool.and_eq_true] at hs
      cases h
      exact ⟨trivial, fun q => .inl ⟨t, ds, dp_hand _ (noD_sh hs.1) (dx.dp ff), dp_hand _ (noD_sh hs.2) (dy.dp ff), hs.1, hs.2, q.1 _ (.bl _)⟩⟩
    · cases h
  | tuple ds =>
    simp only [gIn] at h
    split at h
    · rename_i hs
      rw [Bool.and_eq_true] at hs
      cases h
      cases dy with
      | tup h1 d1 =>
        have dx' : Dp K F x t := by cases t <;> first | exact dx | (cases hs.1)
        exact ⟨trivial, fun q => .inr ⟨_, _, rfl, .inr (tupS ff h1), dp_flat dx' hs.1, dp_flats d1 hs.2, by rw [flat_any dx' hs.1 d1 hs.2]; exact q.1 _ (.bl _)⟩⟩
    · cases h
  | _ => cases h
theorem does_notIn {K : PySem.W.Frag} : Does2 K (rNotIn2 K) (gIn not) := by
  intro x y t u w F H Q ff dx dy h
  cases u with
  | list ds =>
    simp only [gIn] at h
    split at h
    · rename_i hs
      rw [Bool.and_eq_true] at hs
      cases h
      exact ⟨trivial, fun q => .inl ⟨t, ds, dp_hand _ (noD_sh hs.1) (dx.dp ff), dp_hand _ (noD_sh hs.2) (dy.dp ff), hs.1, hs.2, q.1 _ (.bl _)⟩⟩
    · cases h
  | tuple ds =>
    simp only [gIn] at h
    split at h
    · rename_i hs
      rw [Bool.and_eq_true] at hs
      cases h
      cases dy with
      | tup h1 d1 =>
        have dx' : Dp K F x t := by cases t <;> first | exact dx | (cases hs.1)
        exact ⟨trivial, fun q => .inr ⟨_, _, rfl, .inr (tupS ff h1), dp_flat dx' hs.1, dp_flats d1 hs.2, by rw [flat_any dx' hs.1 d1 hs.2]; exact q.1 _ (.bl _)⟩⟩
    · cases h
  | _ => cases h
/-! ### an item -/
def gIx : T → T → Option Od
  | .list ts, .int i => (atI ts i).map .r
  | .tuple ts, .int i => (atI ts i).map .r
  | _, _ => none
theorem atI_dp {K : PySem.W.Frag} {F : Hp} {ts : List T} {xs : List V} {i : Int} {t : T} (d : DpAll K F xs ts) (h : atI ts i = some t) : ∃ v, atI xs i = some v ∧ Dp K F v t := by
  unfold atI at h ⊢
  rw [dpAll_len d]
  cases q : ixN ts.length i with
  | none => rw [q] at h; cases h
  | some j => rw [q] at h; exact dpAll_get d h
def rIx2 (K : PySem.W.Frag) : R2 := fun x y H Q => rIxL K x y H Q ∨ rIxT K x y H Q
theorem ix2 {X : Cx} : IxR X (rIx2 X.K) := by
  intro value slice pins s σ H x y v u Q I rx ry h hs
  rcases h with h | h
  · exact ix_list value slice pins s σ H x y v u Q I rx ry h hs
  · exact ix_tup value slice pins s σ H x y v u Q I rx ry h hs
theorem does_ix {K : PySem.W.Frag} : Does2 K (rIx2 K) gIx := by
  intro x y t u w F H Q ff dx dy h
  cases t with
  | list ts =>
    cases u with
    | int i =>
      simp only [gIx] at h
      cases q : atI ts i with
      | none => rw [q] at h; cases h
      | some t' =>
        rw [q] at h; cases h
        obtain ⟨p, xs, rfl, h1, d1⟩ := dx
        cases dy
        obtain ⟨v, hv, dv⟩ := atI_dp d1 q
        exact ⟨trivial, fun k => .inl ⟨p, xs, i, v, rfl, rfl, h1, hv, k.1 _ dv⟩⟩
    | _ => cases h
  | tuple ts =>
    cases u with
    | int i =>
      simp only [gIx] at h
      cases q : atI ts i with
      | none => rw [q] at h; cases h
      | some t' =>
        rw [q] at h; cases h
        cases dy
        cases dx with
        | tup h1 d1 =>
          obtain ⟨v, hv, dv⟩ := atI_dp d1 q
          exact ⟨trivial, fun k => .inr ⟨_, _, i, v, rfl, rfl, tupS ff h1, hv, k.1 _ dv⟩⟩
    | _ => cases h
  | _ => cases h
section
variable {X : Cx} {W : WX} {a b c : Expr} {ma mb mc : SemE} {pos : Pos}
theorem qix (ha : QE X W a ma) (hb : QE X W b mb) (hs : ∀ o i, subscripted b false o i = operate [o, i] (getItem o i) := by intros; rfl) : QE X W (.Subscript a b pos) (eOp2 gIx ma mb) :=
  pe_mono (pe_ix ix2 ha hb hs) fun σ H Q h => tX_imp (two h) fun x H1 h1 => tX_imp h1 fun y H2 h2 => does2 does_ix h2
def eNeg (m : SemE) : SemE := fun e => (m e).bind fun r e1 => match r.val e1 with
  | some (.int i) => .ok (.r (.int (-i))) e1
  | _ => .bad
end
end Ev

set_option Elab.async false
set_option linter.all false
set_option maxRecDepth 100000
namespace Ev
open PySem PySem.Spec PyProof.Rows L2
/-! ### isinstance -/
def kindT : T → String
  | .none => "NoneType"
  | .bool _ => "bool"
  | .int _ => "int"
  | .str _ => "str"
  | .list _ => "list"
  | .tuple _ => "tuple"
  | .dict _ => "dict"
def isInt : T → Bool
  | .bool _ => true
  | .int _ => true
  | _ => false
def isBool : T → Bool
  | .bool _ => true
  | _ => false
def isStr : T → Bool
  | .str _ => true
  | _ => false
def isList : T → Bool
  | .list _ => true
  | _ => false
def isTuple : T → Bool
  | .tuple _ => true
  | _ => false
def isDict : T → Bool
  | .dict _ => true
  | _ => false
def isTL : T → Bool
  | .tuple _ => true
  | .list _ => true
  | _ => false
theorem k_int (t : T) : kitB (kindT t) "int" = some (isInt t) := by cases t <;> (simp only [kindT, isInt]; decide +kernel)
theorem k_bool (t : T) : kitB (kindT t) "bool" = some (isBool t) := by cases t <;> (simp only [kindT, isBool]; decide +kernel)
theorem k_str (t : T) : kitB (kindT t) "str" = some (isStr t) := by cases t <;> (simp only [kindT, isStr]; decide +kernel)
theorem k_list (t : T) : kitB (kindT t) "list" = some (isList t) := by cases t <;> (simp only [kindT, isList]; decide +kernel)
theorem k_tuple (t : T) : kitB (kindT t) "tuple" = some (isTuple t) := by cases t <;> (simp only [kindT, isTuple]; decide +kernel)
theorem sqL_ty {K : PySem.W.Frag} {H : Hp} {p : Addr} {xs : List V} (h : SqL K H p xs) : TyX K H (.ref p) (.type "list") := by
  rcases h with h | ⟨o, its, n, hk, hc, _⟩
  · rcases h with h | ⟨o, h⟩
    · exact .base (.lst h)
    · exact .base (.frz h)
  · exact .kList hk hc
theorem sqT_ty {K : PySem.W.Frag} {H : Hp} {p : Addr} {xs : List V} (h : SqT K H p xs) : TyX K H (.ref p) (.type "tuple") := by
  rcases h with h | ⟨o, its, n, hk, hc, _⟩
  · rcases h with h | ⟨o, h⟩
    · exact .base (.tup h)
    · exact .fTuple h
  · exact .kTuple hk hc
theorem dpo_ty {K : PySem.W.Frag} {F H : Hp} {x : V} {t : T} (ff : ∀ a o, F a = some o → H a = some o) (d : DpO K F H x t) : TyX K H x (.type (kindT t)) := by
  cases t with
  | list ts => obtain ⟨p, xs, rfl, h, _⟩ := d; exact sqL_ty h
  | none => cases d; exact .base .non
  | bool _ => cases d; exact .base (.bl _)
  | int _ => cases d; exact .base (.int _)
  | str _ => cases d; exact .base (.str _)
  | tuple _ => cases d with | tup h _ => exact sqT_ty (tupS ff h)
  | dict _ => cases d with | dct h _ => exact .base (.dT (ff _ _ h))
section
variable {X : Cx} {W : WX} {a b c : Expr} {ma mb mc : SemE} {pos : Pos}
def eIsi (f : T → Bool) (m : SemE) : SemE := fun e => (m e).bind fun r e1 => match r.val e1 with
  | some t => .ok (.r (.bool (f t))) e1
  | none => .bad
theorem isi_read {K : PySem.W.Frag} {f : T → Bool} {m : SemE} {σ : Sg} {H : Hp} {Q : VK} (h : tE K W (eIsi f m) σ H Q) :
    tE K W m σ H fun x H1 => ∃ t, TyX K H1 x (.type (kindT t)) ∧ Q (.bl (f t)) H1 ∧ ∀ y p, H1 p = none → TyX K (upd H1 p (.tup y)) x (.type (kindT t)) ∧ Q (.bl (f t)) (upd H1 p (.tup y)) := by
  obtain ⟨e, F, R, h⟩ := h
  refine tX_imp (tX_bind (rel := fun σ => OdR K σ) R .refl h) fun x H1 ⟨r, e1, F1, R1, S1, O1, h1⟩ => ?_
  cases q : r.val e1 with
  | none => simp only [q] at h1; exact h1.elim
  | some t =>
    simp only [q] at h1
    have d := val_ok R1 O1 q
    refine ⟨t, dpo_ty R1.sub d, h1 _ F1 H1 R1 S1 (.bl _), fun y p hp => ?_⟩
    have R2 := laid_own (o := .tup y) R1 hp
    have S2 := laid_own_step (e := e1) (σ := σ) (F := F1) (o := .tup y) hp
    have d2 : DpO K F1 (upd H1 p (.tup y)) x t := by
      cases t with
      | list ts => obtain ⟨q, xs, rfl, h, z⟩ := d; exact ⟨q, xs, rfl, sqL_mono (fun a o w => by rw [upd_ne (ne_of_none w hp)]; exact w) h, z⟩
      | _ => exact d
    exact ⟨dpo_ty R2.sub d2, h1 _ F1 _ R2 (S1.trans S2) (.bl _)⟩
theorem qisi {n : Str} {T' : String} {f : T → Bool} {p p2 : Pos} (hk : ∀ t, kitB (kindT t) T' = some (f t)) (hg : Gl X "isinstance") (hm : X.mg "isinstance" = none) (hgn : Gl X n) (hmn : X.mg n = none) (hv : bootBuiltins n = some (.type T')) (ha : QE X W a ma)
    (hn : n ≠ "__name__" := by decide) (hd : (n == ("__debug__" : Str)) = false := by decide)
    (he : starEach [a, .Name n p2] X.env = (false, eval a X.env) :: starEach [.Name n p2] X.env := by rfl) (he2 : starEach [.Name n p2] X.env = [(false, eval (.Name n p2) X.env)] := by rfl) (hpl : (backTo pos (starEach [.Name n p2] X.env)).any (·.1) = false := by rfl) :
    QE X W (.Call (.Name "isinstance" p) [a, .Name n p2] [] pos) (eIsi f ma) := by
  refine pe_mono (pe_callB call_isi hg hm (by decide +kernel) (pa_cons ha (pa_cons (pe_bltn hgn hmn hv (v := .ty T') rfl hn hd) pa_nil he2) he) (by decide) (by decide) he hpl) fun σ H Q h => ?_
  refine tX_imp (isi_read h) fun x H1 ⟨t, ty, q, _⟩ => ?_
  exact ⟨x, .ty T', _, .type T', f t, rfl, .ty T', ty, kit_ty (hk t), q⟩
/-! ### slices -/
abbrev SemP := En → Out (Option Int)
abbrev QP (X : Cx) (W : WX) (ex : Option Expr) (m : SemP) : Prop := PO X ex (tX X.K W (fun _ _ _ _ (x : Option Int) r => x = r) m)
theorem po_mono {ex : Option Expr} {t t' : TO} (h : PO X ex t) (m : ∀ σ H Q, t' σ H Q → t σ H Q) : PO X ex t' := ⟨fun pins s σ H Q I q => h.run pins s σ H Q I (m σ H Q q)⟩
def pNo : SemP := fun e => .ok none e
def pSo (m : SemE) : SemP := fun e => (m e).bind fun r e1 => match r.val e1 with
  | some (.int i) => .ok (some i) e1
  | _ => .bad
theorem qpn : QP X W none pNo := po_mono po_none fun σ H Q ⟨e, F, R, h⟩ => h _ F H R .refl rfl
theorem qps (ha : QE X W a ma) : QP X W (some a) (pSo ma) := by
  refine po_mono (po_some ha) fun σ H Q h => ?_
  obtain ⟨e, F, R, h⟩ := h
  refine tX_imp (tX_bind (rel := fun σ => OdR X.K σ) R .refl h) fun x H1 ⟨r, e1, F1, R1, S1, O1, h1⟩ => ?_
  cases q : r.val e1 with
  | none => simp only [q] at h1; exact h1.elim
  | some t =>
    have d := val_ok R1 O1 q
    cases t with
    | int i => simp only [q] at h1; cases d; exact ⟨i, rfl, h1 _ F1 H1 R1 S1 rfl⟩
    | none => simp only [q] at h1; exact h1.elim
    | bool _ => simp only [q] at h1; exact h1.elim
    | str _ => simp only [q] at h1; exact h1.elim
    | list _ => simp only [q] at h1; exact h1.elim
    | tuple _ => simp only [q] at h1; exact h1.elim
    | dict _ => simp only [q] at h1; exact h1.elim
def cutT {α : Type} (xs : List α) (lo hi : Option Int) : List α := (xs.drop (HT.sIx xs.length 0 lo)).take (HT.sIx xs.length xs.length hi - HT.sIx xs.length 0 lo)
def eSl (m : SemE) (lo hi : SemP) : SemE := fun e => (m e).bind fun r e1 => (lo e1).bind fun l e2 => (hi e2).bind fun h e3 => match r.val e3 with
  | some (.list ts) => .ok (.b (.l (cutT ts l h))) e3
  | some (.tuple ts) => .ok (.r (.tuple (cutT ts l h))) e3
  | _ => .bad
theorem cut_dp {K : PySem.W.Frag} {F : Hp} {ts : List T} {xs : List V} {l h : Option Int} (d : DpAll K F xs ts) : DpAll K F (cutV xs l h) (cutT ts l h) := by
  unfold cutV cutT
  rw [dpAll_len d]
  exact dpAll_take _ (dpAll_drop _ d)
theorem qsl {lo hi : Option Expr} {ml mh : SemP} {p2 : Pos} (ha : QE X W a ma) (hl : QP X W lo ml) (hu : QP X W hi mh) : QE X W (.Subscript a (.Slice lo hi none p2) pos) (eSl ma ml mh) := by
  refine pe_mono (pe_slice (SlR.or sl_list sl_tupA) ha hl hu) fun σ H Q h => ?_
  obtain ⟨e, F, R, h⟩ := h
  refine tX_imp (tX_bind (rel := fun σ => OdR X.K σ) R .refl h) fun x H1 ⟨r, e1, F1, R1, S1, O1, h1⟩ => ?_
  refine tX_imp (tX_bind (rel := fun _ _ _ _ (x : Option Int) r => x = r) R1 S1 h1) fun l H2 ⟨l', e2, F2, R2, S2, El, h2⟩ => ?_
  refine tX_imp (tX_bind (rel := fun _ _ _ _ (x : Option Int) r => x = r) R2 (S1.trans S2) h2) fun u H3 ⟨u', e3, F3, R3, S3, Eu, h3⟩ => ?_
  subst El Eu
  have S' := (S1.trans S2).trans S3
  have O3 := od_stay O1 (fun p hp => fresh_not_own R S1 hp) (S2.trans S3)
  cases q : r.val e3 with
  | none => simp only [q] at h3; exact h3.elim
  | some t =>
    have d := val_ok R3 O3 q
    cases t with
    | list ts =>
      simp only [q] at h3
      obtain ⟨p, xs, rfl, hs, dd⟩ := d
      exact .inl ⟨p, xs, rfl, hs, fun p hp => (fin_of R3 S' h3 True.intro : Fin X.K F3 H3 Q (.b (.l _))) p _ hp (cut_dp dd)⟩
    | tuple ts =>
      simp only [q] at h3
      have fin := (fin_of R3 S' h3 True.intro : Fin X.K F3 H3 Q (.r (.tuple _)))
      have d0 : Dp X.K F3 x (.tuple ts) := d
      cases d with
      | tup hs dd =>
        refine .inr ⟨_, _, rfl, tupS R3.sub hs, fun w => ?_, fun _ p hp => fin.2 _ p _ rfl hp (cut_dp dd)⟩
        refine fin.1 _ ?_
        have e : cutT ts l u = ts := by
          unfold cutT
          rw [← dpAll_len dd, w.1, w.2, dpAll_len dd]
          simp
        rw [e]; exact d0
    | none => simp only [q] at h3; exact h3.elim
    | bool _ => simp only [q] at h3; exact h3.elim
    | str _ => simp only [q] at h3; exact h3.elim
    | int _ => simp only [q] at h3; exact h3.elim
    | dict _ => simp only [q] at h3; exact h3.elim
end
/-! ### xs[::-1] of a list and of a tuple -/
section
variable {prog : Program} {w : World} {A : Around} {E : Value → Shared → Prop} {s : Shared}
theorem dpAll_rev {K : PySem.W.Frag} {F : Hp} : ∀ {ts : List T} {xs : List V}, DpAll K F xs ts → DpAll K F xs.reverse ts.reverse
  | [], _, h => by cases h; exact .nil
  | _ :: _, _, h => by cases h with | cons a b => rw [List.reverse_cons, List.reverse_cons]; exact dpAll_app (dpAll_rev b) (.cons a .nil)
end
end Ev
namespace Ev
open PySem PySem.Spec PyProof.Rows L2 HT
section
variable {prog : Program} {w : World} {A : Around} {E : Value → Shared → Prop} {s : Shared}
theorem adjust_rev (n : Nat) : Builtin.Slice.sliceAdjust none none (-1) (n : Int) = ((n : Int) - 1, -1) := by
  unfold Builtin.Slice.sliceAdjust
  have h1 : ((-1 : Int) < 0) := by omega
  simp only [h1, if_true]
theorem places_rev (n : Nat) : Builtin.Slice.slicePlaces ((n : Int) - 1) (-1) (-1) = n := by
  unfold Builtin.Slice.slicePlaces
  have h1 : ¬ ((-1 : Int) > 0) := by omega
  have h2 : (- -1 : Int) = 1 := by decide
  simp only [h1, if_false, h2, Int.ediv_one]
  split <;> omega
theorem applied_rev {sl : Addr} {vl vu vs : Value} {n : Nat} {Q : Int × Int × Nat → Shared → Prop} (hs : s.heap.IsSliceOf sl vl vu vs) (pl : IsPart vl none) (pu : IsPart vu none) (ps : IsPart vs (some (-1)))
    (h : Q ((n : Int) - 1, -1, n) s) : wpAny (model prog w) A (Builtin.Slice.sliceApplied (.ref sl) (pure (n : Int))) Q E s := by
  obtain ⟨os, hos, hcs, hds⟩ := id hs
  unfold Builtin.Slice.sliceApplied Builtin.Slice.sliceFields
  refine wpAny_bind (wpAny_bind (wpAny_field hos hds (x := vl) rfl (wpAny_bind (wpAny_field hos hds (x := vu) rfl (wpAny_bind (wpAny_field hos hds (x := vs) rfl (wpAny_pure ?_)))))))
  refine wpAny_bind (slicePart_ ps ?_)
  show wpAny _ _ (if ((-1 : Int) == 0) = true then _ else _) _ _ s
  rw [if_neg (by decide)]
  refine wpAny_bind (slicePart_ pl (wpAny_bind (slicePart_ pu (wpAny_bind (wpAny_pure ?_)))))
  show wpAny _ _ (match Builtin.Slice.sliceAdjust none none (-1) (n : Int) with | (lo, hi) => pure (lo, (-1 : Int), Builtin.Slice.slicePlaces lo hi (-1))) _ _ s
  rw [adjust_rev n]
  show wpAny _ _ (pure ((n : Int) - 1, (-1 : Int), Builtin.Slice.slicePlaces ((n : Int) - 1) (-1) (-1))) _ _ s
  rw [places_rev]
  exact wpAny_pure h
theorem pick_rev (xs : Array Value) : ((List.range xs.size).filterMap fun (m : Nat) => xs[((xs.size : Int) - 1 + (m : Int) * (-1)).toNat]?).toArray = xs.toList.reverse.toArray := by
  have e : (fun (m : Nat) => xs[((xs.size : Int) - 1 + (m : Int) * (-1)).toNat]?) = fun m => xs[xs.size - 1 - m]? := by
    funext m
    have : ((xs.size : Int) - 1 + (m : Int) * (-1)).toNat = xs.size - 1 - m := by omega
    rw [this]
  rw [e]
  congr 1
  have h1 := PySem.W.krv_range xs.size
  have h2 : (List.range xs.size).filterMap (fun m => xs[xs.size - 1 - m]?) = ((List.range xs.size).map (fun k => xs.size - 1 - k)).filterMap (fun j => xs[j]?) := by rw [List.filterMap_map]; rfl
  rw [h2, h1, List.filterMap_reverse, PySem.W.krv_all]
theorem getItem_tuple_rev {t sl : Addr} {items : Array Value} {vl vu vs : Value} {Q : Value → Shared → Prop} (ht : IsTup s.heap t items) (hs : s.heap.IsSliceOf sl vl vu vs) (pl : IsPart vl none) (pu : IsPart vu none) (ps : IsPart vs (some (-1)))
    (h : Q (.ref s.heap.objs.size) { s with heap := s.heap.push { cls := .type "tuple", data := .seq items.toList.reverse.toArray } })
    (hsz : items.size ≤ sizeLine) : wpAny (model prog w) A (getItem (.ref t) (.ref sl)) Q E s := by
  have htake : sizeOk (.seq items.toList.reverse.toArray) := by
    show items.toList.reverse.toArray.size ≤ sizeLine
    rw [List.size_toArray, List.length_reverse, Array.length_toList]
    omega
  obtain ⟨os, hos, hcs, hds⟩ := id hs
  have hTs : s.TypeIs (.ref sl) "slice" := ⟨os, hos, hcs⟩
  unfold getItem
  try with_reducible refine wpAny_holding ?_
  first | refine wpAny_bind (wpAny_pure ?_) | skip
  refine wpAny_bind (wpAny_sequenceKey ht.typeIs (by decide) ?_)
  refine wpAny_bind (wpAny_callSpecial?_slot (name := Str.ofString "__getitem__") ht.typeIs PyProof.Rows.slot_tuple_getitem
    (wpAny_call_entry PyProof.Rows.slot_tuple_getitem ht.typeIs entry_tuple_getitem ?_ (args_tuple_getitem _ _)))
  show wpAny _ _ (Builtin.Tuple.tupleItemsOf (.ref t) >>= _) _ _ s
  refine wpAny_bind (tupleItemsOf_ ht ?_)
  refine wpAny_bind (wpAny_typeOf hTs ?_)
  rw [if_pos (by decide)]
  refine wpAny_bind (applied_rev (n := items.size) hs pl pu ps ?_)
  have hno : ¬ ((((items.size : Nat) : Int) - 1 == 0 && (-1 : Int) == 1 && items.size == items.size) = true) := by simp
  show wpAny _ _ (if ((((items.size : Nat) : Int) - 1 == 0 && (-1 : Int) == 1 && items.size == items.size) = true) then _ else _) _ _ s
  rw [if_neg hno, pick_rev]
  first
    | exact wpAny_bind (m := Builtin.Tuple.tupleExact _) (wpAny_newObj_type (wpAny_pure ⟨_, rfl, wpAny_pure h⟩) htake)
    | exact wpAny_bind (m := Builtin.Tuple.tupleExact _) (wpAny_newObj_type (wpAny_bind (wpAny_pure (wpAny_pure ⟨_, rfl, wpAny_pure h⟩))) htake)
    | exact wpAny_bind (wpAny_bind (m := Builtin.Tuple.tupleExact _) (wpAny_newObj_type (wpAny_pure (wpAny_pure ⟨_, rfl, wpAny_pure h⟩)) htake))
    | exact wpAny_bind (wpAny_bind (m := Builtin.Tuple.tupleExact _) (wpAny_newObj_type (wpAny_pure ⟨_, rfl, wpAny_pure h⟩) htake))
end
section
variable {X : Cx} {W : WX} {a : Expr} {ma : SemE} {pos : Pos}
def tRev2 (K : PySem.W.Frag) (te : TE) : TE := fun σ H Q => te σ H fun x H1 => ∃ a xs, x = .ref a ∧ ((SqL K H1 a xs ∧ ∀ p, H1 p = none → Q (.ref p) (upd H1 p (.lst xs.reverse))) ∨ (SqT K H1 a xs ∧ ∀ p, H1 p = none → Q (.ref p) (upd H1 p (.tup xs.reverse))))
theorem pe_rev2 {e : Expr} {te : TE} {k : Nat} {p1 p2 p3 pos : Pos} (he : PE X e te) : PE X (.Subscript e (.Slice none none (some (.UnaryOp .USub (.Constant (.int 1) k p1) p2)) p3) pos) (tRev2 X.K te) := by
  refine ⟨fun pins s σ H Q I h => ?_⟩
  refine Subscript_ (thn (he.run pins s σ H _ I h) fun v s1 ⟨x, H1, I1, r1, q1⟩ => ?_)
  obtain ⟨a, xs, ex, q1⟩ := q1
  subst ex
  cases r1
  have hst : PO X (some (.UnaryOp .USub (.Constant (.int 1) k p1) p2)) (tPart (tUn (rU fun i => .int (-i)) (tC (.int 1)))) := po_some (pe_un un_neg pe_int)
  refine wpAny_Slice (thn (po_none.run pins s1 σ H1 (fun o H2 => o = none ∧ H2 = H1) I1 ⟨rfl, rfl⟩) fun vl s2 ⟨l, H2, I2, pl, el, e2⟩ => ?_)
  subst el e2
  refine thn (po_none.run pins s2 σ H2 (fun o H3 => o = none ∧ H3 = H2) I2 ⟨rfl, rfl⟩) fun vu s3 ⟨u, H3, I3, pu, eu, e3⟩ => ?_
  subst eu e3
  refine thn (hst.run pins s3 σ H3 (fun o H4 => o = some (-1) ∧ H4 = H3) I3 ⟨1, rfl, -1, rfl, rfl, rfl⟩) fun vs s4 ⟨o, H4, I4, ps, eo, e4⟩ => ?_
  subst eo e4
  have I5 : Inv X pins σ H4 { s4 with heap := s4.heap.push { cls := .type "slice", data := .fields #[vl, vu, vs] } } := I4.kept (t' := s4.toks) fun b ob q => Heap.get?_push_of_some _ q
  show wpAny (model X.prog X.w) X.A (subscriptTail e (.Slice none none (some (.UnaryOp .USub (.Constant (.int 1) k p1) p2)) p3) (.ref a) (.ref s4.heap.objs.size)) (EP X pins σ Q) X.xe { s4 with heap := s4.heap.push { cls := .type "slice", data := .fields #[vl, vu, vs] } }
  rcases q1 with ⟨hx, q⟩ | ⟨hx, q⟩
  · obtain ⟨its, r, ht, hz⟩ := I5.list hx
    have hlen := r.length
    refine tail_any (ops := [.ref a, .ref s4.heap.objs.size]) ht.isList.typeIs (PySem.slot_list_getitem.lookup) ?_ (by with_unfolding_all rfl)
    refine wpAny_getItem_list_slice ht.isList (Heap.IsSliceOf.new _ vl vu vs) pl pu ps (by decide) ?_ (by rw [List.size_toArray]; omega)
    rw [PySem.W.krv_pick]
    refine ⟨.ref _, _, I5.laid (t' := s4.toks) (o := .lst xs.reverse) (fun b ob q => Heap.get?_push_of_some _ q) (Nat.le_refl _) ?_, rfl, q _ (I5.hok.fresh (Nat.le_refl _))⟩
    exact ⟨by rw [List.length_reverse]; exact hz, _, 0, r.reverse, Heap.get?_push_size _ rfl⟩
  · obtain ⟨its, r, ht, hz⟩ := I5.tuple hx
    have hlen := r.length
    refine tail_any (ops := [.ref a, .ref s4.heap.objs.size]) ht.typeIs (PyProof.Rows.slot_tuple_getitem.lookup) ?_ (by with_unfolding_all rfl)
    refine getItem_tuple_rev ht (Heap.IsSliceOf.new _ vl vu vs) pl pu ps ?_ (by rw [List.size_toArray]; omega)
    refine ⟨.ref _, _, I5.laid (t' := s4.toks) (o := .tup xs.reverse) (fun b ob q => Heap.get?_push_of_some _ q) (Nat.le_refl _) ?_, rfl, q _ (I5.hok.fresh (Nat.le_refl _))⟩
    exact ⟨by rw [List.length_reverse]; exact hz, _, r.reverse, IsTup.new _ _⟩
def eRev (m : SemE) : SemE := fun e => (m e).bind fun r e1 => match r.val e1 with
  | some (.list ts) => .ok (.b (.l ts.reverse)) e1
  | some (.tuple ts) => .ok (.r (.tuple ts.reverse)) e1
  | _ => .bad
theorem qrev {k : Nat} {p1 p2 p3 : Pos} (ha : QE X W a ma) : QE X W (.Subscript a (.Slice none none (some (.UnaryOp .USub (.Constant (.int 1) k p1) p2)) p3) pos) (eRev ma) := by
  refine pe_mono (pe_rev2 ha) fun σ H Q h => ?_
  obtain ⟨e, F, R, h⟩ := h
  refine tX_imp (tX_bind (rel := fun σ => OdR X.K σ) R .refl h) fun x H1 ⟨r, e1, F1, R1, S1, O1, h1⟩ => ?_
  cases q : r.val e1 with
  | none => simp only [q] at h1; exact h1.elim
  | some t =>
    have d := val_ok R1 O1 q
    cases t with
    | list ts =>
      simp only [q] at h1
      obtain ⟨p, xs, rfl, hs, dd⟩ := d
      exact ⟨p, xs, rfl, .inl ⟨hs, fun p hp => (fin_of R1 S1 h1 True.intro : Fin X.K F1 H1 Q (.b (.l _))) p _ hp (dpAll_rev dd)⟩⟩
    | tuple ts =>
      simp only [q] at h1
      cases d with
      | tup hs dd => exact ⟨_, _, rfl, .inr ⟨tupS R1.sub hs, fun p hp => (fin_of R1 S1 h1 True.intro : Fin X.K F1 H1 Q (.r (.tuple _))).2 _ p _ rfl hp (dpAll_rev dd)⟩⟩
    | none => simp only [q] at h1; exact h1.elim
    | bool _ => simp only [q] at h1; exact h1.elim
    | str _ => simp only [q] at h1; exact h1.elim
    | int _ => simp only [q] at h1; exact h1.elim
    | dict _ => simp only [q] at h1; exact h1.elim
end
end Ev

set_option Elab.async false
set_option linter.all false
set_option maxRecDepth 100000
namespace Ev
open PySem PySem.Spec PyProof.Rows L2
section
variable {K : PySem.W.Frag} {W : WX} {e e1 : En} {σ : Sg} {F H : Hp}
/-- what a name alone holds is changed -/
theorem upd_own {i : Nat} {l : Bool} {z : Bx} {ts' : List T} {p : Addr} {xs' : List V} (R : Rel K e σ F H) (h1 : e[i]? = some (.ow l z)) (h2 : σ[i]? = some (some (.ref p))) (d : DpAll K F xs' ts') :
    Rel K (e.set i (.ow l (.l ts'))) σ F (upd H p (.lst xs')) ∧ Step e (e.set i (.ow l (.l ts'))) σ F H F (upd H p (.lst xs')) := by
  have hi : i < e.length := (List.getElem?_eq_some_iff.mp h1).1
  have ow : Own e σ p := ⟨i, l, z, h1, h2⟩
  have hf := (R.owned ow).1
  have get : ∀ (j : Nat) (s : Sl), (e.set i (.ow l (.l ts')))[j]? = some s → (j = i ∧ s = .ow l (.l ts')) ∨ (i ≠ j ∧ e[j]? = some s) := fun j s h => by
    by_cases q : i = j
    · subst q; rw [List.getElem?_set_self hi] at h; cases h; exact .inl ⟨rfl, rfl⟩
    · rw [List.getElem?_set_ne q] at h; exact .inr ⟨q, h⟩
  have kind : ∀ (j : Nat) (l' : Bool) (b' : Bx), (e.set i (.ow l (.l ts')))[j]? = some (.ow l' b') → ∃ b, e[j]? = some (.ow l' b) := fun j l' b' h => by
    rcases get j _ h with ⟨rfl, q⟩ | ⟨_, q⟩
    · cases q; exact ⟨z, h1⟩
    · exact ⟨b', q⟩
  refine ⟨⟨fun a o h => ?_, by simp [R.len], fun j s o g1 g2 => ?_, fun j j' l1 b1 l2 b2 q g1 g2 g3 g4 => ?_⟩, ⟨fun _ _ h => h, fun a o h n => ?_, fun a o h => ?_, fun a ⟨j, l', b', g1, g2⟩ => ?_, fun j hj => ?_, kind⟩⟩
  · rw [upd_ne (ne_of_none h hf)]; exact R.sub _ _ h
  · rcases get j s g1 with ⟨rfl, rfl⟩ | ⟨q, g⟩
    · rw [h2] at g2; cases g2; exact ⟨p, rfl, hf, xs', upd_same, d⟩
    · have w := R.at_ j s o g g2
      cases s with
      | un => trivial
      | v t => exact w
      | fz b => exact w
      | ow l' b =>
        obtain ⟨p', ep, hf', bx⟩ := w
        subst ep
        have np : p' ≠ p := fun w => by subst w; exact q (R.ne i j l z l' b p' h1 g h2 g2)
        exact ⟨p', rfl, hf', bx_keep bx (fun _ _ h => h) fun o' h' => by rw [upd_ne np]; exact h'⟩
  · obtain ⟨b1', q1⟩ := kind j _ _ g1
    obtain ⟨b2', q2⟩ := kind j' _ _ g2
    exact R.ne j j' _ _ _ _ q q1 q2 g3 g4
  · have np : a ≠ p := fun w => n (by subst w; exact ow)
    exact ⟨by rw [upd_ne np]; exact h, fun w => w⟩
  · by_cases q : a = p
    · subst q; exact ⟨_, upd_same⟩
    · exact ⟨o, by rw [upd_ne q]; exact h⟩
  · obtain ⟨b, q⟩ := kind j _ _ g1
    exact ⟨j, l', b, q, g2⟩
  · obtain ⟨b', q⟩ := hj
    by_cases ij : i = j
    · subst ij
      rw [h1] at q
      rcases q with q | q
      · cases q; exact ⟨_, .inl (List.getElem?_set_self hi)⟩
      · cases q
    · exact ⟨b', by rw [List.getElem?_set_ne ij]; exact q⟩
end
/-- a method that changes a list, met by g -/
def MutDoes (K : PySem.W.Frag) (r : V → List V → Hp → VK → Prop) (g : List T → List T → Option (List T × T)) : Prop :=
  ∀ (p : Addr) (xs vs : List V) (ts us : List T) (ts' : List T) (w : T) (F H : Hp) (Q : VK), H p = some (.lst xs) → DpAll K F xs ts → DpAll K F vs us → g ts us = some (ts', w) →
    (∀ xs' v, DpAll K F xs' ts' → Dp K F v w → Q v (upd H p (.lst xs'))) → r (.ref p) vs H Q
def eMut (i : Nat) (g : List T → List T → Option (List T × T)) (ma : SemA) : SemE := fun e => match e[i]? with
  | some (.ow _ (.l _)) => (ma e).bind fun rs e1 => (match escs rs e1 with
    | some (us, e2) => (match e2[i]? with
      | some (.ow l (.l ts)) => (match g ts us with
        | some (ts', w) => .ok (.r w) (e2.set i (.ow l (.l ts')))
        | none => .bad)
      | _ => .bad)
    | none => .bad)
  | _ => .bad
section
variable {X : Cx} {W : WX} {a b c : Expr} {ma mb mc : SemE} {pos : Pos}
theorem mut_read {K : PySem.W.Frag} {i : Nat} {r : V → List V → Hp → VK → Prop} {g : List T → List T → Option (List T × T)} {m : SemA} (hr : MutDoes K r g) {σ : Sg} {H : Hp} {Q : VK} (h : tE K W (eMut i g m) σ H Q) :
    ∃ p, σ[i]? = some (some (.ref p)) ∧ (∃ xs, SqL K H p xs) ∧ tA K W m σ H fun vs H2 => r (.ref p) vs H2 Q := by
  obtain ⟨e, F, R, h⟩ := h
  simp only [eMut] at h
  cases q : e[i]? with
  | none => rw [q] at h; exact h.elim
  | some s =>
    rw [q] at h
    cases s with
    | un => exact h.elim
    | v _ => exact h.elim
    | fz _ => exact h.elim
    | ow l z =>
      cases z with
      | d _ => exact h.elim
      | m _ => exact h.elim
      | n _ => exact h.elim
      | l ts0 =>
        simp only at h
        obtain ⟨o, hs, p, ep, hf, xs0, hx0, d0⟩ := R.var q
        subst ep
        refine ⟨p, hs, ⟨xs0, SqL.of hx0⟩, ?_⟩
        refine tX_imp (tX_bind (rel := fun σ Hs F H xs rs => OdsR K σ Hs F H rs xs) R .refl h) fun vs H1 ⟨rs, e1, F1, R1, S1, O1, h1⟩ => ?_
        cases q1 : escs rs e1 with
        | none => simp only [q1] at h1; exact h1.elim
        | some te =>
          obtain ⟨us, e2⟩ := te
          simp only [q1] at h1
          obtain ⟨F2, R2, S2, d2, _⟩ := escs_ok R R1 S1 O1 q1
          cases q2 : e2[i]? with
          | none => rw [q2] at h1; exact h1.elim
          | some s2 =>
            rw [q2] at h1
            cases s2 with
            | un => exact h1.elim
            | v _ => exact h1.elim
            | fz _ => exact h1.elim
            | ow l2 z2 =>
              cases z2 with
              | d _ => exact h1.elim
              | m _ => exact h1.elim
              | n _ => exact h1.elim
              | l ts =>
                simp only at h1
                obtain ⟨p', ep, hf2, xs, hx, d⟩ := R2.at_ i _ _ q2 hs
                cases ep
                cases q3 : g ts us with
                | none => rw [q3] at h1; exact h1.elim
                | some tw =>
                  obtain ⟨ts', w⟩ := tw
                  rw [q3] at h1
                  refine hr p xs vs ts us ts' w F2 H1 Q hx d d2 q3 fun xs' v d' dw => ?_
                  obtain ⟨R3, S3⟩ := upd_own R2 q2 hs d'
                  exact h1 v F2 _ R3 (S2.trans S3) dw
theorem qmeth {i : Nat} {x name : Str} {p apos cpos : Pos} {id : String} {r : V → List V → Hp → VK → Prop} {g : List T → List T → Option (List T × T)} {m : SemA} {es : List Expr} (slot : Slot "list" name id) (hty : typeOf (.builtin id) = pure (.type "method_descriptor")) (hm : MtR X id r) (hr : MutDoes X.K r g)
    (hN : X.N[i]? = some x) (hv : Vis X.env.scope x) (ha : QA X W (a :: es) m) (hd : (x == ("__debug__" : Str)) = false := by decide) (hcd : (x == ("__classdict__" : Str)) = false := by decide)
    (hbase : attributeBase (.Name x p) name X.env (eval (.Name x p) X.env) = eval (.Name x p) X.env := by rfl)
    (hfew : ((backTo cpos (starEach (a :: es) X.env)).all (fun x => !x.1) && (backToKw cpos (keywordEach [] X.env)).all (fun x => x.1.isSome)
      && decide ((a :: es).length + ([] : List Keyword).length + (if ([] : List Keyword).isEmpty then 0 else 1) < 30)) = true := by rfl)
    (hline : (apos.endLine == cpos.line) = true := by rfl) (hs : starEach (a :: es) X.env = (false, eval a X.env) :: starEach es X.env := by rfl) (hplain : (backTo cpos (starEach es X.env)).any (·.1) = false := by rfl) :
    QE X W (.Call (.Attribute (.Name x p) name apos) (a :: es) [] cpos) (eMut i g m) :=
  pe_mono (pe_bm PySem.F.plainAttrs_list slot hty hm (pe_var hN hv hd hcd) ha hbase hfew hline hs hplain) fun σ H Q h => by
    obtain ⟨p, hs, hl, h⟩ := mut_read hr h
    exact ⟨_, hs, .inl ⟨rfl, hl⟩, h⟩
/-! ### the methods -/
def gAppend (ts us : List T) : Option (List T × T) := match us with
  | [u] => if ts.length < sizeLine then some (ts ++ [u], .none) else none
  | _ => none
theorem does_append {K : PySem.W.Frag} : MutDoes K rAppend gAppend := by
  intro p xs vs ts us ts' w F H Q hx d dv hg q
  cases dv with
  | nil => cases hg
  | cons a dv =>
    cases dv with
    | cons _ _ => cases hg
    | nil =>
      simp only [gAppend] at hg
      split at hg
      · rename_i hl; cases hg
        exact ⟨p, xs, _, rfl, rfl, hx, by rw [dpAll_len d]; exact hl, q _ _ (dpAll_app d (.cons a .nil)) .non⟩
      · cases hg
def gInsert (ts us : List T) : Option (List T × T) := match us with
  | [.int i, u] => if ts.length < sizeLine ∧ 0 ≤ i ∧ i < 2 ^ 63 then some (ts.take i.toNat ++ [u] ++ ts.drop i.toNat, .none) else none
  | _ => none
theorem dpAll_erase {K : PySem.W.Frag} {F : Hp} {ts : List T} {vs : List V} (k : Nat) (d : DpAll K F vs ts) : DpAll K F (vs.eraseIdx k) (ts.eraseIdx k) := by
  rw [List.eraseIdx_eq_take_drop_succ, List.eraseIdx_eq_take_drop_succ]
  exact dpAll_app (dpAll_take _ d) (dpAll_drop _ d)
def gPop (ts us : List T) : Option (List T × T) := match us with
  | [.int i] => if -(2 ^ 63) ≤ i ∧ i < 2 ^ 63 then (match seqIndex? i ts.length with
    | some k => (match ts[k]? with
      | some t => some (ts.eraseIdx k, t)
      | none => none)
    | none => none) else none
  | _ => none
theorem does_pop {K : PySem.W.Frag} : MutDoes K rPopAt gPop := by
  intro p xs vs ts us ts' w F H Q hx d dv hg q
  cases dv with
  | nil => cases hg
  | cons a dv =>
    cases dv with
    | cons _ _ => cases a <;> cases hg
    | nil =>
      cases a with
      | int i =>
        simp only [gPop] at hg
        split at hg
        · rename_i hl
          cases e : seqIndex? i ts.length with
          | none => rw [e] at hg; cases hg
          | some k =>
            simp only [e] at hg
            cases e2 : ts[k]? with
            | none => rw [e2] at hg; cases hg
            | some t =>
              rw [e2] at hg; cases hg
              obtain ⟨v, hv, dv⟩ := dpAll_get d e2
              exact ⟨p, xs, i, k, v, rfl, rfl, hx, hl.1, hl.2, by rw [dpAll_len d]; exact e, hv, q _ _ (dpAll_erase _ d) dv⟩
        · cases hg
      | _ => cases hg
/-! ### built-ins -/
end
/-- of one value; of two -/
def g1 (f : T → Option Od) : List T → Option Od
  | [t] => f t
  | _ => none
def g2 (f : T → T → Option Od) : List T → Option Od
  | [t, u] => f t u
  | _ => none
theorem doesN1 {K : PySem.W.Frag} {r : List V → Hp → VK → Prop} {f : T → Option Od} (h : ∀ (x : V) (t : T) (w : Od) (F H : Hp) (Q : VK), (∀ a o, F a = some o → H a = some o) → DpO K F H x t → f t = some w → Back w ∧ (Fin K F H Q w → r [x] H Q)) : DoesN K r (g1 f) := by
  intro xs ts w F H Q ff d hg
  cases d with
  | nil => cases hg
  | cons a d =>
    cases d with
    | nil => exact h _ _ w F H Q ff a hg
    | cons _ _ => cases hg
theorem doesN2 {K : PySem.W.Frag} {r : List V → Hp → VK → Prop} {f : T → T → Option Od} (h : ∀ (x y : V) (t u : T) (w : Od) (F H : Hp) (Q : VK), (∀ a o, F a = some o → H a = some o) → DpO K F H x t → DpO K F H y u → f t u = some w → Back w ∧ (Fin K F H Q w → r [x, y] H Q)) : DoesN K r (g2 f) := by
  intro xs ts w F H Q ff d hg
  cases d with
  | nil => cases hg
  | cons a d =>
    cases d with
    | nil => cases hg
    | cons b d =>
      cases d with
      | nil => exact h _ _ _ _ w F H Q ff a b hg
      | cons _ _ => cases hg
def fLen : T → Option Od
  | .list ts => some (.r (.int ts.length))
  | .tuple ts => some (.r (.int ts.length))
  | _ => none
abbrev gLen := g1 fLen
def rLen2 (K : PySem.W.Frag) : List V → Hp → VK → Prop := fun xs H Q => ∃ p ys, xs = [.ref p] ∧ (SqL K H p ys ∨ SqT K H p ys) ∧ Q (.int ys.length) H
theorem does_len {K : PySem.W.Frag} : DoesN K (rLen2 K) gLen := doesN1 fun x t w F H Q ff d hg => by
  cases t with
  | list ts =>
    cases hg
    obtain ⟨p, ys, rfl, h, dd⟩ := d
    exact ⟨trivial, fun q => ⟨p, ys, rfl, .inl h, by rw [dpAll_len dd]; exact q.1 _ (.int _)⟩⟩
  | tuple ts =>
    cases hg
    cases d with
    | tup h dd => exact ⟨trivial, fun q => ⟨_, _, rfl, .inr (tupS ff h), by rw [dpAll_len dd]; exact q.1 _ (.int _)⟩⟩
  | _ => cases hg
def fInt : T → Option Od
  | .int i => some (.r (.int i))
  | .bool k => some (.r (.int (if k then 1 else 0)))
  | _ => none
abbrev gInt := g1 fInt
theorem does_int {K : PySem.W.Frag} : DoesN K (fun xs H Q => (∃ i, xs = [.int i] ∧ Q (.int i) H) ∨ ∃ k, xs = [.bl k] ∧ Q (.int (if k then 1 else 0)) H) gInt := doesN1 fun x t w F H Q ff d hg => by
  cases t with
  | int i => cases hg; cases d; exact ⟨trivial, fun q => .inl ⟨i, rfl, q.1 _ (.int _)⟩⟩
  | bool i => cases hg; cases d; exact ⟨trivial, fun q => .inr ⟨i, rfl, q.1 _ (.int _)⟩⟩
  | _ => cases hg
def fAbs : T → Option Od
  | .int i => some (.r (.int (if i < 0 then -i else i)))
  | _ => none
abbrev gAbs := g1 fAbs
theorem does_abs {K : PySem.W.Frag} : DoesN K (fun xs H Q => ∃ i, xs = [.int i] ∧ Q (.int (if i < 0 then -i else i)) H) gAbs := doesN1 fun x t w F H Q ff d hg => by
  cases t with
  | int i => cases hg; cases d; exact ⟨trivial, fun q => ⟨i, rfl, q.1 _ (.int _)⟩⟩
  | _ => cases hg
abbrev gMax2 := g2 (gII (fun _ _ => true) fun i j => .int (if j > i then j else i))
abbrev gMin2 := g2 (gII (fun _ _ => true) fun i j => .int (if j < i then j else i))
theorem does2I {K : PySem.W.Frag} {c : Int → Int → Bool} {g : Int → Int → Int} : DoesN K (fun xs H Q => ∃ i j, xs = [.int i, .int j] ∧ Q (.int (g i j)) H) (g2 (gII c fun i j => .int (g i j))) := doesN2 fun x y t u w F H Q ff d d' hg => by
  cases t with
  | int i =>
    cases u with
    | int j =>
      simp only [gII] at hg
      split at hg
      · cases hg; cases d; cases d'; exact ⟨trivial, fun q => ⟨i, j, rfl, q.1 _ (.int _)⟩⟩
      · cases hg
    | _ => cases hg
  | _ => cases hg
theorem does_max2 {K : PySem.W.Frag} : DoesN K (fun xs H Q => ∃ i j, xs = [.int i, .int j] ∧ Q (.int (if j > i then j else i)) H) gMax2 := does2I
theorem does_min2 {K : PySem.W.Frag} : DoesN K (fun xs H Q => ∃ i j, xs = [.int i, .int j] ∧ Q (.int (if j < i then j else i)) H) gMin2 := does2I
abbrev gDivmod := g2 (gII (fun _ j => decide (0 < j ∧ j < 1073741824)) fun i j => .tuple [.int (i / j), .int (i % j)])
def fTuple : T → Option Od
  | .list ts => some (.r (.tuple ts))
  | .tuple ts => some (.r (.tuple ts))
  | _ => none
abbrev gTuple := g1 fTuple
theorem does_tuple {K : PySem.W.Frag} : DoesN K (fun xs H Q => ∃ p ys, xs = [.ref p] ∧ ((SqL K H p ys ∧ ∀ l, H l = none → Q (.ref l) (upd H l (.tup ys))) ∨ (SqT K H p ys ∧ Q (.ref p) H))) gTuple := doesN1 fun x t w F H Q ff d hg => by
  cases t with
  | list ts =>
    cases hg
    obtain ⟨p, ys, rfl, h, dd⟩ := d
    exact ⟨trivial, fun q => ⟨p, ys, rfl, .inl ⟨h, fun l hl => q.2 _ l _ rfl hl dd⟩⟩⟩
  | tuple ts =>
    cases hg
    have a0 : Dp K F x (.tuple ts) := d
    cases d with
    | tup h dd => exact ⟨trivial, fun q => ⟨_, _, rfl, .inr ⟨tupS ff h, q.1 _ a0⟩⟩⟩
  | _ => cases hg
def fList : T → Option Od
  | .list ts => some (.b (.l ts))
  | .tuple ts => some (.b (.l ts))
  | _ => none
abbrev gList := g1 fList
/-- the truths of a list -/
def bools : List T → Option (List Bool)
  | [] => some []
  | .bool b :: ts => (bools ts).map (b :: ·)
  | _ => none
theorem bools_dp {K : PySem.W.Frag} {F : Hp} : ∀ {ts : List T} {xs : List V} {bs : List Bool}, DpAll K F xs ts → bools ts = some bs → xs = bs.map V.bl
  | [], _, _, d, h => by cases d; cases h; rfl
  | t :: ts, _, _, d, h => by
    cases d with
    | cons a d =>
      cases t with
      | bool b =>
        cases a
        simp only [bools] at h
        cases q : bools ts with
        | none => rw [q] at h; cases h
        | some bs => rw [q] at h; cases h; rw [bools_dp d q]; rfl
      | _ => cases h
def fAll (k : List Bool → Bool) : T → Option Od
  | .list ts => (bools ts).map fun bs => .r (.bool (k bs))
  | _ => none
abbrev gAll := g1 (fAll fun bs => bs.all id)
theorem doesBs {K : PySem.W.Frag} {k : List Bool → Bool} : DoesN K (fun vs H Q => ∃ (a : Addr) (bs : List Bool), vs = [V.ref a] ∧ SqL K H a (bs.map V.bl) ∧ Q (.bl (k bs)) H) (g1 (fAll k)) := doesN1 fun x t w F H Q ff d hg => by
  cases t with
  | list ts =>
    simp only [fAll] at hg
    cases q : bools ts with
    | none => rw [q] at hg; cases hg
    | some bs =>
      rw [q] at hg; cases hg
      obtain ⟨p, ys, rfl, h, dd⟩ := d
      refine ⟨trivial, fun k => ⟨p, bs, rfl, ?_, k.1 _ (.bl _)⟩⟩
      rw [← bools_dp dd q]; exact h
  | _ => cases hg
theorem does_all {K : PySem.W.Frag} : DoesN K (rAll K) gAll := doesBs
end Ev

set_option Elab.async false
set_option linter.all false
set_option maxRecDepth 100000
namespace Ev
open PySem PySem.Spec PyProof.Rows L2
section
variable {K : PySem.W.Frag} {W : WX} {B : Bd} {e e1 e2 : En} {σ σ1 : Sg} {F H F1 H1 F2 H2 : Hp}
theorem BOk.up (k : BOk B e σ F H) : BOk { B with F := F } e σ F H :=
  ⟨fun _ _ h => h, fun a o h n => ⟨(k.keep a o h n).1, fun z => z⟩, k.dom, k.fresh, k.own, k.lent⟩
theorem BOk.down (k1 : BOk B e1 σ1 F1 H1) (k : BOk { B with F := F1 } e σ F H) : BOk B e σ F H where
  ff := fun a o h => k.ff _ _ (k1.ff _ _ h)
  keep := fun a o h n => ⟨(k.keep a o h n).1, fun z => (k.keep a o h n).2 ((k1.keep a o h n).2 z)⟩
  dom := k.dom
  fresh := k.fresh
  own := k.own
  lent := k.lent
/-! ### targets -/
/-- slots apart from ws stay -/
def Agree (ws : List Nat) (σ σ' : Sg) : Prop := σ'.length = σ.length ∧ ∀ j, j ∉ ws → σ'[j]? = σ[j]?
theorem Agree.refl {ws : List Nat} : Agree ws σ σ := ⟨rfl, fun _ _ => rfl⟩
theorem Agree.trans {ws : List Nat} {σ2 : Sg} (a : Agree ws σ σ1) (b : Agree ws σ1 σ2) : Agree ws σ σ2 := ⟨b.1.trans a.1, fun j h => (b.2 j h).trans (a.2 j h)⟩
abbrev SemG := T → En → Option En
def tG (K : PySem.W.Frag) (B : Bd) (ws : List Nat) (g : SemG) : TG := fun x σ H Q => ∃ e F t e', Rel K e σ F H ∧ BOk B e σ F H ∧ Dp K F x t ∧ g t e = some e' ∧ ∀ σ', Rel K e' σ' F H → BOk B e' σ' F H → Agree ws σ σ' → Q σ' H
theorem pg_mono {X : Cx} {tg : Expr} {t t' : TG} (h : PG X tg t) (m : ∀ x σ H Q, t' x σ H Q → t x σ H Q) : PG X tg t' := ⟨fun pins s σ H v u Q I r q => h.run pins s σ H v u Q I r (m v σ H Q q)⟩
abbrev QG (X : Cx) (B : Bd) (ws : List Nat) (tg : Expr) (g : SemG) : Prop := PG X tg (tG X.K B ws g)
def gN (i : Nat) : SemG := fun t e => if isLent e i then none else some (e.set i (.v t))
theorem qgn {X : Cx} {ws : List Nat} {i : Nat} {x : Str} {pos : Pos} (hN : X.N.Nodup) (hi : X.N[i]? = some x) (hx : Loc X.env.scope x) (hw : i ∈ ws) (hf : X.fn x = true ∨ X.env.scope.names.lookup x = some .local := by first | exact .inl rfl | exact .inr rfl | assumption) : QG X B ws (.Name x pos) (gN i) := by
  refine pg_mono (pg_name hN hi hx hf) fun x σ H Q h => ?_
  obtain ⟨e, F, t, e', R, k, d, hg, q⟩ := h
  simp only [gN] at hg
  cases l : isLent e i with
  | true => rw [l] at hg; cases hg
  | false =>
    rw [l] at hg; cases hg
    obtain ⟨a, b⟩ := set_v R k d (isLent_no l)
    exact q _ a b ⟨by simp, fun j hj => List.getElem?_set_ne fun (z : i = j) => hj (by rw [← z]; exact hw)⟩
abbrev SemGs := List T → En → Option En
def tGs (K : PySem.W.Frag) (B : Bd) (ws : List Nat) (g : SemGs) : TGs := fun xs σ H Q => ∃ e F ts e', Rel K e σ F H ∧ BOk B e σ F H ∧ DpAll K F xs ts ∧ g ts e = some e' ∧ ∀ σ', Rel K e' σ' F H → BOk B e' σ' F H → Agree ws σ σ' → Q σ' H
theorem pgs_mono {X : Cx} {tg : List Expr} {t t' : TGs} (h : PGs X tg t) (m : ∀ x σ H Q, t' x σ H Q → t x σ H Q) : PGs X tg t' := ⟨fun pins s σ H v u Q I r q => h.run pins s σ H v u Q I r (m v σ H Q q)⟩
abbrev QGs (X : Cx) (B : Bd) (ws : List Nat) (tg : List Expr) (g : SemGs) : Prop := PGs X tg (tGs X.K B ws g)
def gsNil : SemGs := fun ts e => match ts with
  | [] => some e
  | _ => none
def gsCons (g : SemG) (gs : SemGs) : SemGs := fun ts e => match ts with
  | t :: ts => (match g t e with
    | some e1 => gs ts e1
    | none => none)
  | [] => none
theorem qgsnil {X : Cx} {ws : List Nat} : QGs X B ws [] gsNil := by
  refine pgs_mono pgs_nil fun xs σ H Q h => ?_
  obtain ⟨e, F, ts, e', R, k, d, hg, q⟩ := h
  cases ts with
  | nil => cases d; cases hg; exact ⟨rfl, q _ R k .refl⟩
  | cons _ _ => cases hg
theorem qgscons {X : Cx} {ws : List Nat} {tg : Expr} {tgs : List Expr} {g : SemG} {gs : SemGs} (h1 : QG X B ws tg g) (h2 : QGs X B ws tgs gs)
    (hs : (assignEach (tg :: tgs) X.env).map (·.2) = assign tg X.env :: (assignEach tgs X.env).map (·.2) := by rfl) : QGs X B ws (tg :: tgs) (gsCons g gs) := by
  refine pgs_mono (pgs_cons h1 h2 hs) fun xs σ H Q h => ?_
  obtain ⟨e, F, ts, e', R, k, d, hg, q⟩ := h
  cases ts with
  | nil => cases hg
  | cons t ts =>
    cases d with
    | cons a b =>
      simp only [gsCons] at hg
      cases q1 : g t e with
      | none => rw [q1] at hg; cases hg
      | some e1 =>
        rw [q1] at hg
        exact ⟨_, _, rfl, e, F, t, e1, R, k, a, q1, fun σ' R' k' ag => ⟨e1, F, ts, e', R', k', b, hg, fun σ2 R2 k2 ag2 => q σ2 R2 k2 (ag.trans ag2)⟩⟩
def gT (n : Nat) (gs : SemGs) : SemG := fun t e => match t with
  | .tuple ts => if ts.length = n then gs ts e else none
  | _ => none
theorem qgt {X : Cx} {ws : List Nat} {es : List Expr} {k : Nat} {pos : Pos} {gs : SemGs} {n : Nat} (hc : X.calm = true) (h : QGs X B ws es gs)
    (hn : (assignEach es X.env).length = n := by rfl) (hst : (assignEach es X.env).findIdx? (·.1) = none := by rfl) : QG X B ws (.Tuple es k pos) (gT n gs) := by
  refine pg_mono (pg_tup hc h hn hst) fun x σ H Q h => ?_
  obtain ⟨e, F, t, e', R, k, d, hg, q⟩ := h
  cases t with
  | tuple ts =>
    simp only [gT] at hg
    split at hg
    · rename_i hl
      cases d with
      | tup hs dd => exact ⟨_, _, rfl, tupS R.sub hs, by rw [dpAll_len dd]; exact hl, e, F, ts, e', R, k, dd, hg, q⟩
    · cases hg
  | _ => cases hg
/-- target = value -/
def sAsg (g : SemG) (m : SemE) : SemS := fun e => (m e).bind fun r e1 => match esc r e1 with
  | some (t, e2) => (match g t e2 with
    | some e3 => .ok .nx e3
    | none => .bad)
  | none => .bad
theorem qasg {X : Cx} {ws : List Nat} {tg a : Expr} {pos : Pos} {g : SemG} {ma : SemE} (he : QE X W a ma) (hg : QG X B ws tg g) (hs : swapsWithSole [tg] a pos.line X.env = pure false := by rfl) (hw : swappedStores [tg] a X.env = pure none := by rfl)
    (h1 : (assignEach [tg] X.env).map (·.2) = [assign tg X.env] := by rfl) : QS X W B (.Assign [tg] a pos) (sAsg g ma) := by
  refine ps_mono (ps_asg he hg hs hw h1) fun D σ H h => ?_
  obtain ⟨e, F, R, k, h⟩ := h
  refine tX_imp (tS_bind (rel := fun σ => OdR X.K σ) R k h) fun x H1 ⟨r, e1, F1, R1, S1, k1, O, h2⟩ => ?_
  cases q : esc r e1 with
  | none => simp only [q] at h2; exact h2.elim
  | some te =>
    obtain ⟨t, e2⟩ := te
    simp only [q] at h2
    obtain ⟨F2, R2, S2, d, _⟩ := esc_ok R R1 S1 O q
    cases q2 : g t e2 with
    | none => simp only [q2] at h2; exact h2.elim
    | some e3 =>
      simp only [q2] at h2
      exact ⟨e2, F2, t, e3, R2, k.step S2, d, q2, fun σ' R' k' _ => h2 σ' F2 _ R' k'⟩
/-! ### what a loop walks -/
def Wk (K : PySem.W.Frag) (F0 : Hp) (J : It) (ts : List T) : Prop := ∀ (i : Nat) (F H : Hp), (∀ a o, F0 a = some o → F a = some o) → (∀ a o, F a = some o → H a = some o) →
  (∀ t, ts[i]? = some t → J.go i H ∧ ∀ x H', J.yld i H x H' → (H' = H ∧ Dp K F x t) ∨ ∃ p vs ws, x = .ref p ∧ H p = none ∧ H' = upd H p (.tup vs) ∧ t = .tuple ws ∧ DpAll K F vs ws) ∧ (ts.length ≤ i → J.stop i H)
abbrev SemI := En → Out (List T)
theorem pi_mono {X : Cx} {tg it : Expr} {t t' : TI} (h : PI X tg it t) (m : ∀ σ H Q, t' σ H Q → t σ H Q) : PI X tg it t' := ⟨fun pins s σ H Q I q => h.run pins s σ H Q I (m σ H Q q)⟩
abbrev tI (K : PySem.W.Frag) (W : WX) (m : SemI) : TI := tX K W (fun _ _ F _ J ts => Wk K F J ts) m
abbrev QI (X : Cx) (W : WX) (tg it : Expr) (m : SemI) : Prop := PI X tg it (tI X.K W m)
theorem wk_list {F : Hp} {a : Addr} {xs : List V} {ts : List T} (h : SqL K F a xs) (d : DpAll K F xs ts) : Wk K F (Itl K a) ts := by
  intro i F' H ff fh
  have hF : SqL K F' a xs := sqL_mono ff h
  have hH : SqL K H a xs := sqL_mono fh hF
  refine ⟨fun t ht => ?_, fun hi => ⟨xs, hH, by rw [dpAll_len d]; exact hi⟩⟩
  obtain ⟨v, hv, dv⟩ := dpAll_get d ht
  refine ⟨⟨xs, v, hH, hv⟩, fun x H' ⟨eH, y⟩ => .inl ⟨eH, ?_⟩⟩
  have := y xs hH
  rw [hv] at this; cases this
  exact dp_mono ff _ _ dv
theorem wk_tup {F : Hp} {a : Addr} {xs : List V} {ts : List T} (h : SqT K F a xs) (d : DpAll K F xs ts) : Wk K F (Itt K a) ts := by
  intro i F' H ff fh
  have hF : SqT K F' a xs := sqT_mono ff h
  have hH : SqT K H a xs := sqT_mono fh hF
  refine ⟨fun t ht => ?_, fun hi => ⟨xs, hH, by rw [dpAll_len d]; exact hi⟩⟩
  obtain ⟨v, hv, dv⟩ := dpAll_get d ht
  refine ⟨⟨xs, v, hH, hv⟩, fun x H' ⟨eH, y⟩ => .inl ⟨eH, ?_⟩⟩
  have := y xs hH
  rw [hv] at this; cases this
  exact dp_mono ff _ _ dv
def iSeq (K : PySem.W.Frag) (tl : TE) : TI := fun σ H R => tl σ H fun x H1 => ∃ a, x = .ref a ∧ (((∃ xs, SqL K H1 a xs) ∧ R (Itl K a) H1) ∨ ((∃ xs, SqT K H1 a xs) ∧ R (Itt K a) H1))
theorem pi_seq {X : Cx} {tg l : Expr} {tl : TE} (hl : PE X l tl) : PI X tg l (iSeq X.K tl) := by
  refine ⟨fun pins s σ H R I h => ?_⟩
  refine thn (hl.run pins s σ H _ I h) fun v s1 ⟨x, H1, I1, r1, q1⟩ => ?_
  obtain ⟨a, e, q⟩ := q1
  subst e
  cases r1
  have fp : ∀ b ∈ [s1.heap.objs.size], FpOk X pins H1 b := fun b hb => by
    have e : b = s1.heap.objs.size := by simpa using hb
    subst e
    exact I1.fpOk (Nat.le_refl _) (I1.hok.fresh (Nat.le_refl _))
  rcases q with ⟨⟨xs, hq⟩, q⟩ | ⟨⟨xs, hq⟩, q⟩
  · obtain ⟨its, rv, p, hz⟩ := I1.list hq
    refine wpAny_pyIter_list p.isList ?_
    exact ⟨s1.heap.objs.size, [s1.heap.objs.size], _, _, H1, rfl, I1.kept (t' := s1.toks) fun b o e => Heap.get?_push_of_some _ e, turn_list a _, ⟨_, Heap.get?_push_size _ rfl, rfl, rfl⟩, fp, q⟩
  · obtain ⟨its, rv, p, hz⟩ := I1.tuple hq
    refine wpAny_pyIter_tuple (show s1.heap.IsTuple a its.toArray from p) ?_
    exact ⟨s1.heap.objs.size, [s1.heap.objs.size], _, _, H1, rfl, I1.kept (t' := s1.toks) fun b o e => Heap.get?_push_of_some _ e, turn_tuple a _, ⟨_, Heap.get?_push_size _ rfl, rfl, rfl⟩, fp, q⟩
/-- the items of a list, of a tuple -/
def iOf (m : SemE) : SemI := fun e => (m e).bind fun r e1 => match esc r e1 with
  | some (.list ts, e2) => .ok ts e2
  | some (.tuple ts, e2) => .ok ts e2
  | _ => .bad
theorem qiof {X : Cx} {tg a : Expr} {ma : SemE} (ha : QE X W a ma) : QI X W tg a (iOf ma) := by
  refine pi_mono (pi_seq ha) fun σ H Q h => ?_
  obtain ⟨e, F, R, h⟩ := h
  refine tX_imp (tX_bind (rel := fun σ => OdR X.K σ) R .refl h) fun x H1 ⟨r, e1, F1, R1, S1, O, h2⟩ => ?_
  cases q : esc r e1 with
  | none => simp only [q] at h2; exact h2.elim
  | some te =>
    obtain ⟨t, e2⟩ := te
    obtain ⟨F2, R2, S2, d, _⟩ := esc_ok R R1 S1 O q
    cases t with
    | list ts =>
      simp only [q] at h2
      cases d with
      | lst hs dd => exact ⟨_, rfl, .inl ⟨⟨_, sqL_mono R2.sub hs⟩, h2 _ F2 H1 R2 S2 (wk_list hs dd)⟩⟩
    | tuple ts =>
      simp only [q] at h2
      cases d with
      | tup hs dd => exact ⟨_, rfl, .inr ⟨⟨_, tupS R2.sub hs⟩, h2 _ F2 H1 R2 S2 (wk_tup (SqT.of hs) dd)⟩⟩
    | none => simp only [q] at h2; exact h2.elim
    | bool _ => simp only [q] at h2; exact h2.elim
    | str _ => simp only [q] at h2; exact h2.elim
    | int _ => simp only [q] at h2; exact h2.elim
    | dict _ => simp only [q] at h2; exact h2.elim
/-- lo, lo + 1, .. -/
def intsT (lo : Int) (n : Nat) : List T := (List.range n).map fun (k : Nat) => .int (lo + (k : Int))
theorem wk_range {F : Hp} {lo : Int} {n : Nat} : Wk K F (Itr lo n) (intsT lo n) := by
  intro i F' H ff fh
  refine ⟨fun t ht => ?_, fun hi => (show n ≤ i by simpa [intsT] using hi)⟩
  have hi : i < n := by have := (List.getElem?_eq_some_iff.mp ht).1; simpa [intsT] using this
  refine ⟨hi, fun x H' ⟨eH, ex⟩ => .inl ⟨eH, ?_⟩⟩
  subst ex
  simp [intsT, hi] at ht
  subst ht
  exact .int _
def iR1 (m : SemA) : SemI := fun e => (m e).bind fun rs e1 => match vals e1 rs with
  | some [.int j] => if -(2 ^ 62) ≤ j ∧ j < 2 ^ 62 then .ok (intsT 0 j.toNat) e1 else .bad
  | _ => .bad
def iR2 (m : SemA) : SemI := fun e => (m e).bind fun rs e1 => match vals e1 rs with
  | some [.int i, .int j] => if -(2 ^ 62) ≤ i ∧ i < 2 ^ 62 ∧ -(2 ^ 62) ≤ j ∧ j < 2 ^ 62 then .ok (intsT i (j - i).toNat) e1 else .bad
  | _ => .bad
theorem qir1 {X : Cx} {tg a : Expr} {m : SemA} {p pos : Pos} (hg : Gl X "range") (hm : X.mg "range" = none) (ha : QA X W [a] m) (hs : starEach [a] X.env = [(false, eval a X.env)] := by rfl) : QI X W tg (.Call (.Name "range" p) [a] [] pos) (iR1 m) := by
  refine pi_mono (pi_range1 hg hm ha hs) fun σ H Q h => ?_
  obtain ⟨e, F, R, h⟩ := h
  refine tX_imp (tX_bind (rel := fun σ Hs F H xs rs => OdsR X.K σ Hs F H rs xs) R .refl h) fun xs H1 ⟨rs, e1, F1, R1, S1, O, h2⟩ => ?_
  split at h2
  · rename_i j q
    have d := vals_ok R1 O q
    split at h2
    · rename_i hl
      cases d with
      | cons a d => cases d; cases a; exact ⟨j, rfl, hl.1, hl.2, h2 _ F1 H1 R1 S1 wk_range⟩
    · exact h2.elim
  · exact h2.elim
/-- pairs -/
def pairs (ts us : List T) : List T := (ts.zip us).map fun p => .tuple [p.1, p.2]
def iZip (m : SemA) : SemI := fun e => (m e).bind fun rs e1 => match escs rs e1 with
  | some ([.list ts, .list us], e2) => .ok (pairs ts us) e2
  | _ => .bad
/-- numbered -/
def enumT (ts : List T) : List T := ts.zipIdx.map fun p => .tuple [.int (p.2 : Nat), p.1]
def iEnu (m : SemA) : SemI := fun e => (m e).bind fun rs e1 => match escs rs e1 with
  | some ([.list ts], e2) => .ok (enumT ts) e2
  | _ => .bad
/-! ### for -/
def forS (g : SemG) (b : SemS) : List T → SemS
  | [], e => .ok .nx e
  | t :: ts, e => match g t e with
    | some e1 => (match b e1 with
      | .ok .nx e2 => forS g b ts e2
      | .ok .ct e2 => forS g b ts e2
      | .ok .bk e2 => .ok .nx e2
      | .ok (.rt r) e2 => .ok (.rt r) e2
      | .exc c t e2 => .exc c t e2
      | .bad => .bad)
    | none => .bad
def sFor (mi : SemI) (g : SemG) (b : SemS) : SemS := fun e => (mi e).bind fun ts e1 => forS g b ts e1
theorem qss_any {X : Cx} {st : List Stmt} {m : SemS} (h : ∀ B, QSs X W B st m) : PSs X st (fun D σ H => ∃ B, tS X.K W B m D σ H) := ⟨fun pins s σ H D I ⟨B, q⟩ => (h B).run pins s σ H D I q⟩
theorem qg_any {X : Cx} {ws : List Nat} {tg : Expr} {g : SemG} (h : ∀ B, QG X B ws tg g) : PG X tg (fun x σ H Q => ∃ B, tG X.K B ws g x σ H Q) := ⟨fun pins s σ H v u Q I r ⟨B, q⟩ => (h B).run pins s σ H v u Q I r q⟩
def LoopN (K : PySem.W.Frag) (W : WX) (B : Bd) (F1 : Hp) (g : SemG) (b : SemS) (D : Ends) (ts : List T) (σ : Sg) (H : Hp) : Prop :=
  ∃ e F, Rel K e σ F H ∧ BOk { B with F := F1 } e σ F H ∧ OutS K W B (forS g b ts e) D
theorem qfor {X : Cx} {ws : List Nat} {tg it : Expr} {body : List Stmt} {mi : SemI} {g : SemG} {b : SemS} {pos : Pos} (hp : PassesOwn (model X.prog X.w) X.A X.env X.xe) (hc : X.calm = true) (hi : QI X W tg it mi) (hg : ∀ B, QG X B ws tg g) (hb : ∀ B, QSs X W B body b)
    (hs : ∀ x, foldedSetIterable it X.env x = pure x := by intro _; rfl) : QS X W B (.For tg it body [] pos) (sFor mi g b) := by
  refine ps_mono (ps_for hp hc hi (qg_any hg) (qss_any hb) hs) fun D σ H h => ?_
  obtain ⟨e, F, R, k, h⟩ := h
  refine tX_imp (tS_bind (rel := fun _ _ F _ J ts => Wk X.K F J ts) R k h) fun J H1 ⟨ts, e1, F1, R1, S1, k1, wk, h1⟩ => ?_
  refine ⟨fun i m σ' H' => m = ts.length - i ∧ i ≤ ts.length ∧ LoopN X.K W B F1 g b D (ts.drop i) σ' H', ⟨_, rfl, Nat.zero_le _, e1, F1, R1, k1.up, h1⟩, ?_⟩
  rintro i m σ' H' ⟨rfl, hi, e2, F2, R2, k2, h2⟩
  obtain ⟨go, stop⟩ := wk i F2 H' k2.ff R2.sub
  by_cases hlt : i < ts.length
  · have ht : ts[i]? = some ts[i] := List.getElem?_eq_getElem hlt
    rw [List.drop_eq_getElem_cons hlt] at h2
    obtain ⟨g1, y1⟩ := go _ ht
    refine .inr ⟨g1, LoopN X.K W B F1 g b D (ts.drop (i + 1)), fun σ3 H3 n => ⟨_, (by omega : ts.length - (i + 1) < ts.length - i), rfl, hlt, n⟩, fun x H3 y => ?_⟩
    simp only [forS] at h2
    cases q : g ts[i] e2 with
    | none => simp only [q] at h2; exact h2.elim
    | some e3 =>
      simp only [q] at h2
      have next : ∀ (F3 : Hp) (σ4 : Sg) (H4 : Hp), Rel X.K e3 σ4 F3 H4 → BOk { B with F := F1 } e3 σ4 F3 H4 → ∃ B', tS X.K W B' b { D with nx := LoopN X.K W B F1 g b D (ts.drop (i + 1)), ct := LoopN X.K W B F1 g b D (ts.drop (i + 1)), bk := D.nx } σ4 H4 := fun F3 σ4 H4 R4 k4 => by
        refine ⟨{ B with F := F1 }, e3, F3, R4, k4, ?_⟩
        cases w : b e3 with
        | bad => rw [w] at h2; exact h2
        | exc c t e5 => rw [w] at h2; exact fun σ5 F5 H5 cls d R5 k5 => h2 σ5 F5 H5 cls d R5 (k1.down k5)
        | ok f e5 =>
          rw [w] at h2
          cases f with
          | nx => exact fun σ5 F5 H5 R5 k5 => ⟨e5, F5, R5, k5, h2⟩
          | ct => exact fun σ5 F5 H5 R5 k5 => ⟨e5, F5, R5, k5, h2⟩
          | bk => exact fun σ5 F5 H5 R5 k5 => h2 σ5 F5 H5 R5 (k1.down k5)
          | rt r => exact fun x σ5 F5 H5 R5 k5 o => h2 x σ5 F5 H5 R5 (k1.down k5) o
      rcases y1 x H3 y with ⟨eH, d⟩ | ⟨p, vs, ws, ex, hp, eH, et, d⟩
      · subst eH
        exact ⟨_, e2, F2, _, e3, R2, k2, d, q, fun σ4 R4 k4 _ => next F2 σ4 _ R4 k4⟩
      · subst eH ex
        have R3 := laid_frz (o := .tup vs) R2 hp
        have S3 := laid_frz_step (o := .tup vs) R2 .refl hp
        have dd : Dp X.K (upd F2 p (.tup vs)) (.ref p) ts[i] := by
          rw [et]
          exact .tup upd_same (dpAll_mono (fun a o h => by rw [upd_ne (ne_of_none h (sub_none R2 hp))]; exact h) d)
        exact ⟨_, e2, _, _, e3, R3, k2.step S3, dd, q, fun σ4 R4 k4 _ => next _ σ4 _ R4 k4⟩
  · have he : i = ts.length := by omega
    subst he
    rw [List.drop_length] at h2
    exact .inl ⟨stop (Nat.le_refl _), h2 _ F2 H' R2 (k1.down k2)⟩
/-! ### while -/
end
end Ev

set_option Elab.async false
set_option linter.all false
set_option maxRecDepth 100000
namespace Ev
open PySem PySem.Spec PyProof.Rows L2
def GOk (ws : List Nat) (g : SemG) : Prop := ∀ t e e', g t e = some e' → e'.length = e.length ∧ ∀ j, e'[j]? = e[j]? ∨ (j ∈ ws ∧ ∃ t, e'[j]? = some (.v t))
def GsOk (ws : List Nat) (g : SemGs) : Prop := ∀ t e e', g t e = some e' → e'.length = e.length ∧ ∀ j, e'[j]? = e[j]? ∨ (j ∈ ws ∧ ∃ t, e'[j]? = some (.v t))
theorem gok_n {ws : List Nat} {i : Nat} (h : i ∈ ws) : GOk ws (gN i) := fun t e e' hg => by
  simp only [gN] at hg
  split at hg
  · cases hg
  · cases hg
    refine ⟨by simp, fun j => ?_⟩
    by_cases q : i = j
    · subst q
      by_cases hi : i < e.length
      · exact .inr ⟨h, t, List.getElem?_set_self hi⟩
      · left; rw [List.getElem?_eq_none (by simpa using hi), List.getElem?_eq_none (by simpa using hi)]
    · exact .inl (List.getElem?_set_ne q)
theorem gsok_nil {ws : List Nat} : GsOk ws gsNil := fun t e e' hg => by
  cases t with
  | nil => cases hg; exact ⟨rfl, fun j => .inl rfl⟩
  | cons _ _ => cases hg
theorem gsok_cons {ws : List Nat} {g : SemG} {gs : SemGs} (h1 : GOk ws g) (h2 : GsOk ws gs) : GsOk ws (gsCons g gs) := fun t e e' hg => by
  cases t with
  | nil => cases hg
  | cons t ts =>
    simp only [gsCons] at hg
    cases q : g t e with
    | none => rw [q] at hg; cases hg
    | some e1 =>
      rw [q] at hg
      obtain ⟨l1, a1⟩ := h1 t e e1 q
      obtain ⟨l2, a2⟩ := h2 ts e1 e' hg
      refine ⟨l2.trans l1, fun j => ?_⟩
      rcases a2 j with z | z
      · rcases a1 j with w | ⟨w, t', w2⟩
        · exact .inl (z.trans w)
        · exact .inr ⟨w, t', z.trans w2⟩
      · exact .inr z
theorem gok_t {ws : List Nat} {n : Nat} {gs : SemGs} (h : GsOk ws gs) : GOk ws (gT n gs) := fun t e e' hg => by
  cases t with
  | tuple ts =>
    simp only [gT] at hg
    split at hg
    · exact h ts e e' hg
    · cases hg
  | _ => cases hg
def wipeE (e : En) : List Nat → En
  | [] => e
  | v :: vs => (wipeE e vs).set v .un
theorem wipeE_len (e : En) : ∀ vs, (wipeE e vs).length = e.length
  | [] => rfl
  | v :: vs => by unfold wipeE; rw [List.length_set, wipeE_len e vs]
theorem wipeE_out {e : En} {j : Nat} : ∀ {vs : List Nat}, j ∉ vs → (wipeE e vs)[j]? = e[j]?
  | [], _ => rfl
  | v :: vs, h => by
    unfold wipeE
    rw [List.getElem?_set_ne (fun z => h (by rw [← z]; exact List.mem_cons_self)), wipeE_out fun z => h (List.mem_cons_of_mem _ z)]
theorem wipeE_in {e : En} {j : Nat} {s : Sl} : ∀ {vs : List Nat}, j ∈ vs → (wipeE e vs)[j]? = some s → s = .un
  | [], h, _ => by cases h
  | v :: vs, h, q => by
    unfold wipeE at q
    by_cases hv : v = j
    · subst hv
      have hl : v < (wipeE e vs).length := by have := (List.getElem?_eq_some_iff.mp q).1; simpa using this
      rw [List.getElem?_set_self hl] at q; cases q; rfl
    · rw [List.getElem?_set_ne hv] at q
      exact wipeE_in ((List.mem_cons.mp h).resolve_left fun z => hv z.symm) q
theorem wipe_out {σ : Sg} {j : Nat} : ∀ {vs : List Nat}, j ∉ vs → (wipe σ vs)[j]? = σ[j]?
  | [], _ => rfl
  | v :: vs, h => by
    unfold wipe
    rw [List.getElem?_set_ne (fun z => h (by rw [← z]; exact List.mem_cons_self)), wipe_out fun z => h (List.mem_cons_of_mem _ z)]
theorem wipe_in {σ : Sg} {j : Nat} {o : Option V} : ∀ {vs : List Nat}, j ∈ vs → (wipe σ vs)[j]? = some o → o = none
  | [], h, _ => by cases h
  | v :: vs, h, q => by
    unfold wipe at q
    by_cases hv : v = j
    · subst hv
      have hl : v < (wipe σ vs).length := by have := (List.getElem?_eq_some_iff.mp q).1; simpa using this
      rw [List.getElem?_set_self hl] at q; cases q; rfl
    · rw [List.getElem?_set_ne hv] at q
      exact wipe_in ((List.mem_cons.mp h).resolve_left fun z => hv z.symm) q
theorem wipe_agree {σ σ2 : Sg} {vs : List Nat} (a : Agree vs (wipe σ vs) σ2) : wipe σ2 vs = wipe σ vs := by
  have l1 : σ2.length = σ.length := a.1.trans (wipe_length σ vs)
  refine List.ext_getElem? fun j => ?_
  by_cases h : j ∈ vs
  · by_cases hj : j < σ.length
    · have h1 : j < (wipe σ2 vs).length := by rw [wipe_length, l1]; exact hj
      have h2 : j < (wipe σ vs).length := by rw [wipe_length]; exact hj
      have q1 := wipe_in h (List.getElem?_eq_getElem h1)
      have q2 := wipe_in h (List.getElem?_eq_getElem h2)
      rw [List.getElem?_eq_getElem h1, List.getElem?_eq_getElem h2, q1, q2]
    · rw [List.getElem?_eq_none (by rw [wipe_length, l1]; omega), List.getElem?_eq_none (by rw [wipe_length]; omega)]
  · rw [wipe_out h, a.2 j h]
def restE (e e2 : En) : List Nat → En
  | [] => e2
  | v :: vs => (restE e e2 vs).set v ((e[v]?).getD .un)
theorem restE_len (e e2 : En) : ∀ vs, (restE e e2 vs).length = e2.length
  | [] => rfl
  | v :: vs => by unfold restE; rw [List.length_set, restE_len e e2 vs]
theorem restE_out {e e2 : En} {j : Nat} : ∀ {vs : List Nat}, j ∉ vs → (restE e e2 vs)[j]? = e2[j]?
  | [], _ => rfl
  | v :: vs, h => by
    unfold restE
    rw [List.getElem?_set_ne (fun z => h (by rw [← z]; exact List.mem_cons_self)), restE_out fun z => h (List.mem_cons_of_mem _ z)]
theorem restE_in {e e2 : En} {j : Nat} (hl : e2.length = e.length) : ∀ {vs : List Nat}, j ∈ vs → (restE e e2 vs)[j]? = e[j]?
  | [], h => by cases h
  | v :: vs, h => by
    unfold restE
    by_cases hv : v = j
    · subst hv
      by_cases hj : v < e.length
      · rw [List.getElem?_set_self (by rw [restE_len, hl]; exact hj), List.getElem?_eq_getElem hj]; rfl
      · rw [List.getElem?_eq_none (by rw [List.length_set, restE_len, hl]; omega), List.getElem?_eq_none (by omega)]
    · rw [List.getElem?_set_ne hv]
      exact restE_in hl ((List.mem_cons.mp h).resolve_left fun z => hv z.symm)
section
variable {K : PySem.W.Frag} {W : WX} {B : Bd} {e e1 e2 : En} {σ σ1 : Sg} {F H F1 H1 F2 H2 : Hp}
theorem wipe_rel {vs : List Nat} (R : Rel K e σ F H) : Rel K (wipeE e vs) (wipe σ vs) F H := by
  have get : ∀ (j : Nat) (s : Sl), (wipeE e vs)[j]? = some s → s = .un ∨ (j ∉ vs ∧ e[j]? = some s) := fun j s h => by
    by_cases q : j ∈ vs
    · exact .inl (wipeE_in q h)
    · rw [wipeE_out q] at h; exact .inr ⟨q, h⟩
  refine ⟨R.sub, by rw [wipeE_len, wipe_length]; exact R.len, fun j s o h1 h2 => ?_, fun j j' l b l' b' p h1 h2 h3 h4 => ?_⟩
  · rcases get j s h1 with rfl | ⟨q, h⟩
    · trivial
    · rw [wipe_out q] at h2; exact R.at_ j s o h h2
  · rcases get j _ h1 with z | ⟨q, g1⟩
    · cases z
    · rcases get j' _ h2 with z | ⟨q', g2⟩
      · cases z
      · rw [wipe_out q] at h3; rw [wipe_out q'] at h4; exact R.ne j j' l b l' b' p g1 g2 h3 h4
theorem upd_at {D : Addr} {o o' : HO} (R : Rel K e σ F H) (hH : H D = some o) (hf : F D = none) (no : ¬ Own e σ D) : Rel K e σ F (upd H D o') := by
  refine ⟨fun a u h => ?_, R.len, fun i s u h1 h2 => ?_, R.ne⟩
  · have ne : a ≠ D := fun z => by subst z; rw [hf] at h; cases h
    rw [upd_ne ne]; exact R.sub _ _ h
  · have z := R.at_ i s u h1 h2
    cases s with
    | un => trivial
    | v t => exact z
    | fz b => exact z
    | ow l b =>
      obtain ⟨p, ep, hf', bx⟩ := z
      have np : p ≠ D := fun w => no ⟨i, l, b, h1, by rw [h2, ep, w]⟩
      exact ⟨p, ep, hf', bx_keep bx (fun _ _ h => h) fun o h => by rw [upd_ne np]; exact h⟩
theorem step_upd {D : Addr} {o' : HO} (S : Step e e1 σ F H F1 H1) (hD : H D = none) : Step e e1 σ F H F1 (upd H1 D o') := by
  have ne : ∀ a u, H a = some u → a ≠ D := fun a u h z => by subst z; rw [hD] at h; cases h
  exact ⟨S.ff, fun a u h n => ⟨by rw [upd_ne (ne a u h)]; exact (S.keep a u h n).1, (S.keep a u h n).2⟩, fun a u h => by rw [upd_ne (ne a u h)]; exact S.dom a u h, S.own, S.lt, S.sk⟩
/-- a bound that says nothing -/
def bd0 (e : En) (σ : Sg) : Bd := ⟨e, σ, fun _ => none, fun _ => none⟩
theorem bok0 {e : En} {σ : Sg} {F H : Hp} : BOk (bd0 e σ) e σ F H :=
  ⟨(fun _ _ h => nomatch h), (fun _ _ h => nomatch h), (fun _ _ h => nomatch h), (fun _ _ _ _ _ => rfl), (fun i b h => ⟨rfl, b, h⟩), (fun i b h => ⟨⟨b, .inl h⟩, rfl⟩)⟩
/-- behind a turn of a comprehension -/
theorem rest_rel {vs : List Nat} {e4 : En} {σ2 : Sg} {F4 H4 : Hp} (R : Rel K e σ F H) (h1 : e1.length = e.length) (a1 : ∀ j, e1[j]? = (wipeE e vs)[j]? ∨ (j ∈ vs ∧ ∃ t, e1[j]? = some (.v t))) (ag : Agree vs (wipe σ vs) σ2)
    (R4 : Rel K e4 σ2 F4 H4) (S : Step e1 e4 σ2 F H F4 H4) : Rel K (restE e e4 vs) σ F4 H4 ∧ Step e (restE e e4 vs) σ F H F4 H4 := by
  have sg : ∀ j, j ∉ vs → σ2[j]? = σ[j]? := fun j h => by rw [ag.2 j h, wipe_out h]
  have l2 : σ2.length = σ.length := ag.1.trans (wipe_length σ vs)
  have l4 : e4.length = e.length := by rw [R4.len, l2, ← R.len]
  have in1 : ∀ (j : Nat) (l : Bool) (b : Bx), e1[j]? = some (.ow l b) → j ∉ vs ∧ e[j]? = some (.ow l b) := fun j l b h => by
    by_cases q : j ∈ vs
    · rcases a1 j with z | ⟨_, t, z⟩
      · rw [h] at z; exact nomatch wipeE_in q z.symm
      · rw [h] at z; cases z
    · rcases a1 j with z | ⟨q', _⟩
      · rw [h, wipeE_out q] at z; exact ⟨q, z.symm⟩
      · exact absurd q' q
  have own1 : ∀ p, Own e1 σ2 p → Own e σ p := fun p ⟨j, l, b, q1, q2⟩ => by
    obtain ⟨n, q⟩ := in1 j l b q1
    exact ⟨j, l, b, q, by rw [← sg j n]; exact q2⟩
  have get : ∀ (j : Nat) (s : Sl), (restE e e4 vs)[j]? = some s → (j ∈ vs ∧ e[j]? = some s) ∨ (j ∉ vs ∧ e4[j]? = some s) := fun j s h => by
    by_cases q : j ∈ vs
    · rw [restE_in l4 q] at h; exact .inl ⟨q, h⟩
    · rw [restE_out q] at h; exact .inr ⟨q, h⟩
  have kind : SameKinds e (restE e e4 vs) := fun j l b h => by
    rcases get j _ h with ⟨_, q⟩ | ⟨n, q⟩
    · exact ⟨b, q⟩
    · obtain ⟨b', q'⟩ := S.sk j l b q
      exact ⟨b', (in1 j l b' q').2⟩
  refine ⟨⟨R4.sub, by rw [restE_len, l4]; exact R.len, fun j s o g1 g2 => ?_, fun j j' l b l' b' p g1 g2 g3 g4 => ?_⟩, ⟨S.ff, fun a o h n => S.keep a o h fun z => n (own1 a z), S.dom, fun p ⟨j, l, b, g1, g2⟩ => ?_, fun j hj => ?_, kind⟩⟩
  · rcases get j s g1 with ⟨q, g⟩ | ⟨q, g⟩
    · have w := R.at_ j s o g g2
      cases s with
      | un => trivial
      | v t => obtain ⟨y, ey, d⟩ := w; exact ⟨y, ey, dp_mono S.ff _ _ d⟩
      | fz b => obtain ⟨y, ey, d⟩ := w; exact ⟨y, ey, dp_mono S.ff _ _ d⟩
      | ow l b =>
        obtain ⟨p, ep, hf, bx⟩ := w
        subst ep
        obtain ⟨u, hu⟩ := bx_some bx
        have na : ¬ Own e1 σ2 p := fun ⟨j', l', b', q1, q2⟩ => by
          obtain ⟨n, q3⟩ := in1 j' l' b' q1
          have := R.ne j' j l' b' l b p q3 g (by rw [← sg j' n]; exact q2) g2
          subst this
          exact n q
        obtain ⟨k1, k2⟩ := S.keep p u hu na
        exact ⟨p, rfl, k2 hf, bx_keep bx S.ff fun o' h' => by rw [hu] at h'; cases h'; exact k1⟩
    · rw [← sg j q] at g2; exact R4.at_ j s o g g2
  · obtain ⟨b1, q1⟩ := kind j l b g1
    obtain ⟨b2, q2⟩ := kind j' l' b' g2
    exact R.ne j j' l b1 l' b2 p q1 q2 g3 g4
  · obtain ⟨b1, q1⟩ := kind j l b g1
    exact ⟨j, l, b1, q1, g2⟩
  · by_cases q : j ∈ vs
    · obtain ⟨b, w⟩ := hj
      exact ⟨b, by rw [restE_in l4 q]; exact w⟩
    · have : Lent e1 j := by
        obtain ⟨b, w⟩ := hj
        rcases a1 j with z | ⟨q', _⟩
        · exact ⟨b, by rw [z, wipeE_out q]; exact w⟩
        · exact absurd q' q
      obtain ⟨b, w⟩ := S.lt j this
      exact ⟨b, by rw [restE_out q]; exact w⟩
end
/-! ### comprehensions -/
/-- nothing raised -/
def Out.nx {α : Type} : Out α → Out α
  | .exc _ _ _ => .bad
  | o => o
def compS (g : SemG) (c : SemT) (m : SemE) (vs : List Nat) : List T → List T → SemE
  | [], acc, e => .ok (.b (.l acc)) e
  | t :: ts, acc, e => match g t (wipeE e vs) with
    | some e1 => (c e1).nx.bind fun k e2 => if k then (m e2).nx.bind fun r e3 => (match esc r e3 with
        | some (u, e4) => if acc.length < sizeLine then compS g c m vs ts (acc ++ [u]) (restE e e4 vs) else .bad
        | none => .bad)
      else compS g c m vs ts acc (restE e e2 vs)
    | none => .bad
def eComp (mi : SemI) (g : SemG) (c : SemT) (m : SemE) (vs : List Nat) : SemE := fun e => (mi e).bind fun ts e1 => compS g c m vs ts [] e1
abbrev W0 : WX := fun _ _ _ _ => False
theorem tX_nx {α β : Type} {K : PySem.W.Frag} {rel : Sg → Hp → Hp → Hp → β → α → Prop} {m : En → Out α} {e1 e2 : En} {r : α} {σ : Sg} {F1 H1 : Hp} {Q : β → Hp → Prop} (R1 : Rel K e1 σ F1 H1) (w : m e1 = .ok r e2)
    (hq : ∀ x F2 H2, Rel K e2 σ F2 H2 → Step e1 e2 σ F1 H1 F2 H2 → rel σ H1 F2 H2 x r → Q x H2) : tX K W0 rel m σ H1 Q := by
  refine ⟨e1, F1, R1, ?_⟩
  rw [w]
  exact fun x F' H' R' S' O => hq x F' H' R' S' O
/-- the reading of a comprehension's walk, from a state on -/
structure CompN (K : PySem.W.Frag) (W : WX) (F1 : Hp) (g : SemG) (c : SemT) (m : SemE) (vs : List Nat) (e0 : En) (F0 H0 : Hp) (σ : Sg) (D : Addr) (Q : VK) (ts : List T) (H : Hp) : Prop where
  ex : ∃ e F acc accV, Rel K e σ F H ∧ Step e0 e σ F0 H0 F H ∧ (∀ a o, F1 a = some o → F a = some o) ∧ F D = none ∧ H D = some (.lst accV) ∧ DpAll K F accV acc ∧ OutX K W (OdR K σ) (compS g c m vs ts acc e) e0 σ F0 H0 Q
theorem comp_read {K : PySem.W.Frag} {W : WX} {mi : SemI} {g : SemG} {c : SemT} {m : SemE} {vs : List Nat} {σ : Sg} {H : Hp} {Q : VK} (hk : GOk vs g) (h : tE K W (eComp mi g c m vs) σ H Q) :
    tLc (tI K W mi) (fun x σ H Q => ∃ B, tG K B vs g x σ H Q) (tT K W0 c) (tE K W0 m) vs σ H Q := by
  obtain ⟨e0, F0, R0, h⟩ := h
  refine tX_imp (tX_bind (rel := fun _ _ F _ J ts => Wk K F J ts) R0 .refl h) fun J H1 ⟨ts, e1, F1, R1, S1, wk, h1⟩ => ?_
  intro D hD
  have hD0 : H D = none := step_none S1 hD
  have hDF : F1 D = none := sub_none R1 hD
  have ff0 : ∀ a o, F1 a = some o → F1 a = some o := fun _ _ h => h
  refine ⟨fun i n H' => n = ts.length - i ∧ i ≤ ts.length ∧ CompN K W F1 g c m vs e0 F0 H σ D Q (ts.drop i) H', ⟨_, rfl, Nat.zero_le _, ⟨e1, F1, [], [], laid_own R1 hD, S1.trans (laid_own_step hD), ff0, hDF, upd_same, .nil, h1⟩⟩, ?_⟩
  rintro i n H' ⟨rfl, hi, ⟨e2, F2, acc, accV, R2, S2, ff2, hf, hH, d, h2⟩⟩
  obtain ⟨go, stop⟩ := wk i F2 H' ff2 R2.sub
  by_cases hlt : i < ts.length
  · have ht : ts[i]? = some ts[i] := List.getElem?_eq_getElem hlt
    rw [List.drop_eq_getElem_cons hlt] at h2
    obtain ⟨g1, y1⟩ := go _ ht
    refine .inr ⟨g1, CompN K W F1 g c m vs e0 F0 H σ D Q (ts.drop (i + 1)), fun H3 n => ⟨_, (by omega : ts.length - (i + 1) < ts.length - i), rfl, hlt, n⟩, fun x H3 y => ?_⟩
    simp only [compS] at h2
    cases q : g ts[i] (wipeE e2 vs) with
    | none => simp only [q] at h2; exact h2.elim
    | some e3 =>
      simp only [q] at h2
      obtain ⟨l3, a3⟩ := hk _ _ _ q
      have l3 : e3.length = e2.length := l3.trans (wipeE_len e2 vs)
      have D0 : ∀ {e F H3}, Step e0 e σ F0 H F H3 → ¬ Own e σ D := fun S => fresh_not_own R0 S hD0
      -- behind the target
      have next : ∀ (F3 : Hp) (H3 : Hp) (σ2 : Sg), Rel K e2 σ F3 H3 → Step e0 e2 σ F0 H F3 H3 → (∀ a o, F1 a = some o → F3 a = some o) → F3 D = none → H3 D = some (.lst accV) → DpAll K F3 accV acc → Rel K e3 σ2 F3 H3 → Agree vs (wipe σ vs) σ2 →
          wipe σ2 vs = wipe σ vs ∧ tT K W0 c σ2 H3 fun b H4 => if b = true then tE K W0 m σ2 H4 fun y H5 => ∃ acc, H5 D = some (.lst acc) ∧ acc.length < sizeLine ∧ CompN K W F1 g c m vs e0 F0 H σ D Q (ts.drop (i + 1)) (upd H5 D (.lst (acc ++ [y]))) else CompN K W F1 g c m vs e0 F0 H σ D Q (ts.drop (i + 1)) H4 := by
        intro F3 H3 σ2 R3 S3 ff3 hf3 hH3 d3 RB ag
        refine ⟨wipe_agree ag, ?_⟩
        have noD : ¬ Own e3 σ2 D := fun ⟨j, l, b, q1, q2⟩ => by
          have n : j ∉ vs ∧ e2[j]? = some (.ow l b) := by
            by_cases qv : j ∈ vs
            · rcases a3 j with z | ⟨_, t, z⟩
              · rw [q1] at z; exact absurd (wipeE_in qv z.symm) (by intro w; cases w)
              · rw [q1] at z; cases z
            · rcases a3 j with z | ⟨q', _⟩
              · rw [q1, wipeE_out qv] at z; exact ⟨qv, z.symm⟩
              · exact absurd q' qv
          exact D0 S3 ⟨j, l, b, n.2, by rw [← wipe_out n.1, ← ag.2 j n.1]; exact q2⟩
        cases wc : c e3 with
        | bad => rw [wc] at h2; exact h2.elim
        | exc _ _ _ => rw [wc] at h2; exact h2.elim
        | ok k e4 =>
        rw [wc] at h2
        have h4 : OutX K W (OdR K σ) (if k = true then (m e4).nx.bind fun r e5 => (match esc r e5 with
            | some (u, e6) => if acc.length < sizeLine then compS g c m vs (ts.drop (i + 1)) (acc ++ [u]) (restE e2 e6 vs) else .bad
            | none => .bad) else compS g c m vs (ts.drop (i + 1)) acc (restE e2 e4 vs)) e0 σ F0 H Q := h2
        refine tX_nx RB wc fun b F4 H4 R4 S4 eb => ?_
        subst eb
        obtain ⟨hD4, fD4⟩ := S4.keep D _ hH3 noD
        have fD4 := fD4 hf3
        cases b with
        | false =>
          obtain ⟨R', S'⟩ := rest_rel R3 l3 a3 ag R4 S4
          exact ⟨restE e2 e4 vs, F4, acc, accV, R', S3.trans S', fun a o h => S4.ff _ _ (ff3 _ _ h), fD4, hD4, dpAll_mono S4.ff d3, h4⟩
        | true =>
          simp only [if_true] at h4
          rw [if_pos rfl]
          cases wm : m e4 with
          | bad => rw [wm] at h4; exact h4.elim
          | exc _ _ _ => rw [wm] at h4; exact h4.elim
          | ok r e5 =>
          rw [wm] at h4
          have h5 : OutX K W (OdR K σ) (match esc r e5 with
            | some (u, e6) => if acc.length < sizeLine then compS g c m vs (ts.drop (i + 1)) (acc ++ [u]) (restE e2 e6 vs) else .bad
            | none => .bad) e0 σ F0 H Q := h4
          refine tX_nx R4 wm fun y F5 H5 R5 S5 O5 => ?_
          obtain ⟨hD5, fD5⟩ := S5.keep D _ hD4 (fun z => noD (S4.own _ z))
          have fD5 := fD5 fD4
          cases w : esc r e5 with
          | none => simp only [w] at h5; exact h5.elim
          | some te =>
            obtain ⟨u, e6⟩ := te
            simp only [w] at h5
            obtain ⟨F6, R6, S6, d6, _, only⟩ := esc_ok R4 R5 S5 O5 w
            by_cases hl : acc.length < sizeLine
            · rw [if_pos hl] at h5
              obtain ⟨R', S'⟩ := rest_rel R3 l3 a3 ag R6 (S4.trans S6)
              have dd : DpAll K F6 (accV ++ [y]) (acc ++ [u]) := dpAll_app (dpAll_mono (fun a o h => S6.ff _ _ (S4.ff _ _ h)) d3) (.cons d6 .nil)
              have fD6 : F6 D = none := (S6.keep D _ hD4 (fun z => noD (S4.own _ z))).2 fD4
              refine ⟨accV, hD5, by rw [dpAll_len d3]; exact hl, ⟨restE e2 e6 vs, F6, acc ++ [u], accV ++ [y], upd_at R' hD5 fD6 (D0 (S3.trans S')), ?_, fun a o h => S6.ff _ _ (S4.ff _ _ (ff3 _ _ h)), fD6, upd_same, dd, h5⟩⟩
              exact step_upd (S3.trans S') hD0
            · rw [if_neg hl] at h5; exact h5.elim
      have Rw := wipe_rel (vs := vs) R2
      rcases y1 x H3 y with ⟨eH, dx⟩ | ⟨p, xs, ws, ex, hp, eH, et, dx⟩
      · subst eH
        exact ⟨bd0 _ _, wipeE e2 vs, F2, _, e3, Rw, bok0, dx, q, fun σ2 R' _ ag => next F2 _ σ2 R2 S2 ff2 hf hH d R' ag⟩
      · subst eH ex
        have ff3 : ∀ a o, F2 a = some o → upd F2 p (.tup xs) a = some o := fun a o h => by rw [upd_ne (ne_of_none h (sub_none R2 hp))]; exact h
        have nD : D ≠ p := ne_of_none hH hp
        have R3 := laid_frz (o := .tup xs) R2 hp
        have S3 := laid_frz_step (o := .tup xs) R2 S2 hp
        have dd : Dp K (upd F2 p (.tup xs)) (.ref p) ts[i] := by
          rw [et]
          exact .tup upd_same (dpAll_mono ff3 dx)
        exact ⟨bd0 _ _, wipeE e2 vs, _, _, e3, wipe_rel R3, bok0, dd, q, fun σ2 R' _ ag => next _ _ σ2 R3 S3 (fun a o h => ff3 _ _ (ff2 _ _ h)) (by rw [upd_ne nD]; exact hf) (by rw [upd_ne nD]; exact hH) (dpAll_mono ff3 d) R' ag⟩
  · have he : i = ts.length := by omega
    subst he
    rw [List.drop_length] at h2
    exact .inl ⟨stop (Nat.le_refl _), h2 _ F2 H' R2 S2 ⟨D, rfl, hD0, hf, accV, hH, d⟩⟩
end Ev

set_option Elab.async false
set_option linter.all false
set_option maxRecDepth 100000
namespace Ev
open PySem PySem.Spec PyProof.Rows L2
section
variable {X : Cx} {W : WX} {a b c : Expr} {ma mb mc : SemE} {pos : Pos}
abbrev tTrue : SemT := fun e => .ok true e
abbrev QTs (X : Cx) (W : WX) (ex : List Expr) (m : SemT) : Prop := PTs X ex (tT X.K W m)
theorem qtsnil : QTs X W [] tTrue := ⟨fun pins s σ H Q I ⟨e, F, R, h⟩ => pts_nil.run pins s σ H Q I (h true F H R .refl rfl)⟩
theorem qcomp {elt tg iter : Expr} {ifs : List Expr} {scope : Scope} {own : List (Str × Nat)} {vs : List Nat} {mi : SemI} {g : SemG} {t : SemT} {m : SemE} (hc : X.calm = true) (hN : X.N.Nodup) (hi : QI X W tg iter mi) (ok : BlkOk X.N X.env.scope scope own) (hk : GOk vs g) (hvs : own.map (·.2) = vs)
    (hg : ∀ (s : Shared) (H : Hp) (C : Addr) (cl : List (Str × Addr)) (fp : List Addr) (B : Bd), QG (X.blk s H scope (compEnvC scope cl C X.env) fp) B vs tg g) (ht : ∀ (s : Shared) (H : Hp) (C : Addr) (cl : List (Str × Addr)) (fp : List Addr), QTs (X.blk s H scope (compEnvC scope cl C X.env) fp) W0 ifs t)
    (he : ∀ (s : Shared) (H : Hp) (C : Addr) (cl : List (Str × Addr)) (fp : List Addr), QE (X.blk s H scope (compEnvC scope cl C X.env) fp) W0 elt m) (hs : ∀ x, foldedSetIterable iter X.env x = pure x := by intro _; rfl) :
    QE X W (.ListComp elt [⟨tg, iter, ifs, 0⟩] scope pos) (eComp mi g t m vs) := by
  subst hvs
  exact pe_mono (pe_lc hc hN hi ok (fun s H C cl fp => qg_any (hg s H C cl fp)) ht he hs) fun σ H Q h => comp_read hk h
theorem qsetcomp {B : Bd} {i : Nat} {y : Str} {py : Pos} {elt tg iter : Expr} {ifs : List Expr} {scope : Scope} {own : List (Str × Nat)} {spos : Pos} {vs : List Nat} {mi : SemI} {g : SemG} {t : SemT} {m : SemE} (hc : X.calm = true) (hN : X.N.Nodup) (hy : X.N[i]? = some y) (hyl : X.env.scope.names.lookup y = some .local)
    (hsw : swapsWith (.ListComp elt [⟨tg, iter, ifs, 0⟩] scope pos) (some (.Name y py)) spos.line X.env = pure true) (hi : QI X W tg iter mi) (ok : BlkOk X.N X.env.scope scope own) (hk : GOk vs g) (hvs : own.map (·.2) = vs)
    (hg : ∀ (s : Shared) (H : Hp) (C : Addr) (cl : List (Str × Addr)) (fp : List Addr) (B : Bd), QG (X.blk s H scope (compEnvC scope cl C X.env) fp) B vs tg g) (ht : ∀ (s : Shared) (H : Hp) (C : Addr) (cl : List (Str × Addr)) (fp : List Addr), QTs (X.blk s H scope (compEnvC scope cl C X.env) fp) W0 ifs t)
    (he : ∀ (s : Shared) (H : Hp) (C : Addr) (cl : List (Str × Addr)) (fp : List Addr), QE (X.blk s H scope (compEnvC scope cl C X.env) fp) W0 elt m) (hs : ∀ x, foldedSetIterable iter X.env x = pure x := by intro _; rfl) :
    QS X W B (.Assign [.Name y py] (.ListComp elt [⟨tg, iter, ifs, 0⟩] scope pos) spos) (sSet i (eComp mi g t m vs)) := by
  subst hvs
  exact ps_mono (ps_setLc hc hN hy hyl hsw hi ok (fun s H C cl fp => qg_any (hg s H C cl fp)) ht he hs) fun D σ H h => comp_read hk (asg_read h)
end
/-! ### a def -/
def okArg : Sl → Bool
  | .v _ => true
  | .ow true _ => true
  | _ => false
def finE : List Sl → En → List Sl
  | .ow true z :: ss, s' :: es => s' :: finE ss es
  | s :: ss, _ :: es => s :: finE ss es
  | ss, [] => ss
  | [], _ => []
def runFn (n : Nat) (b : SemS) : FSem := fun ss => if ss.all okArg then (match b (ss ++ List.replicate (n - ss.length) .un) with
  | .ok .nx e' => .ok (.r .none) (finE ss e')
  | .ok (.rt r) e' => .ok r (finE ss e')
  | .exc c t e' => .exc c t (finE ss e')
  | _ => .bad) else .bad
theorem finE_len : ∀ (ss : List Sl) (es : En), (finE ss es).length = ss.length
  | [], [] => rfl
  | [], _ :: _ => rfl
  | .un :: ss, [] => rfl
  | .v _ :: ss, [] => rfl
  | .fz _ :: ss, [] => rfl
  | .ow true _ :: ss, [] => rfl
  | .ow false _ :: ss, [] => rfl
  | .un :: ss, _ :: es => by simp [finE, finE_len ss es]
  | .v _ :: ss, _ :: es => by simp [finE, finE_len ss es]
  | .fz _ :: ss, _ :: es => by simp [finE, finE_len ss es]
  | .ow true _ :: ss, _ :: es => by simp [finE, finE_len ss es]
  | .ow false _ :: ss, _ :: es => by simp [finE, finE_len ss es]
theorem finE_get : ∀ {ss : List Sl} {es : En} {j : Nat} {s : Sl}, ss[j]? = some s → ((∃ z, s = .ow true z) → j < es.length) → (∃ z, s = .ow true z ∧ (finE ss es)[j]? = es[j]?) ∨ ((∀ z, s ≠ .ow true z) ∧ (finE ss es)[j]? = some s)
  | [], _, _, _, h, _ => by simp at h
  | s0 :: ss, [], j, s, h, hl => by
    have e : finE (s0 :: ss) [] = s0 :: ss := by
      cases s0 with
      | ow l z => cases l <;> rfl
      | un => rfl
      | v _ => rfl
      | fz _ => rfl
    refine .inr ⟨fun z ez => ?_, by rw [e]; exact h⟩
    have := hl ⟨z, ez⟩
    simp at this
  | s :: ss, s' :: es, 0, _, h, _ => by
    simp at h; subst h
    cases s with
    | ow l z => cases l with
      | true => exact .inl ⟨z, rfl, rfl⟩
      | false => exact .inr ⟨fun z h => (by cases h), rfl⟩
    | un => exact .inr ⟨fun z h => (by cases h), rfl⟩
    | v _ => exact .inr ⟨fun z h => (by cases h), rfl⟩
    | fz _ => exact .inr ⟨fun z h => (by cases h), rfl⟩
  | s :: ss, s' :: es, j + 1, _, h, hl => by
    have ih := finE_get (ss := ss) (es := es) (j := j) (by simpa using h) (fun q => by have := hl q; simpa using this)
    have e : (finE (s :: ss) (s' :: es))[j + 1]? = (finE ss es)[j]? := by
      cases s with
      | ow l z => cases l <;> simp [finE]
      | un => simp [finE]
      | v _ => simp [finE]
      | fz _ => simp [finE]
    rw [e]
    simpa using ih
section
variable {K : PySem.W.Frag} {F H : Hp}
theorem start_rel {N : List Str} {vs : List V} {ss : List Sl} (R : Rel K ss (vs.map some) F H) : Rel K (ss ++ List.replicate (N.length - ss.length) .un) (start N vs) F H := by
  have hl : ss.length = vs.length := by have := R.len; simpa using this
  have get : ∀ (j : Nat) (s : Sl), (ss ++ List.replicate (N.length - ss.length) Sl.un)[j]? = some s → (j < ss.length ∧ ss[j]? = some s) ∨ s = .un := fun j s h => by
    by_cases q : j < ss.length
    · rw [List.getElem?_append_left q] at h; exact .inl ⟨q, h⟩
    · rw [List.getElem?_append_right (by omega)] at h
      have := List.mem_of_getElem? h
      exact .inr (List.eq_of_mem_replicate this)
  have sg : ∀ j, j < ss.length → (start N vs)[j]? = (vs.map some)[j]? := fun j h => by
    unfold L2.start
    rw [List.getElem?_append_left (by simp; omega)]
  refine ⟨R.sub, by unfold L2.start; simp [hl], fun j s o h1 h2 => ?_, fun j j' l b l' b' p h1 h2 h3 h4 => ?_⟩
  · rcases get j s h1 with ⟨q, h⟩ | rfl
    · rw [sg j q] at h2; exact R.at_ j s o h h2
    · trivial
  · rcases get j _ h1 with ⟨q, g1⟩ | z
    · rcases get j' _ h2 with ⟨q', g2⟩ | z
      · rw [sg j q] at h3; rw [sg j' q'] at h4; exact R.ne j j' l b l' b' p g1 g2 h3 h4
      · cases z
    · cases z
theorem fin_rel {N : List Str} {vs : List V} {ss : List Sl} {e' : En} {σ' : Sg} {F' H' : Hp} (R : Rel K ss (vs.map some) F H) (R' : Rel K e' σ' F' H') (k : BOk ⟨ss ++ List.replicate (N.length - ss.length) .un, start N vs, F, H⟩ e' σ' F' H')
    (ha : ss.all okArg = true) : Rel K (finE ss e') (vs.map some) F' H' ∧ Step ss (finE ss e') (vs.map some) F H F' H' := by
  have hl : ss.length = vs.length := by have := R.len; simpa using this
  have sg : ∀ j, j < ss.length → (start N vs)[j]? = (vs.map some)[j]? := fun j h => by
    unfold L2.start
    rw [List.getElem?_append_left (by simp; omega)]
  have e0 : ∀ j, j < ss.length → (ss ++ List.replicate (N.length - ss.length) Sl.un)[j]? = ss[j]? := fun j h => List.getElem?_append_left h
  have lentLt : ∀ (j : Nat) (z : Bx), ss[j]? = some (.ow true z) → j < e'.length := fun j z h => by
    have hj := (List.getElem?_eq_some_iff.mp h).1
    obtain ⟨⟨b, q⟩, _⟩ := k.lent j z (by show (ss ++ _)[j]? = _; rw [e0 j hj, h])
    rcases q with q | q
    · exact (List.getElem?_eq_some_iff.mp q).1
    · exact (List.getElem?_eq_some_iff.mp q).1
  have get : ∀ (j : Nat) (s : Sl), (finE ss e')[j]? = some s → ∃ s0, ss[j]? = some s0 ∧ j < ss.length ∧ ((∃ z, s0 = .ow true z ∧ e'[j]? = some s ∧ Lent e' j ∧ σ'[j]? = (vs.map some)[j]?) ∨ (s = s0 ∧ ∃ t, s = .v t)) := fun j s h => by
    have hj : j < ss.length := by have := (List.getElem?_eq_some_iff.mp h).1; rw [finE_len] at this; exact this
    have hs : ss[j]? = some ss[j] := List.getElem?_eq_getElem hj
    refine ⟨_, hs, hj, ?_⟩
    rcases finE_get (es := e') hs (fun ⟨z, q⟩ => lentLt j z (by rw [hs, q])) with ⟨z, q, w⟩ | ⟨q, w⟩
    · have hL := k.lent j z (by show (ss ++ _)[j]? = _; rw [e0 j hj, hs, q])
      exact .inl ⟨z, q, by rw [← w, h], hL.1, by rw [hL.2]; exact sg j hj⟩
    · rw [h] at w
      cases w
      have hm : okArg ss[j] = true := List.all_eq_true.mp ha _ (List.getElem_mem hj)
      cases w2 : ss[j] with
      | v t => exact .inr ⟨rfl, t, rfl⟩
      | un => rw [w2] at hm; cases hm
      | fz _ => rw [w2] at hm; cases hm
      | ow l z => cases l with
        | true => exact absurd w2 (q z)
        | false => rw [w2] at hm; cases hm
  have kind : SameKinds ss (finE ss e') := fun j l b h => by
    obtain ⟨s0, h0, hj, q⟩ := get j _ h
    rcases q with ⟨z, ez, he, ⟨b', lent⟩, _⟩ | ⟨_, t, et⟩
    · rw [he] at lent
      rcases lent with lent | lent
      · cases lent; exact ⟨z, by rw [h0, ez]⟩
      · cases lent
    · cases et
  have owB : ∀ a, Own (ss ++ List.replicate (N.length - ss.length) .un) (start N vs) a → Own ss (vs.map some) a := fun a ⟨j, l, b, h1, h2⟩ => by
    by_cases q : j < ss.length
    · rw [e0 j q] at h1; rw [sg j q] at h2; exact ⟨j, l, b, h1, h2⟩
    · rw [List.getElem?_append_right (by omega)] at h1
      have := List.eq_of_mem_replicate (List.mem_of_getElem? h1)
      cases this
  refine ⟨⟨R'.sub, by rw [finE_len, hl]; simp, fun j s o g1 g2 => ?_, fun j j' l b l' b' p g1 g2 g3 g4 => ?_⟩, ⟨k.ff, fun a o h n => k.keep a o h fun z => n (owB a z), k.dom, fun p ⟨j, l, b, g1, g2⟩ => ?_, fun j hj => ?_, kind⟩⟩
  · obtain ⟨s0, h0, hj, q⟩ := get j _ g1
    rcases q with ⟨z, ez, he, _, hs⟩ | ⟨es, t, et⟩
    · exact R'.at_ j s o he (by rw [hs]; exact g2)
    · have w := R.at_ j s o (by rw [es]; exact h0) g2
      subst et
      obtain ⟨y, ey, d⟩ := w
      exact ⟨y, ey, dp_mono k.ff _ _ d⟩
  · obtain ⟨s0, h0, hj, q⟩ := get j _ g1
    obtain ⟨s0', h0', hj', q'⟩ := get j' _ g2
    rcases q with ⟨z, ez, he, _, hs⟩ | ⟨es, t, et⟩
    · rcases q' with ⟨z', ez', he', _, hs'⟩ | ⟨es, t, et⟩
      · exact R'.ne j j' l b l' b' p he he' (by rw [hs]; exact g3) (by rw [hs']; exact g4)
      · cases et
    · cases et
  · obtain ⟨b', q⟩ := kind j l b g1
    exact ⟨j, l, b', q, g2⟩
  · obtain ⟨b, hb⟩ := hj
    rcases hb with hb | hb
    · have hjl : j < ss.length := (List.getElem?_eq_some_iff.mp hb).1
      have hL := k.lent j b (by show (ss ++ _)[j]? = _; rw [e0 j hjl, hb])
      rcases finE_get (es := e') hb (fun ⟨z, q⟩ => lentLt j z (by rw [hb, q])) with ⟨z, _, w⟩ | ⟨w, _⟩
      · obtain ⟨b', q⟩ := hL.1
        exact ⟨b', by rw [w]; exact q⟩
      · exact absurd rfl (w b)
    · have hjl : j < ss.length := (List.getElem?_eq_some_iff.mp hb).1
      have hm : okArg (.fz b) = true := List.all_eq_true.mp ha _ (List.mem_of_getElem? hb)
      cases hm
end
theorem fn_ok {P : Program} {w : World} {K : PySem.W.Frag} {mg : Str → Option Value} {base : Heap} {x qual : Str} {params : Arguments} {body : List Stmt} {scope : Scope} {f : Addr} {fd : FuncData} {N ps : List Str} {k : Nat} {b : SemS}
    (Fn : FunD K x qual params body scope [] [] f fd) (S : FnScope N ps scope)
    (hb : ∀ (cdv : Value) (A : Around) (outer : List Env) (s : Shared) (H : Hp) (E : XK), Room k (A.deeper (envOfC qual scope s.heap.objs.size f cdv)) →
      ∀ B, QSs (cxOf (L2N.CX P w) P w K mg base N qual scope f cdv A outer s H E) (fun cls d _ H => E cls d H) B body b) :
    FnOk P w K mg base (L2N.CX P w) (k + 1) f fd ps (spF K ps.length (runFn N.length b)) := by
  refine Fn.ok S (fun vs H Q E h => h.1) fun cdv A outer s H vs Q E hr ⟨hlen, ss, F, R, h⟩ => ?_
  have hl : ss.length = vs.length := by have := R.len; simpa using this
  have hN : ps.length ≤ N.length := by have := congrArg List.length S.pre; rw [List.length_take] at this; omega
  unfold runFn at h
  by_cases ha : ss.all okArg = true
  · rw [if_pos ha] at h
    refine ⟨_, hb cdv A outer s H E hr ⟨ss ++ List.replicate (N.length - ss.length) Sl.un, L2.start N vs, F, H⟩, ss ++ List.replicate (N.length - ss.length) Sl.un, F, start_rel (N := N) R, ?_, ?_⟩
    · refine ⟨fun _ _ h => h, fun a o h _ => ⟨h, fun z => z⟩, fun a o h => ⟨o, h⟩, fun i b p h1 _ => ?_, fun i b h => ⟨rfl, b, h⟩, fun i b h => ⟨⟨b, .inl h⟩, rfl⟩⟩
      by_cases q : i < ss.length
      · rw [List.getElem?_append_left q] at h1
        have := List.all_eq_true.mp ha _ (List.mem_of_getElem? h1)
        cases this
      · rw [List.getElem?_append_right (by omega)] at h1
        have := List.eq_of_mem_replicate (List.mem_of_getElem? h1)
        cases this
    · cases q : b (ss ++ List.replicate (N.length - ss.length) .un) with
      | bad => rw [q] at h; exact h
      | exc c t e' =>
        rw [q] at h
        intro σ' F' H' cls d R' k' ex
        obtain ⟨a1, a2⟩ := fin_rel R R' k' ha
        exact h F' H' cls d a1 a2 ex
      | ok f e' =>
        rw [q] at h
        cases f with
        | bk => exact h.elim
        | ct => exact h.elim
        | nx =>
          intro σ' F' H' R' k'
          obtain ⟨a1, a2⟩ := fin_rel R R' k' ha
          exact h _ F' H' a1 a2 .non
        | rt r =>
          intro x σ' F' H' R' k' o
          obtain ⟨a1, a2⟩ := fin_rel R R' k' ha
          refine h _ F' H' a1 a2 ?_
          cases r with
          | r t => exact o
          | b z => exact o
          | s i => cases o
  · rw [if_neg ha] at h; exact h.elim
end Ev

set_option Elab.async false
set_option linter.all false
set_option maxRecDepth 100000
namespace Ev
open PySem PySem.Spec PyProof.Rows L2
/-! ### a, b = x, y: names -/
/-- what names alone hold is let go -/
def presc : List Od → En → Option (List Od × En)
  | [], e => some ([], e)
  | .s i :: rs, e => match esc (.s i) e with
    | some (t, e1) => (match presc rs e1 with
      | some (rs', e2) => some (.r t :: rs', e2)
      | none => none)
    | none => none
  | r :: rs, e => match presc rs e with
    | some (rs', e2) => some (r :: rs', e2)
    | none => none
def noS : List Od → Prop
  | [] => True
  | .s _ :: _ => False
  | _ :: rs => noS rs
theorem presc_ok {K : PySem.W.Frag} {σ : Sg} {e0 : En} {F0 H0 H : Hp} (R0 : Rel K e0 σ F0 H0) : ∀ {rs rs' : List Od} {xs : List V} {e e' : En} {F : Hp}, Rel K e σ F H → Step e0 e σ F0 H0 F H → OdsR K σ H0 F H rs xs → presc rs e = some (rs', e') →
    ∃ F', Rel K e' σ F' H ∧ Step e0 e' σ F0 H0 F' H ∧ OdsR K σ H0 F' H rs' xs ∧ noS rs' ∧ (∀ a o, F a = some o → F' a = some o) ∧ (∀ (j : Nat) (z : Bx), rs'[j]? = some (.b z) → rs[j]? = some (.b z)) ∧ ∀ a, H0 a = none → F' a = F a
  | [], _, _, _, _, F, R, S, .nil, h => by cases h; exact ⟨F, R, S, .nil, trivial, fun _ _ h => h, fun j z h => h, fun _ _ => rfl⟩
  | .s i :: rs, _, _, e, _, F, R, S, .cons (x := x) (xs := xs) a b n, h => by
    unfold presc at h
    cases q : esc (.s i) e with
    | none => rw [q] at h; cases h
    | some te =>
      obtain ⟨t, e1⟩ := te
      simp only [q] at h
      cases q2 : presc rs e1 with
      | none => rw [q2] at h; cases h
      | some te2 =>
        obtain ⟨rs', e2⟩ := te2
        simp only [q2] at h
        cases h
        obtain ⟨F1, R1, S1, d1, ff1, only⟩ := esc_ok R0 R S a q
        have b1 : OdsR K σ H0 F1 H rs xs := ods_grow ff1 b fun p j z hj hx hn => by
          rcases only p with e | ⟨ex, e | e⟩
          · exact e
          · obtain ⟨z', e'⟩ := e; cases e'
          · exact absurd (S.own _ e) (fun w => by obtain ⟨_, o, q⟩ := R0.owned w; rw [hn] at q; cases q)
        obtain ⟨F2, R2, S2, d2, ns, ff2, bs, same⟩ := presc_ok R0 R1 S1 b1 q2
        refine ⟨F2, R2, S2, .cons (dp_mono ff2 _ _ d1) d2 (fun z p hr => by cases hr), ns, fun a o h => ff2 _ _ (ff1 _ _ h), fun j z h => ?_, fun a hn => ?_⟩
        · cases j with
          | zero => simp at h
          | succ j => simpa using bs j z (by simpa using h)
        · rw [same a hn]
          rcases only a with e | ⟨ex, e | e⟩
          · exact e
          · obtain ⟨z', e'⟩ := e; cases e'
          · exact absurd (S.own _ e) (fun w => by obtain ⟨_, o, q⟩ := R0.owned w; rw [hn] at q; cases q)
  | .r t :: rs, _, _, e, _, F, R, S, .cons (x := x) (xs := xs) a b n, h => by
    unfold presc at h
    cases q2 : presc rs e with
    | none => rw [q2] at h; cases h
    | some te2 =>
      obtain ⟨rs', e2⟩ := te2
      simp only [q2] at h
      cases h
      obtain ⟨F2, R2, S2, d2, ns, ff2, bs, same⟩ := presc_ok R0 R S b q2
      refine ⟨F2, R2, S2, .cons (dp_mono ff2 _ _ a) d2 (fun z p hr => by cases hr), ns, ff2, fun j z h => ?_, same⟩
      cases j with
      | zero => simp at h
      | succ j => simpa using bs j z (by simpa using h)
  | .b z0 :: rs, _, _, e, _, F, R, S, .cons (x := x) (xs := xs) a b n, h => by
    unfold presc at h
    cases q2 : presc rs e with
    | none => rw [q2] at h; cases h
    | some te2 =>
      obtain ⟨rs', e2⟩ := te2
      simp only [q2] at h
      cases h
      obtain ⟨F2, R2, S2, d2, ns, ff2, bs, same⟩ := presc_ok R0 R S b q2
      have a2 : OdR K σ H0 F2 H x (.b z0) := by
        obtain ⟨p, ep, hn, hf, bx⟩ := a
        exact ⟨p, ep, hn, by rw [same p hn]; exact hf, bx_keep bx ff2 fun _ h => h⟩
      refine ⟨F2, R2, S2, .cons a2 d2 (fun z p hr hx j z' hj => n z p hr hx j z' (bs j z' hj)), ns, ff2, fun j z h => ?_, same⟩
      cases j with
      | zero => simpa using h
      | succ j => simpa using bs j z (by simpa using h)
section
variable {K : PySem.W.Frag} {W : WX} {B : Bd} {e e1 : En} {σ : Sg} {F H H0 : Hp}
theorem put_ok {i : Nat} {r : Od} {x : V} {e' : En} (R : Rel K e σ F H) (k : BOk B e σ F H) (hB : ∀ p, H0 p = none → B.H p = none) (O : OdR K σ H0 F H x r) (ns : ∀ j, r ≠ .s j) (no : ∀ p z, r = .b z → x = .ref p → ¬ Own e σ p) (h : setO i r e = .ok .nx e') :
    Rel K e' (σ.set i (some x)) F H ∧ BOk B e' (σ.set i (some x)) F H ∧ ∀ q, Own e' (σ.set i (some x)) q → Own e σ q ∨ ∃ z, r = .b z ∧ x = .ref q := by
  unfold setO at h
  cases l : isLent e i with
  | true => rw [l] at h; cases h
  | false =>
    rw [l, if_neg (by decide)] at h
    have n := isLent_no l
    cases r with
    | s j => exact absurd rfl (ns j)
    | r t =>
      simp only [esc] at h
      cases h
      obtain ⟨a, b⟩ := set_v R k O n
      refine ⟨a, b, fun q ⟨j, l', b', q1, q2⟩ => .inl ?_⟩
      by_cases ij : i = j
      · subst ij
        have hi : i < e.length := by have := (List.getElem?_eq_some_iff.mp q1).1; simpa using this
        rw [List.getElem?_set_self hi] at q1; cases q1
      · rw [List.getElem?_set_ne ij] at q1 q2; exact ⟨j, l', b', q1, q2⟩
    | b z =>
      cases h
      obtain ⟨p, rfl, hn, hf, bx⟩ := O
      obtain ⟨a, b⟩ := set_b R k hf bx (hB p hn) (no p z rfl rfl) n
      refine ⟨a, b, fun q ⟨j, l', b', q1, q2⟩ => ?_⟩
      by_cases ij : i = j
      · subst ij
        have hi : i < e.length := by have := (List.getElem?_eq_some_iff.mp q1).1; simpa using this
        rw [List.getElem?_set_self (by rw [← R.len]; exact hi)] at q2
        cases q2
        exact .inr ⟨z, rfl, rfl⟩
      · rw [List.getElem?_set_ne ij] at q1 q2; exact .inl ⟨j, l', b', q1, q2⟩
def setOs : List Nat → List Od → En → Option En
  | [], [], e => some e
  | i :: is, r :: rs, e => match setO i r e with
    | .ok .nx e1 => setOs is rs e1
    | _ => none
  | _, _, _ => none
def setsσ : List Nat → List V → Sg → Sg
  | i :: is, x :: xs, σ => setsσ is xs (σ.set i (some x))
  | _, _, σ => σ
theorem sets_ok : ∀ {is : List Nat} {rs : List Od} {xs : List V} {e e' : En} {σ σ0 : Sg}, Rel K e σ F H → BOk B e σ F H → (∀ p, H0 p = none → B.H p = none) → OdsR K σ0 H0 F H rs xs → noS rs → (∀ p (j : Nat) z, rs[j]? = some (.b z) → xs[j]? = some (.ref p) → ¬ Own e σ p) → setOs is rs e = some e' →
    Rel K e' (setsσ is xs σ) F H ∧ BOk B e' (setsσ is xs σ) F H
  | [], [], _, _, _, _, _, R, k, _, .nil, _, _, h => by cases h; exact ⟨R, k⟩
  | [], _ :: _, _, _, _, _, _, _, _, _, _, _, _, h => by cases h
  | _ :: _, [], _, _, _, _, _, _, _, _, _, _, _, h => by cases h
  | i :: is, r :: rs, _, e, _, σ, σ0, R, k, hB, .cons (x := x) (xs := xs) a b n, ns, no, h => by
    unfold setOs at h
    cases q : setO i r e with
    | bad => rw [q] at h; cases h
    | exc _ _ _ => rw [q] at h; cases h
    | ok f e1 =>
      rw [q] at h
      cases f with
      | rt _ => cases h
      | bk => cases h
      | ct => cases h
      | nx =>
        have nsr : (∀ j, r ≠ .s j) ∧ noS rs := by
          cases r with
          | s j => exact ns.elim
          | r t => exact ⟨(fun j q => by cases q), ns⟩
          | b z => exact ⟨(fun j q => by cases q), ns⟩
        have a' : OdR K σ H0 F H x r := by
          cases r with
          | s j => exact ns.elim
          | r t => exact a
          | b z => exact a
        obtain ⟨R1, k1, ow⟩ := put_ok R k hB a' nsr.1 (fun p z er ex => no p 0 z (by rw [er]; rfl) (by rw [ex]; rfl)) q
        refine sets_ok (is := is) (rs := rs) (xs := xs) R1 k1 hB b nsr.2 (fun p j z hj hx hO => ?_) h
        rcases ow p hO with w | ⟨z', er, ex⟩
        · exact no p (j + 1) z (by simpa using hj) (by simpa using hx) w
        · exact n z' p er ex j z hj hx
end
section
variable {X : Cx} {W : WX} {B : Bd} {a b c : Expr} {ma mb mc : SemE} {pos : Pos}
/-- names = values, all at once -/
def sPar (is : List Nat) (m : SemA) : SemS := fun e => (m e).bind fun rs e1 => match presc rs e1 with
  | some (rs', e2) => (match setOs is rs' e2 with
    | some e3 => .ok .nx e3
    | none => .bad)
  | none => .bad
theorem par_read {is : List Nat} {m : SemA} {K : PySem.W.Frag} {D : Ends} {σ : Sg} {H : Hp} (h : tS K W B (sPar is m) D σ H) : tA K W m σ H fun xs H1 => xs.length = is.length ∧ D.nx (setsσ is xs σ) H1 ∧ ∀ p o, H1 p = none → D.nx (setsσ is xs σ) (upd H1 p o) := by
  obtain ⟨e, F, R, k, h⟩ := h
  refine tX_imp (tS_bind (rel := fun σ Hs F H xs rs => OdsR K σ Hs F H rs xs) R k h) fun xs H1 ⟨rs, e1, F1, R1, S1, k1, O, h1⟩ => ?_
  cases q : presc rs e1 with
  | none => simp only [q] at h1; exact h1.elim
  | some te =>
    obtain ⟨rs', e2⟩ := te
    simp only [q] at h1
    obtain ⟨F2, R2, S2, O2, ns, _, _, _⟩ := presc_ok R R1 S1 O q
    have k2 := k.step S2
    cases q2 : setOs is rs' e2 with
    | none => simp only [q2] at h1; exact h1.elim
    | some e3 =>
      simp only [q2] at h1
      have hB : ∀ p, H p = none → B.H p = none := fun p hn => by
        cases q : B.H p with
        | none => rfl
        | some o => obtain ⟨o', e'⟩ := k.dom _ _ q; rw [hn] at e'; cases e'
      have no : ∀ {F' H'}, OdsR K σ H F' H' rs' xs → ∀ p (j : Nat) z, rs'[j]? = some (.b z) → xs[j]? = some (.ref p) → ¬ Own e2 σ p := fun O2 p j z hj hx => by
        obtain ⟨p', hx', hn, _⟩ := ods_tmp O2 j z hj
        rw [hx] at hx'; cases hx'
        exact fresh_not_own R S2 hn
      have len : ∀ {is : List Nat} {rs : List Od} {e e' : En}, setOs is rs e = some e' → is.length = rs.length := by
        intro is
        induction is with
        | nil => intro rs e e' h; cases rs with
          | nil => rfl
          | cons _ _ => cases h
        | cons i is ih => intro rs e e' h; cases rs with
          | nil => cases h
          | cons r rs =>
            unfold setOs at h
            split at h
            · simp [ih h]
            · cases h
      refine ⟨by rw [len q2, ods_len O2], ?_, fun p o hp => ?_⟩
      · obtain ⟨R3, k3⟩ := sets_ok R2 k2 hB O2 ns (no O2) q2
        exact h1 _ _ _ R3 k3
      · have R2' := laid_own (o := o) R2 hp
        have k2' := k2.step (laid_own_step (e := e2) (σ := σ) (F := F2) (o := o) hp)
        have O2' : OdsR K σ H F2 (upd H1 p o) rs' xs := by
          have mono : ∀ {rs xs}, OdsR K σ H F2 H1 rs xs → OdsR K σ H F2 (upd H1 p o) rs xs := by
            intro rs xs O
            induction O with
            | nil => exact .nil
            | cons a b n ih =>
              refine .cons ?_ ih n
              rename_i r x _ _
              cases r with
              | r t => exact a
              | s i => exact a
              | b z =>
                obtain ⟨p', ep, hn, hf, bx⟩ := a
                exact ⟨p', ep, hn, hf, bx_keep bx (fun _ _ h => h) fun o' h' => by rw [upd_ne (ne_of_none h' hp)]; exact h'⟩
          exact mono O2
        obtain ⟨R3, k3⟩ := sets_ok R2' k2' hB O2' ns (no O2') q2
        exact h1 _ _ _ R3 k3
theorem qpar2 {i j : Nat} {x y : Str} {px py pt : Pos} {kt k2 pt2} {m : SemA} (hc : X.calm = true) (hN : X.N.Nodup) (hi : X.N[i]? = some x) (hj : X.N[j]? = some y) (hij : i ≠ j)
    (hx : X.env.scope.names.lookup x = some .local) (hy : X.env.scope.names.lookup y = some .local) (ha : QA X W [a, b] m)
    (hw : swappedStores [.Tuple [.Name x px, .Name y py] kt pt] (.Tuple [a, b] k2 pt2) X.env = pure (some [x, y]))
    (hs : swapsWithSole [.Tuple [.Name x px, .Name y py] kt pt] (.Tuple [a, b] k2 pt2) pos.line X.env = pure false := by rfl) :
    QS X W B (.Assign [.Tuple [.Name x px, .Name y py] kt pt] (.Tuple [a, b] k2 pt2) pos) (sPar [i, j] m) :=
  ps_mono (ps_par hc hN hi hj hij hx hy ha hw hs) fun D σ H h => tX_imp (par_read h) fun xs H1 ⟨hl, q, _⟩ => by
    match xs, hl, q with
    | [v, w], _, q => exact ⟨v, w, rfl, q⟩
/-- by the tuple -/
theorem qparT {tgs es : List Expr} {is : List Nat} {m : SemA} {kt k2 : Nat} {pt pt2 : Pos} {gs : TGs} (hc : X.calm = true) (ha : QA X W es m) (hg : PGs X tgs gs) (hgs : ∀ xs σ H Q, xs.length = is.length → Q (setsσ is xs σ) H → gs xs σ H Q) (hlen : is.length ≤ sizeLine)
    (hs : swapsWithSole [.Tuple tgs kt pt] (.Tuple es k2 pt2) pos.line X.env = pure false := by rfl) (hw : swappedStores [.Tuple tgs kt pt] (.Tuple es k2 pt2) X.env = pure none := by rfl)
    (h1 : (assignEach [.Tuple tgs kt pt] X.env).map (·.2) = [assign (.Tuple tgs kt pt) X.env] := by rfl) (hn : (assignEach tgs X.env).length = is.length := by rfl) (hst : (assignEach tgs X.env).findIdx? (·.1) = none := by rfl) :
    QS X W B (.Assign [.Tuple tgs kt pt] (.Tuple es k2 pt2) pos) (sPar is m) :=
  ps_mono (ps_asg (pe_tup ha) (pg_tup hc hg hn hst) hs hw h1) fun D σ H h => tX_imp (par_read h) fun xs H1 ⟨hl, _, q⟩ =>
    ⟨by rw [hl]; exact hlen, fun p hp => ⟨p, xs, rfl, SqT.of upd_same, hl, hgs _ _ _ _ hl (q p _ hp)⟩⟩
def gsNames : List Nat → TGs
  | [] => gNil
  | i :: is => gCons (gName i) (gsNames is)
theorem gsNames_ok : ∀ (is : List Nat) (xs : List V) (σ : Sg) (H : Hp) (Q : Sg → Hp → Prop), xs.length = is.length → Q (setsσ is xs σ) H → gsNames is xs σ H Q
  | [], [], σ, H, Q, _, h => ⟨rfl, h⟩
  | [], _ :: _, _, _, _, h, _ => by cases h
  | _ :: _, [], _, _, _, h, _ => by cases h
  | i :: is, x :: xs, σ, H, Q, hl, h => ⟨x, xs, rfl, gsNames_ok is xs _ H Q (by simpa using hl) h⟩
end
end Ev

set_option Elab.async false
set_option linter.all false
set_option maxRecDepth 100000
namespace Ev
open PySem PySem.Spec PyProof.Rows L2
section
variable {X : Cx} {W : WX} {B : Bd} {a b c : Expr} {ma mb mc : SemE} {pos : Pos}
/-! ### calls -/
/-! ### x.index(y) -/
def findT (ts : List T) (u : T) : Option Nat := ts.findIdx? fun z => PyData.eqv z u
def eIndex (mo : SemE) (ma : SemA) : SemE := fun e => (mo e).bind fun r e1 => match r.val e1 with
  | some (.list _) => (ma e1).bind fun rs e2 => (match r.val e2, vals e2 rs with
    | some (.list ts), some [u] => if SeqAt.shaped (.list ts) && SeqAt.shaped u then (match findT ts u with
      | some j => .ok (.r (.int (j : Nat))) e2
      | none => .bad) else .bad
    | _, _ => .bad)
  | _ => .bad
/-! ### x[i] = v of a list that a name alone holds -/
def sSetIx (i : Nat) (mi mv : SemE) : SemS := fun e => (mv e).bind fun r e1 => match e1[i]? with
  | some (.ow _ (.l _)) => (mi e1).bind fun ri e2 => (match ri.val e2, esc r e2 with
    | some (.int k), some (t, e3) => (match e3[i]? with
      | some (.ow l (.l ts)) => (match ixN ts.length k with
        | some j => .ok .nx (e3.set i (.ow l (.l (ts.set j t))))
        | none => .bad)
      | _ => .bad)
    | _, _ => .bad)
  | _ => .bad
theorem qsetix {i : Nat} {x : Str} {p p' : Pos} {ix v : Expr} {mi mv : SemE} (hN : X.N[i]? = some x) (hv : Vis X.env.scope x) (hi : QE X W ix mi) (hval : QE X W v mv) (hd : (x == ("__debug__" : Str)) = false := by decide) (hcd : (x == ("__classdict__" : Str)) = false := by decide)
    (ha : ∀ w, assign (.Subscript (.Name x p) ix p') X.env w = (do
      let ov ← holding [w] (eval (.Name x p) X.env)
      let iv ← holding [w, ov] (eval ix X.env)
      standAt p'
      holding [w, ov, iv] (setItem ov iv w)
      release [w, ov, iv] []) := by intro _; rfl)
    (hs : swapsWithSole [.Subscript (.Name x p) ix p'] v pos.line X.env = pure false := by rfl) (hw : swappedStores [.Subscript (.Name x p) ix p'] v X.env = pure none := by rfl)
    (h1 : (assignEach [.Subscript (.Name x p) ix p'] X.env).map (·.2) = [assign (.Subscript (.Name x p) ix p') X.env] := by rfl) : QS X W B (.Assign [.Subscript (.Name x p) ix p'] v pos) (sSetIx i mi mv) := by
  refine ps_mono (ps_asg hval (pg_sub (pe_var hN hv hd hcd) hi set_list ha) hs hw h1) fun D σ H h => ?_
  obtain ⟨e, F, R, k, h⟩ := h
  refine tX_imp (tS_bind (rel := fun σ => OdR X.K σ) R k h) fun y H1 ⟨r, e1, F1, R1, S1, k1, O1, h1⟩ => ?_
  split at h1
  rename_i l0 ts0 q0
  obtain ⟨o, hs0, p, ep, _⟩ := R1.var q0
  subst ep
  refine ⟨_, hs0, tX_imp (tS_bind (B := B) (m := mi) (rel := fun σ => OdR X.K σ) R1 k1 h1) fun iv H2 ⟨ri, e2, F2, R2, S2, k2, O2, h2⟩ => ?_⟩
  have O1' := od_stay O1 (fun p hp => fresh_not_own R S1 hp) S2
  split at h2
  · rename_i kk t e3 q1 q2
    have d := val_ok R2 O2 q1
    cases d
    obtain ⟨F3, R3, S3, d3, _⟩ := esc_ok R R2 (S1.trans S2) O1' q2
    split at h2
    · rename_i l ts q3
      cases q4 : ixN ts.length kk with
      | none => simp only [q4] at h2; exact h2.elim
      | some j =>
        simp only [q4] at h2
        obtain ⟨p', ep, hf, xs, hx, dd⟩ := R3.at_ i _ _ q3 hs0
        cases ep
        refine ⟨p, xs, kk, j, rfl, rfl, hx, by rw [dpAll_len dd]; exact q4, ?_⟩
        obtain ⟨R4, S4⟩ := upd_own R3 q3 hs0 (dpAll_set d3 j dd)
        exact h2 σ F3 _ R4 ((k.step S3).step S4)
    · exact h2.elim
  · exact h2.elim
  · exact h1.elim
end
end Ev

set_option Elab.async false
set_option linter.all false
set_option maxRecDepth 100000
namespace Ev
open PySem PySem.Spec PyProof.Rows L2
section
variable {X : Cx} {W : WX} {B : Bd} {a b c : Expr} {ma mb mc : SemE} {pos : Pos}
/-! ### f(k = v, ..): keywords alone -/
abbrev QK (X : Cx) (W : WX) (kws : List Keyword) (m : SemA) : Prop := PK X kws (tA X.K W m)
theorem pk_mono {kws : List Keyword} {t t' : TA} (h : PK X kws t) (m : ∀ σ H Q, t' σ H Q → t σ H Q) : PK X kws t' := ⟨fun pos pins s σ H Q I q => h.run pos pins s σ H Q I (m σ H Q q)⟩
theorem qk_nil : QK X W [] aNil := pk_mono pk_nil fun σ H Q ⟨e, F, R, h⟩ => h _ F H R .refl .nil
theorem qk_cons {kws : List Keyword} {mr : SemA} {nm : Option Str} {kpos : Pos} (ha : QE X W a ma) (hr : QK X W kws mr) : QK X W (⟨nm, a, kpos⟩ :: kws) (aCons ma mr) := by
  refine pk_mono (pk_cons ha hr) fun σ H Q h => ?_
  obtain ⟨e, F, R, h⟩ := h
  refine tX_imp (tX_bind R .refl h) fun x H1 ⟨r, e1, F1, R1, S1, O1, h1⟩ => ?_
  refine tX_imp (tX_bind (rel := fun σ Hs F H xs rs => OdsR X.K σ Hs F H rs xs) R1 S1 h1) fun xs H2 ⟨rs, e2, F2, R2, S2, O2, h2⟩ => ?_
  refine h2 _ F2 H2 R2 (S1.trans S2) (.cons (od_stay O1 (fun p hp => fresh_not_own R S1 hp) S2) (ods_back S1 O2) fun z p er ex j z' hj hx => ?_)
  subst er
  obtain ⟨p', ep, hn, hf, bx⟩ := O1
  rw [ex] at ep; cases ep
  obtain ⟨q, hq, hn2, _⟩ := ods_tmp O2 j z' hj
  rw [hx] at hq; cases hq
  obtain ⟨o, ho⟩ := bx_some bx
  rw [hn2] at ho; cases ho
def pick {α : Type} (perm : List Nat) (l : List α) : List α := perm.filterMap (l[·]?)
theorem pick_ods {K : PySem.W.Frag} {σ : Sg} {Hs F H : Hp} {rs : List Od} {xs : List V} (O : OdsR K σ Hs F H rs xs) : ∀ {perm : List Nat}, perm.Nodup → OdsR K σ Hs F H (pick perm rs) (pick perm xs)
  | [], _ => .nil
  | i :: perm, nd => by
    have ih := pick_ods O (List.nodup_cons.mp nd).2
    by_cases hi : i < rs.length
    · have h1 : rs[i]? = some rs[i] := List.getElem?_eq_getElem hi
      obtain ⟨x, hx, o⟩ := ods_get O h1
      have e1 : pick (i :: perm) rs = rs[i] :: pick perm rs := by unfold pick; rw [List.filterMap_cons, h1]
      have e2 : pick (i :: perm) xs = x :: pick perm xs := by unfold pick; rw [List.filterMap_cons, hx]
      rw [e1, e2]
      refine .cons o ih fun z p er ex j z' hj hxj => ?_
      subst ex
      -- the j-th of the picked ones stands at some place of perm
      have key : ∀ {perm : List Nat} {j : Nat}, (pick perm rs)[j]? = some (.b z') → (pick perm xs)[j]? = some (.ref p) → ∃ k ∈ perm, rs[k]? = some (.b z') ∧ xs[k]? = some (.ref p) := by
        intro perm
        induction perm with
        | nil => intro j h _; simp [pick] at h
        | cons k perm ih2 =>
          intro j h1 h2
          by_cases hk : k < rs.length
          · have g1 : rs[k]? = some rs[k] := List.getElem?_eq_getElem hk
            obtain ⟨y, hy, _⟩ := ods_get O g1
            have f1 : pick (k :: perm) rs = rs[k] :: pick perm rs := by unfold pick; rw [List.filterMap_cons, g1]
            have f2 : pick (k :: perm) xs = y :: pick perm xs := by unfold pick; rw [List.filterMap_cons, hy]
            rw [f1] at h1; rw [f2] at h2
            cases j with
            | zero => simp at h1 h2; exact ⟨k, List.mem_cons_self, by rw [g1, h1], by rw [hy, h2]⟩
            | succ j =>
              obtain ⟨k', m, q⟩ := ih2 (j := j) (by simpa using h1) (by simpa using h2)
              exact ⟨k', List.mem_cons_of_mem _ m, q⟩
          · have g1 : rs[k]? = none := List.getElem?_eq_none (by omega)
            have g2 : xs[k]? = none := List.getElem?_eq_none (by rw [← ods_len O]; omega)
            have f1 : pick (k :: perm) rs = pick perm rs := by unfold pick; rw [List.filterMap_cons, g1]
            have f2 : pick (k :: perm) xs = pick perm xs := by unfold pick; rw [List.filterMap_cons, g2]
            rw [f1] at h1; rw [f2] at h2
            obtain ⟨k', m, q⟩ := ih2 (j := j) h1 h2
            exact ⟨k', List.mem_cons_of_mem _ m, q⟩
      obtain ⟨k, hk, q1, q2⟩ := key hj hxj
      have := ods_ne O (h1.trans (by rw [er])) q1 hx q2
      subst this
      exact (List.nodup_cons.mp nd).1 hk
    · have g1 : rs[i]? = none := List.getElem?_eq_none (by omega)
      have g2 : xs[i]? = none := List.getElem?_eq_none (by rw [← ods_len O]; omega)
      have f1 : pick (i :: perm) rs = pick perm rs := by unfold pick; rw [List.filterMap_cons, g1]
      have f2 : pick (i :: perm) xs = pick perm xs := by unfold pick; rw [List.filterMap_cons, g2]
      rw [f1, f2]; exact ih
theorem pick_vals {xs : List V} {us : List Value} (r : Vals xs us) : ∀ (perm : List Nat), Vals (pick perm xs) (pick perm us)
  | [] => .nil
  | i :: perm => by
    have ih := pick_vals r perm
    cases q : xs[i]? with
    | none =>
      have f1 : pick (i :: perm) xs = pick perm xs := by unfold pick; rw [List.filterMap_cons, q]
      have f2 : pick (i :: perm) us = pick perm us := by unfold pick; rw [List.filterMap_cons, r.none_of q]
      rw [f1, f2]; exact ih
    | some x =>
      obtain ⟨u, hu, ru⟩ := r.get q
      have f1 : pick (i :: perm) xs = x :: pick perm xs := by unfold pick; rw [List.filterMap_cons, q]
      have f2 : pick (i :: perm) us = u :: pick perm us := by unfold pick; rw [List.filterMap_cons, hu]
      rw [f1, f2]; exact .cons ru ih
/-- how keywords alone are bound -/
def KwBinds (K : PySem.W.Frag) (fd : FuncData) (ps ks : List Str) (perm : List Nat) : Prop := ∀ (s : Shared) (ws : List Value), ws.length = ks.length → BindsTo s fd ⟨[], ks.zip ws⟩ (ps.zip (pick perm ws))
theorem kwBinds_of {K : PySem.W.Frag} {x qual : Str} {params : Arguments} {body : List Stmt} {scope : Scope} {kws : List (Str × V)} {f : Addr} {fd : FuncData} {ps ks : List Str} {perm : List Nat} (F : FunD K x qual params body scope [] kws f fd)
    (h : ∀ (kV doc pm : Value) (an : Option Addr) (cdv ct : Value) (ws : List Value), ws.length = ks.length → bindArgs (PySem.W.fnOf x qual params body scope .none kV doc pm an cdv ct) ⟨[], ks.zip ws⟩ = pure (ps.zip (pick perm ws))) : KwBinds K fd ps ks perm := fun s ws hl => by
  obtain ⟨oc, od, dV, kV, doc, pm, an, cdv, ct, osl, rfl, lk, hcd, hD, hK⟩ := F.ex
  rcases hD with ⟨_, rfl⟩ | ⟨e, _⟩
  · exact .of_eq (h kV doc pm an cdv ct ws hl)
  · exact absurd rfl e
def tCallKS (sp : Sp) (perm : List Nat) (n : Nat) (E : Sg → XK) (tk : TA) : TE := fun σ H Q => tk σ H fun zs H1 => zs.length = n ∧ sp (pick perm zs) H1 Q (E σ)
theorem pe_callKS {CX : CXT} {k : Nat} {f : Addr} {fd : FuncData} {ps ks : List Str} {sp : Sp} {E : Sg → XK} {x : Str} {p : Pos} {kws : List Keyword} {tk : TA} {perm : List Nat} (Fn : FnOk X.prog X.w X.K X.mg X.base CX k f fd ps sp) (hr : Room k X.A) (hg : Gl X x) (hm : X.mg x = some (.ref f)) (hk : PySem.W.keepIn X.K (.ref f) = true)
    (hb : KwBinds X.K fd ps ks perm) (hx : ∀ σ, PassesAt CX X σ (E σ)) (hkw : PK X kws tk) (hall : (backToKw pos (keywordEach kws X.env)).all (·.1.isSome) = true := by rfl) (hks : (backToKw pos (keywordEach kws X.env)).filterMap (·.1) = ks := by rfl)
    (hdb : (x == ("__debug__" : Str)) = false := by decide) (hpl : ((backTo pos (starEach [] X.env)).any (·.1) || (backToKw pos (keywordEach kws X.env)).any (·.1.isNone)) = false := by rfl) :
    PE X (.Call (.Name x p) [] kws pos) (tCallKS sp perm ks.length E tk) := by
  refine ⟨fun pins s σ H Q I h => ?_⟩
  refine wpAny_Call_Name_kw (ld_glob I hg hm ?_ hdb)
  refine PySem.W.callWith_KW0 (h₀ := X.base) I.ok.mod.kin hk hall ?_ hpl
  refine thn (hkw.run pos pins s σ H _ I h) fun ws s2 ⟨zs, H2, I2, rz, hl, q2⟩ => ⟨I2.kIn, ?_⟩
  rw [hks]
  have hl2 : ws.length = ks.length := by rw [← rz.length]; exact hl
  refine wpAny_call (codeAny_mono (Fn.run X.A X.stack s2 H2 ⟨[], ks.zip ws⟩ (pick perm ws) (pick perm zs) Q (E σ) hr I2.env0 (hb s2 ws hl2) (pick_vals rz perm) q2) fun r s' hq => ?_)
  cases r with
  | error e => exact hx σ pins H2 s2 e s' I2 hq
  | ok fl =>
    cases fl with
    | ret u => exact I2.after hq
    | next => exact False.elim hq
    | brk => exact False.elim hq
    | cont => exact False.elim hq
def eCallK (n : Nat) (perm : List Nat) (m : FSem) (mk : SemA) : SemE := fun e => (mk e).bind fun rs e1 => if (pick perm rs).length = n ∧ rs.length = n ∧ perm.Nodup then eCallR m (pick perm rs) e1 else .bad
theorem callK_read {n : Nat} {perm : List Nat} {m : FSem} {ma : SemA} {K : PySem.W.Frag} {σ : Sg} {H : Hp} {Q : VK} (h : tE K W (eCallK n perm m ma) σ H Q) : tA K W ma σ H fun vs H1 => vs.length = n ∧ spF K n m (pick perm vs) H1 Q (WE W σ) := by
  obtain ⟨e, F, R, h⟩ := h
  refine tX_imp (tX_bind (rel := fun σ Hs F H xs rs => OdsR K σ Hs F H rs xs) R .refl h) fun xs0 H1 ⟨rs0, e1, F1, R1, S1, O0, h1⟩ => ?_
  by_cases hl0 : (pick perm rs0).length = n ∧ rs0.length = n ∧ perm.Nodup
  · rw [if_pos hl0] at h1
    obtain ⟨hl, hl1, ndp⟩ := hl0
    have O1 := pick_ods O0 ndp
    refine ⟨by rw [← ods_len O0]; exact hl1, by rw [← ods_len O1]; exact hl, ?_⟩
    generalize pick perm rs0 = rs at *
    generalize pick perm xs0 = xs at *
    unfold eCallR at h1
    cases q : toSls e1 rs with
    | none => rw [q] at h1; exact h1.elim
    | some ss =>
      simp only [q] at h1
      by_cases nd : (sIdx rs).Nodup
      · rw [if_pos nd] at h1
        obtain ⟨RA, _⟩ := args_rel R R1 S1 O1 q nd
        refine ⟨ss, F1, RA, ?_⟩
        cases w : m ss with
        | bad => rw [w] at h1; exact h1
        | exc c t ss' =>
          rw [w] at h1
          exact fun F' H' cls d R' S' x => let ⟨a, b⟩ := back_rel R R1 S1 O1 q nd R' S'; h1 F' H' cls d a b x
        | ok r ss' =>
          rw [w] at h1
          intro x F' H' R' S' o
          obtain ⟨a, b⟩ := back_rel R R1 S1 O1 q nd R' S'
          cases r with
          | s i => exact h1.elim
          | r t => exact h1 x F' H' a b o
          | b z => obtain ⟨p, ep, hn, hf, bx⟩ := o; exact h1 x F' H' a b ⟨p, ep, step_none S1 hn, hf, bx⟩
      · rw [if_neg nd] at h1; exact h1.elim
  · rw [if_neg hl0] at h1; exact h1.elim
theorem qcallk {CX : CXT} {k : Nat} {f : Addr} {fd : FuncData} {ps ks : List Str} {m : FSem} {ma : SemA} {x : Str} {p : Pos} {kws : List Keyword} {perm : List Nat} (Fn : FnOk X.prog X.w X.K X.mg X.base CX k f fd ps (spF X.K ks.length m)) (hr : Room k X.A) (hg : Gl X x) (hm : X.mg x = some (.ref f)) (hk : PySem.W.keepIn X.K (.ref f) = true)
    (hb : KwBinds X.K fd ps ks perm) (hx : ∀ σ, PassesAt CX X σ (WE W σ)) (hkw : QK X W kws ma) (hall : (backToKw pos (keywordEach kws X.env)).all (·.1.isSome) = true := by rfl) (hks : (backToKw pos (keywordEach kws X.env)).filterMap (·.1) = ks := by rfl)
    (hdb : (x == ("__debug__" : Str)) = false := by decide) (hpl : ((backTo pos (starEach [] X.env)).any (·.1) || (backToKw pos (keywordEach kws X.env)).any (·.1.isNone)) = false := by rfl) :
    QE X W (.Call (.Name x p) [] kws pos) (eCallK ks.length perm m ma) :=
  pe_mono (pe_callKS (E := fun σ => WE W σ) Fn hr hg hm hk hb hx hkw hall hks hdb hpl) fun σ H Q h => callK_read h
/-! ### a < b < c -/
end
/-! ### the law's own end -/
theorem law_sp {K : PySem.W.Frag} {m : FSem} {a : Addr} {H : Hp} {ns : List Int} (hS : SqL K H a (ns.map V.int)) (h : ∃ e', m [.v (.list (ns.map PyData.int))] = .ok (.r (.bool true)) e') : spF K 1 m [.ref a] H (fun v _ => v = .bl true) fun _ _ _ => False := by
  obtain ⟨e', h⟩ := h
  have dp : DpAll K H (ns.map V.int) (ns.map PyData.int) := by
    clear hS h
    induction ns with
    | nil => exact .nil
    | cons n ns ih => exact .cons (.int n) ih
  refine ⟨rfl, [.v (.list (ns.map PyData.int))], H, ⟨fun _ _ h => h, rfl, fun i s o h1 h2 => ?_, fun i j l b l' b' p h1 => ?_⟩, ?_⟩
  · cases i with
    | zero => simp at h1 h2; subst h1 h2; exact ⟨_, rfl, .lst hS dp⟩
    | succ i => simp at h1
  · cases i with
    | zero => simp at h1
    | succ i => simp at h1
  · rw [h]
    intro x F' H' R' S' o
    cases o
    rfl
theorem law_CX {P : Program} {w : World} (H : Hp) (s : Shared) (e : Value) (s' : Shared) : L2N.CX P w [] H s (fun _ _ _ => False) e s' → False := fun h => by
  obtain ⟨_, _, _, _, _, _, _, _, _, _, _, _, z⟩ := h
  exact z.elim
theorem takesN0 {X : Cx} : L2N.Takes X (fun _ _ _ _ => False) := fun _ _ x => by
  obtain ⟨_, _, _, _, _, _, _, _, _, _, _, _, _, _, _, _, z⟩ := x
  exact z.elim
end Ev
namespace Ev
open PySem PySem.Spec PyProof.Rows L2
theorem room65 {k : Nat} {A : Around} (r : Room k A) : A.units + 65 < cLine := by have := r.un; omega
section
variable {X : Cx} {W : WX} {B : Bd} {a : Expr} {ma : SemE} {pos : Pos}
/-- name += e, ints -/
def sAug (i : Nat) (g : T → T → Option Od) (m : SemE) : SemS := fun e => match e[i]? with
  | some (.v t) => (m e).bind fun r e1 => (match r.val e1 with
    | some u => (match g t u with
      | some (.r (.int k)) => setO i (.r (.int k)) e1
      | _ => .bad)
    | none => .bad)
  | _ => .bad
end
end Ev

set_option Elab.async false
set_option linter.all false
set_option maxRecDepth 100000
namespace Ev
open PySem PySem.Spec PyProof.Rows L2
/-- each once -/
def dd {α : Type} [DecidableEq α] : List α → List α
  | [] => []
  | x :: xs => if x ∈ xs then dd xs else x :: dd xs
theorem mem_dd {α : Type} [DecidableEq α] {a : α} : ∀ {xs : List α}, a ∈ dd xs ↔ a ∈ xs
  | [] => Iff.rfl
  | x :: xs => by
    unfold dd
    split
    · rename_i h
      rw [mem_dd, List.mem_cons]
      exact ⟨.inr, fun q => q.elim (fun z => z ▸ h) id⟩
    · rw [List.mem_cons, List.mem_cons, mem_dd]
theorem nodup_dd {α : Type} [DecidableEq α] : ∀ (xs : List α), (dd xs).Nodup
  | [] => List.nodup_nil
  | x :: xs => by
    unfold dd
    split
    · exact nodup_dd xs
    · rename_i h
      exact List.nodup_cons.mpr ⟨fun z => h (mem_dd.mp z), nodup_dd xs⟩
theorem len_le_of_sub {α : Type} [DecidableEq α] : ∀ {xs ys : List α}, xs.Nodup → (∀ a ∈ xs, a ∈ ys) → xs.length ≤ ys.length
  | [], _, _, _ => Nat.zero_le _
  | x :: xs, ys, nd, h => by
    have hx : x ∈ ys := h x List.mem_cons_self
    have := len_le_of_sub (xs := xs) (ys := ys.erase x) (List.nodup_cons.mp nd).2 fun a ha => by
      have ne : a ≠ x := fun z => (List.nodup_cons.mp nd).1 (z ▸ ha)
      exact (List.mem_erase_of_ne ne).mpr (h a (List.mem_cons_of_mem _ ha))
    rw [List.length_erase_of_mem hx] at this
    have hp : 0 < ys.length := List.length_pos_of_mem hx
    simp only [List.length_cons]
    omega
theorem len_dd {α : Type} [DecidableEq α] {L xs : List α} (nd : L.Nodup) (h : ∀ a, a ∈ L ↔ a ∈ xs) : L.length = (dd xs).length :=
  Nat.le_antisymm (len_le_of_sub nd fun a ha => mem_dd.mpr ((h a).mp ha)) (len_le_of_sub (nodup_dd xs) fun a ha => (h a).mpr (mem_dd.mp ha))
section
variable {X : Cx} {W : WX} {a : Expr} {ma : SemE} {pos : Pos}
def tLenSetT (K : PySem.W.Frag) (ta : TE) : TE := fun σ H Q => ta σ H fun x H1 => ∃ (l : Addr) (ks : List (Addr × List Int)), x = .ref l ∧ SqL K H1 l (ks.map fun p => V.ref p.1) ∧ (∀ p ∈ ks, SqT K H1 p.1 (p.2.map V.int)) ∧ ks.length < 64 ∧ Q (.int ((dd (ks.map (·.2))).length : Nat)) H1
theorem pe_lenSetT {ta : TE} {p p2 q : Pos} (hc : X.calm = true) (hu : X.A.units + 64 < cLine) (hg : Gl X "len") (hm : X.mg "len" = none) (hg2 : Gl X "set") (hm2 : X.mg "set" = none) (ha : PE X a ta)
    (na : starEach [a] X.env = (false, eval a X.env) :: starEach [] X.env := by rfl) : PE X (.Call (.Name "len" p) [.Call (.Name "set" p2) [a] [] q] [] pos) (tLenSetT X.K ta) := by
  refine ⟨fun pins s σ H Q I h => ?_⟩
  refine Call_ (ld_blt I hg hm PySem.boot_len ?_)
  refine PyProof.Rows.callWith_builtin1 (PyProof.Rows.args_cons ?_ rfl) rfl rfl
  refine Call_ (ld_blt I hg2 hm2 PyProof.Rows.boot_set ?_)
  refine PyProof.Rows.callWith_type1 (PyProof.Rows.args_cons (thn (ha.run pins s σ H _ I h) fun v s1 ⟨x, H1, I1, r1, q1⟩ => PyProof.Rows.args_nil ?_) na) na rfl
  obtain ⟨l, ks, rfl, hl, hk, hf, q1⟩ := q1
  cases r1
  obtain ⟨its, rv, pl, hz⟩ := I1.list hl
  refine call_set_tups (P := X.prog) (w := X.w) ks (I1.ok.hd hc) pl.isList (by simpa using refs_of_vals rv) (fun p hp => I1.isT (hk p hp)) hf (by omega) fun h' tk L es ep t R g k => ?_
  refine PyProof.Rows.args_nil ?_
  have I2 : Inv X pins σ H1 { s1 with heap := h', toks := tk } := I1.kept (t' := tk) k
  obtain ⟨o, ho, hex, hd⟩ := R.ob
  have hsz := SetTR.size (s := { s1 with heap := h', toks := tk }) R
  have hle : es.size = (dd (ks.map (·.2))).length := by
    rw [hsz]
    have e1 : L.length = (L.map (·.2)).length := by simp
    rw [e1]
    refine len_dd R.nd fun a => ⟨fun ha => ?_, fun ha => ?_⟩
    · obtain ⟨p, hp, e⟩ := List.mem_map.mp ha
      exact List.mem_map.mpr ⟨p, List.mem_of_mem_take (g.sub p hp), e⟩
    · obtain ⟨p, hp, e⟩ := List.mem_map.mp ha
      rw [← e]
      exact g.all p (by rw [List.take_length]; exact hp)
  refine call_len_set ho hex hd (SetTR.fits (s := { s1 with heap := h', toks := tk }) R) (by have := R.few; rw [hsz]; omega) ⟨.int ((dd (ks.map (·.2))).length : Nat), H1, I2.tok _, ⟨_, by rw [hle]⟩, q1⟩
/-- the ints of a tuple; of all tuples of a list -/
def intsOf : List T → Option (List Int)
  | [] => some []
  | .int i :: ts => (intsOf ts).map (i :: ·)
  | _ => none
def tupsOf : List T → Option (List (List Int))
  | [] => some []
  | .tuple ts :: us => (match intsOf ts, tupsOf us with
    | some a, some b => some (a :: b)
    | _, _ => none)
  | _ => none
theorem intsOf_dp {K : PySem.W.Frag} {F : Hp} : ∀ {ts : List T} {xs : List V} {ns : List Int}, DpAll K F xs ts → intsOf ts = some ns → xs = ns.map V.int
  | [], _, _, d, h => by cases d; cases h; rfl
  | t :: ts, _, _, d, h => by
    cases d with
    | cons a d =>
      cases t with
      | int i =>
        cases a
        simp only [intsOf] at h
        cases q : intsOf ts with
        | none => rw [q] at h; cases h
        | some ns => rw [q] at h; cases h; rw [intsOf_dp d q]; rfl
      | _ => cases h
theorem tupsOf_dp {K : PySem.W.Frag} {F : Hp} : ∀ {ts : List T} {xs : List V} {ns : List (List Int)}, DpAll K F xs ts → tupsOf ts = some ns → ∃ ks : List (Addr × List Int), xs = ks.map (fun p => V.ref p.1) ∧ ks.map (·.2) = ns ∧ ∀ p ∈ ks, SqT K F p.1 (p.2.map V.int)
  | [], _, _, d, h => by cases d; cases h; exact ⟨[], rfl, rfl, fun p hp => by cases hp⟩
  | t :: ts, _, _, d, h => by
    cases d with
    | cons a d =>
      cases t with
      | tuple us =>
        simp only [tupsOf] at h
        cases q : intsOf us with
        | none => rw [q] at h; cases h
        | some ms =>
          cases q2 : tupsOf ts with
          | none => rw [q, q2] at h; cases h
          | some ns =>
            rw [q, q2] at h; cases h
            obtain ⟨ks, e1, e2, e3⟩ := tupsOf_dp d q2
            cases a with
            | tup hs dd =>
              rename_i p xs'
              refine ⟨(p, ms) :: ks, by rw [e1]; rfl, by rw [← e2]; rfl, fun p' hp => ?_⟩
              rcases List.mem_cons.mp hp with e | hp
              · subst e; rw [← intsOf_dp dd q]; exact SqT.of hs
              · exact e3 p' hp
      | _ => cases h
def eLenSet (m : SemE) : SemE := fun e => (m e).bind fun r e1 => match r.val e1 with
  | some (.list ts) => (match tupsOf ts with
    | some ns => if ns.length < 64 then .ok (.r (.int ((dd ns).length : Nat))) e1 else .bad
    | none => .bad)
  | _ => .bad
theorem qlenset {p p2 q : Pos} (hc : X.calm = true) (hu : X.A.units + 64 < cLine) (hg : Gl X "len") (hm : X.mg "len" = none) (hg2 : Gl X "set") (hm2 : X.mg "set" = none) (ha : QE X W a ma)
    (na : starEach [a] X.env = (false, eval a X.env) :: starEach [] X.env := by rfl) : QE X W (.Call (.Name "len" p) [.Call (.Name "set" p2) [a] [] q] [] pos) (eLenSet ma) := by
  refine pe_mono (pe_lenSetT hc hu hg hm hg2 hm2 ha na) fun σ H Q h => ?_
  obtain ⟨e, F, R, h⟩ := h
  refine tX_imp (tX_bind (rel := fun σ => OdR X.K σ) R .refl h) fun x H1 ⟨r, e1, F1, R1, S1, O1, h1⟩ => ?_
  split at h1
  · rename_i ts q
    obtain ⟨l, xs, rfl, hs, d⟩ := val_ok R1 O1 q
    cases q2 : tupsOf ts with
    | none => simp only [q2] at h1; exact h1.elim
    | some ns =>
      simp only [q2] at h1
      split at h1
      · rename_i hl
        obtain ⟨ks, e1, e2, e3⟩ := tupsOf_dp d q2
        refine ⟨l, ks, rfl, by rw [← e1]; exact hs, fun p hp => sqT_mono R1.sub (e3 p hp), ?_, ?_⟩
        · have : ks.length = ns.length := by rw [← e2]; simp
          omega
        · rw [e2]; exact h1 _ F1 H1 R1 S1 (.int _)
      · exact h1.elim
  · exact h1.elim
end
end Ev
namespace Ev
open PySem PySem.Spec PyProof.Rows L2
/-! ### the law's end: any world -/
def CXE : CXT := fun outer H s E e s' => ∃ (P : Program) (w : World), L2N.CX P w outer H s E e s'
theorem fnok_cx {P : Program} {w : World} {K : PySem.W.Frag} {mg : Str → Option Value} {base : Heap} {k : Nat} {f : Addr} {fd : FuncData} {ps : List Str} {sp : Sp} (F : FnOk P w K mg base (L2N.CX P w) k f fd ps sp) : FnOk P w K mg base CXE k f fd ps sp :=
  ⟨F.len, fun A outer s H args us vs Q E hr he hb hv hs => codeAny_mono (F.run A outer s H args us vs Q E hr he hb hv hs) fun r s' h => by
    rcases r with e | (_ | _ | _ | _)
    all_goals first | exact h | exact ⟨P, w, h⟩⟩
theorem law_CXE (H : Hp) (s : Shared) (e : Value) (s' : Shared) : CXE [] H s (fun _ _ _ => False) e s' → False := fun ⟨_, _, z⟩ => law_CX H s e s' z
end Ev

set_option Elab.async false
set_option linter.all false
set_option maxRecDepth 100000
namespace L2
open PySem PySem.Spec PyProof.Rows
end L2
namespace Ev
open PySem PySem.Spec PyProof.Rows L2
def iR2w (m : SemA) : SemI := fun e => (m e).bind fun rs e1 => match vals e1 rs with
  | some [.int i, .int j] => .ok (intsT i (j - i).toNat) e1
  | _ => .bad
end Ev
namespace Ev
open PySem PySem.Spec PyProof.Rows L2
end Ev

set_option Elab.async false
set_option linter.all false
set_option maxRecDepth 100000
namespace Ev
open PySem PySem.Spec PyProof.Rows L2
section
variable {K : PySem.W.Frag} {W : WX} {e e1 : En} {σ : Sg} {F H : Hp}
end
/-! ### dicts of one's own: keys ints and texts -/
def keyEq : T → T → Bool
  | .int i, .int j => decide (i = j)
  | .str x, .str y => decide (x = y)
  | _, _ => false
def keyOf : T → Option Key
  | .int i => some (.inl i)
  | .str x => some (.inr x)
  | _ => none
def dLook (kvs : List (T × T)) (k : T) : Option T := (kvs.find? fun q => keyEq q.1 k).map (·.2)
def dPut (kvs : List (T × T)) (k v : T) : List (T × T) := if (kvs.any fun q => keyEq q.1 k) = true then kvs.map (fun q => if keyEq q.1 k = true then (q.1, v) else q) else kvs ++ [(k, v)]
section
variable {X : Cx} {W : WX} {B : Bd} {a b c : Expr} {ma mb mc : SemE} {pos : Pos}
/-- d[k] -/
def eDGet (i : Nat) (mk : SemE) : SemE := fun e => match e[i]? with
  | some (.ow _ (.d _)) => (mk e).bind fun r e1 => match r.val e1, e1[i]? with
    | some t, some (.ow _ (.d kvs)) => (match keyOf t, dLook kvs t with
      | some _, some u => .ok (.r u) e1
      | _, _ => .bad)
    | _, _ => .bad
  | _ => .bad
/-- d[k] = v -/
def sDPutV (i : Nat) (mk mv : SemE) : SemS := fun e => (mv e).bind fun r e1 => match e1[i]? with
  | some (.ow _ (.d _)) => (mk e1).bind fun rk e2 => (match rk.val e2, esc r e2 with
    | some t, some (u, e3) => (match keyOf t, e3[i]? with
      | some _, some (.ow l (.d kvs)) => if kvs.length < sizeLine then .ok .nx (e3.set i (.ow l (.d (dPut kvs t u)))) else .bad
      | _, _ => .bad)
    | _, _ => .bad)
  | _ => .bad
end
section
variable {K : PySem.W.Frag} {e e1 : En} {σ : Sg} {F H F1 H1 : Hp} {p : Addr} {o : HO}
end
section
variable {X : Cx} {W : WX} {B : Bd} {a b c : Expr} {ma mb mc : SemE} {pos : Pos}
end
end Ev

set_option Elab.async false
set_option linter.all false
set_option maxRecDepth 100000
namespace Ev
open PySem PySem.Spec PyProof.Rows L2
/-! ### dicts of one's own: keys tuples of ints and texts -/
def keyOfs : List T → Option (List Key)
  | [] => some []
  | t :: ts => match keyOf t, keyOfs ts with
    | some k, some ks => some (k :: ks)
    | _, _ => none
def keyM : T → Option (List Key)
  | .tuple ts => keyOfs ts
  | _ => none
def mEq (a b : T) : Bool := decide (keyM a = keyM b)
def mLook (kvs : List (T × T)) (k : T) : Option T := (kvs.find? fun q => mEq q.1 k).map (·.2)
def mPut (kvs : List (T × T)) (k v : T) : List (T × T) := if (kvs.any fun q => mEq q.1 k) = true then kvs.map (fun q => if mEq q.1 k = true then (q.1, v) else q) else kvs ++ [(k, v)]
section
variable {X : Cx} {W : WX} {B : Bd} {a b c : Expr} {ma mb mc : SemE} {pos : Pos}
/-- d[k] -/
def eMGet (i : Nat) (mk : SemE) : SemE := fun e => match e[i]? with
  | some (.ow _ (.m _)) => (mk e).bind fun r e1 => match r.val e1, e1[i]? with
    | some t, some (.ow _ (.m kvs)) => (match keyM t, mLook kvs t with
      | some _, some u => .ok (.r u) e1
      | _, _ => .bad)
    | _, _ => .bad
  | _ => .bad
/-- k in d, k not in d -/
def eMIn (neg : Bool) (i : Nat) (mk : SemE) : SemE := fun e => (mk e).bind fun r e1 => match r.val e1, e1[i]? with
  | some t, some (.ow _ (.m kvs)) => (match keyM t with
    | some _ => .ok (.r (.bool (if neg then !(mLook kvs t).isSome else (mLook kvs t).isSome))) e1
    | _ => .bad)
  | _, _ => .bad
/-- k in a dict that is made there and then -/
def eMInE (neg : Bool) (mk md : SemE) : SemE := fun e => (mk e).bind fun r e1 => match r with
  | .r t => (md e1).bind fun rd e2 => (match rd, keyM t with
    | .b (.m kvs), some _ => .ok (.r (.bool (if neg then !(mLook kvs t).isSome else (mLook kvs t).isSome))) e2
    | _, _ => .bad)
  | _ => .bad
/-- d[k] = v -/
def sMPut (i : Nat) (mk mv : SemE) : SemS := fun e => (mv e).bind fun r e1 => match e1[i]? with
  | some (.ow _ (.m _)) => (mk e1).bind fun rk e2 => (match rk.val e2, esc r e2 with
    | some t, some (u, e3) => (match keyM t, e3[i]? with
      | some _, some (.ow l (.m kvs)) => if kvs.length < sizeLine then .ok .nx (e3.set i (.ow l (.m (mPut kvs t u)))) else .bad
      | _, _ => .bad)
    | _, _ => .bad)
  | _ => .bad
/-- {} -/
def eMNew : SemE := fun e => .ok (.b (.m [])) e
/-- the number of keys -/
def eMLen (i : Nat) : SemE := fun e => match e[i]? with
  | some (.ow _ (.m kvs)) => .ok (.r (.int (kvs.length : Int))) e
  | _ => .bad
end
/-! #### {k: v} with a tuple k -/
section
variable {X : Cx} {W : WX} {B : Bd} {a b c : Expr} {ma mb mc : SemE} {pos : Pos}
def eMDict1 (mk mv : SemE) : SemE := fun e => (mk e).bind fun rk e1 => (mv e1).bind fun rv e2 => match rk.val e2, rv with
  | some t, .r u => (match keyM t with
    | some _ => .ok (.b (.m [(t, u)])) e2
    | none => .bad)
  | _, _ => .bad
end
end Ev

set_option Elab.async false
set_option linter.all false
set_option maxRecDepth 100000
namespace Ev
open PySem PySem.Spec PyProof.Rows L2
/-! ### len of a dict with tuple keys -/
section
variable {X : Cx} {W : WX} {B : Bd} {a b c : Expr} {ma mb mc : SemE} {pos : Pos}
end
/-! ### sorted, of trees -/
end Ev

set_option Elab.async false
set_option linter.all false
set_option maxRecDepth 100000
set_option maxHeartbeats 1000000
/-! ### list(zip(t, u)) of two tuples -/
namespace LZ
open PySem PySem.W PySem.Calls PyProof.Rows PyProof.V PySem.Spec
open PySem.Sem (wp)
section
variable {prog : Program} {w : World} {A : Around} {E : Value → Shared → Prop} {s : Shared}
end
/-- the zip before its turn i; the list S stands apart -/
structure ZSt (h : Heap) (z TI TO i1 i2 l1 l2 S : Addr) (xs ys : Array Value) (i : Nat) : Prop where
  zip : (IsZip h z TI TO .none ∧ ∃ a b, IsPair h TO a b) ∨ ∃ (T : Addr) (f : Bool) (oT : Obj), IsZipHeld h z TI TO T f ∧ h.get? T = some oT ∧ T ≠ z ∧ T ≠ i1 ∧ T ≠ i2 ∧ T ≠ S
  tI : IsPair h TI (.ref i1) (.ref i2)
  it1 : h.IsTupleIter i1 l1 i
  it2 : h.IsTupleIter i2 l2 i
  li1 : h.IsTuple l1 xs
  li2 : h.IsTuple l2 ys
structure SApart (z TI TO i1 i2 l1 l2 S : Addr) : Prop where
  z : S ≠ z
  TI : S ≠ TI
  TO : S ≠ TO
  i1 : S ≠ i1
  i2 : S ≠ i2
  l1 : S ≠ l1
  l2 : S ≠ l2
theorem ZSt.up {h h' : Heap} {z TI TO i1 i2 l1 l2 S : Addr} {xs ys : Array Value} {i : Nat} (st : ZSt h z TI TO i1 i2 l1 l2 S xs ys i) (D : SApart z TI TO i1 i2 l1 l2 S) (up : ∀ b o, b ≠ S → h.get? b = some o → h'.get? b = some o) : ZSt h' z TI TO i1 i2 l1 l2 S xs ys i where
  zip := by
    rcases st.zip with ⟨hz, a, b, hTO⟩ | ⟨T, f, oT, hz, hT, n1, n2, n3, n4⟩
    · exact .inl ⟨up _ _ D.z.symm hz, a, b, up _ _ D.TO.symm hTO⟩
    · exact .inr ⟨T, f, oT, up _ _ D.z.symm hz, up _ _ n4 hT, n1, n2, n3, n4⟩
  tI := up _ _ D.TI.symm st.tI
  it1 := st.it1.at fun o e => up _ o D.i1.symm e
  it2 := st.it2.at fun o e => up _ o D.i2.symm e
  li1 := st.li1.at fun o e => up _ o D.l1.symm e
  li2 := st.li2.at fun o e => up _ o D.l2.symm e
section
variable {prog : Program} {w : World} {A : Around} {E : Value → Shared → Prop} {s : Shared}
end
/-- the pairs made so far -/
structure MadeZ (xs ys : Array Value) (lo : Addr) (h : Heap) (as : List Addr) : Prop where
  rise : as.Pairwise (· < ·)
  above : ∀ a ∈ as, lo < a
  pairs : ∀ (j : Nat) (a : Addr), as[j]? = some a → ∃ x y, xs[j]? = some x ∧ ys[j]? = some y ∧ IsPair h a x y
theorem MadeZ.there {xs ys : Array Value} {lo : Addr} {h : Heap} {as : List Addr} (g : MadeZ xs ys lo h as) {a : Addr} (ha : a ∈ as) : a < h.objs.size := by
  obtain ⟨j, hj⟩ := List.mem_iff_getElem?.mp ha
  obtain ⟨_, _, _, _, e⟩ := g.pairs j a hj
  exact Heap.lt_size e
section
variable {prog : Program} {w : World} {A : Around} {s : Shared} {R : Result → Shared → Prop} {xs ys : Array Value}
end
section
variable {prog : Program} {w : World} {A : Around} {E : Value → Shared → Prop} {s : Shared} {xs ys : Array Value}
end
end LZ

set_option Elab.async false
set_option linter.all false
set_option maxRecDepth 100000
set_option maxHeartbeats 1000000
namespace Ev
open PySem PySem.Spec PyProof.Rows L2
/-! ### list(zip(t, u)) -/
section
variable {K : PySem.W.Frag} {W : WX} {e e1 : En} {σ : Sg} {F H H2 : Hp} {as : List Addr}
end
def eListZip (m : SemA) : SemE := fun e => (m e).bind fun rs e1 => match escs rs e1 with
  | some ([.tuple ts, .tuple us], e2) => if ts.length = us.length then .ok (.b (.l (pairs ts us))) e2 else .bad
  | _ => .bad
end Ev

set_option Elab.async false
set_option linter.all false
set_option maxRecDepth 100000
namespace L2
open PySem PySem.Spec PyProof.Rows
/-! ### a dict comprehension whose keys are tuples -/
end L2

set_option Elab.async false
set_option linter.all false
set_option maxRecDepth 100000
namespace Ev
open PySem PySem.Spec PyProof.Rows L2
/-! ### {k: v for target in iter}, k a tuple: a tree at once -/
section
variable {X : Cx} {W : WX} {B : Bd} {a b c : Expr} {ma mb mc : SemE} {pos : Pos}
end
/-! ### sum -/
def intL : List T → Option (List Int)
  | [] => some []
  | .int i :: ts => (intL ts).map (i :: ·)
  | _ :: _ => none
def fSum : T → Option Od
  | .list ts => (intL ts).map fun ns => .r (.int ns.sum)
  | _ => none
abbrev gSum := g1 fSum
end Ev
namespace Ev
open PySem PySem.Spec PyProof.Rows L2
section
variable {X : Cx} {W : WX} {B : Bd} {a : Expr} {ma : SemE} {pos : Pos}
end
end Ev

set_option Elab.async false
set_option linter.all false
set_option maxRecDepth 100000
namespace Ev
open PySem PySem.Spec PyProof.Rows L2
/-! ### dicts whose keys are ints and tuples of such, nested -/
section
variable {X : Cx} {pins : List (Addr × Obj)} {σ : Sg} {F H : Hp} {s : Shared}
end
end Ev

set_option Elab.async false
set_option linter.all false
set_option maxRecDepth 100000
namespace Ev
open PySem PySem.Spec PyProof.Rows L2
section
variable {X : Cx} {W : WX} {B : Bd} {a b c : Expr} {ma mb mc : SemE} {pos : Pos}
/-- {}, to be a dict with nested keys -/
def eNNew : SemE := fun e => .ok (.b (.n [])) e
/-- the number of keys -/
def eNLen (i : Nat) : SemE := fun e => match e[i]? with
  | some (.ow _ (.n kvs)) => .ok (.r (.int (kvs.length : Int))) e
  | _ => .bad
end
/-! ### max(xs), xs a list of ints -/
def top : List Int → Option Int
  | [] => none
  | i :: is => some (is.foldl (fun m y => if m < y then y else m) i)
def fMax1 : T → Option Od
  | .list ts => (intL ts).bind fun ns => (top ns).map fun m => .r (.int m)
  | _ => none
abbrev gMax1 := g1 fMax1
end Ev

set_option Elab.async false
set_option linter.all false
set_option maxRecDepth 100000
namespace Ev
open PySem PySem.Spec PyProof.Rows L2
/-! ### list(range(n)) -/
section
variable {X : Cx}
theorem cr_range1 : CallR X (.type "range") (fun vs H Q => ∃ j, vs = [V.int j] ∧ ∀ p, H p = none → Q (.ref p) (upd H p (.rng 0 j))) := by
  intro pins s σ H vs us Q I r h
  obtain ⟨j, rfl, q⟩ := h
  obtain ⟨u, rfl, t, rfl⟩ := vals1 r
  exact call_range_1 ⟨.ref s.heap.objs.size, upd H s.heap.objs.size (.rng 0 j), I.laid (t' := s.toks + 1 + 1) (fun b o e => Heap.get?_push_of_some _ e) (Nat.le_refl _) ⟨_, _, _, Heap.get?_push_size _ rfl⟩, rfl, q _ (I.hok.fresh (Nat.le_refl _))⟩
def intV (n : Nat) : List V := (List.range n).map fun (i : Nat) => V.int (0 + (i : Int))
theorem vals_of {f : Nat → Int} : ∀ (n k : Nat) (us : List Value), us.length = n → (∀ j v, us[j]? = some v → ∃ t, v = Value.int (f (k + j)) t) → Vals ((List.range' k n).map fun i => V.int (f i)) us
  | 0, _, [], _, _ => .nil
  | n + 1, k, u :: us, hl, h => by
    obtain ⟨t, ht⟩ := h 0 u rfl
    rw [List.range'_succ, List.map_cons]
    exact .cons ⟨t, by simpa using ht⟩ (vals_of n (k + 1) us (by simpa using hl) fun j v e => by
      obtain ⟨t, q⟩ := h (j + 1) v (by simpa using e)
      exact ⟨t, by rw [q]; congr 2; omega⟩)
theorem cr_listrng (hc : X.calm = true) : CallR X (.type "list") (fun vs H Q => ∃ (p : Addr) (n : Nat), vs = [V.ref p] ∧ H p = some (.rng 0 (n : Int)) ∧ n ≤ 2 ^ 16 ∧ ∀ l, H l = none → Q (.ref l) (upd H l (.lst (intV n)))) := by
  intro pins s σ H vs us Q I r h
  obtain ⟨p, n, rfl, hp, hn, q⟩ := h
  obtain ⟨u, rfl, rx⟩ := vals1 r
  cases (show u = Value.ref p from rx)
  obtain ⟨t1, t2, t3, hr⟩ := I.hok _ _ hp
  refine call_list_range (n := n) (I.ok.hd hc) hr (small_one (by omega) (by omega) (by omega) (by omega)) (by rw [rangeSize_one]; split <;> omega) (by omega) fun h' tk acc' c' hk hg hi => ?_
  obtain ⟨hs, hv⟩ := hi
  have vs : Vals (intV n) acc'.toList := by
    unfold intV
    rw [List.range_eq_range']
    refine vals_of (f := fun i => 0 + (i : Int)) n 0 _ (by simpa using hs) fun j v e => ?_
    obtain ⟨t, et⟩ := hv j v (by simpa using e)
    exact ⟨t, by rw [et]; congr 1⟩
  exact ⟨.ref s.heap.objs.size, _, I.laid (a := s.heap.objs.size) (o := .lst (intV n)) (t' := tk) hk (Nat.le_refl _) ⟨by unfold intV; rw [List.length_map, List.length_range, sizeLine_eq]; omega, acc'.toList, c', vs, by simpa using hg⟩, rfl, q _ (I.hok.fresh (Nat.le_refl _))⟩
end
def eListRng (m : SemE) : SemE := fun e => (m e).bind fun r e1 => match r.val e1 with
  | some (.int i) => if 0 ≤ i ∧ i ≤ 2 ^ 16 then .ok (.b (.l (intsT 0 i.toNat))) e1 else .bad
  | _ => .bad
theorem dp_ints {K : PySem.W.Frag} {F : Hp} (n : Nat) : DpAll K F (intV n) (intsT 0 n) := by
  unfold intV intsT
  induction List.range n with
  | nil => exact .nil
  | cons a as ih => exact .cons (.int _) ih
section
variable {X : Cx} {W : WX} {a : Expr} {ma : SemE} {p p2 q pos : Pos}
theorem qlistrng (hc : X.calm = true) (hg : Gl X "list") (hm : X.mg "list" = none) (hg2 : Gl X "range") (hm2 : X.mg "range" = none) (ha : QE X W a ma)
    (hs : starEach [a] X.env = (false, eval a X.env) :: starEach [] X.env := by rfl) (hs2 : starEach [.Call (.Name "range" p2) [a] [] q] X.env = (false, eval (.Call (.Name "range" p2) [a] [] q) X.env) :: starEach [] X.env := by rfl)
    (h1 : (backTo q (starEach ([] : List Expr) X.env)).any (·.1) = false := by rfl) (h2 : (backTo pos (starEach ([] : List Expr) X.env)).any (·.1) = false := by rfl) : QE X W (.Call (.Name "list" p) [.Call (.Name "range" p2) [a] [] q] [] pos) (eListRng ma) := by
  refine pe_mono (pe_callTy (cr_listrng hc) hg hm boot_list (pa_cons (pe_callTy cr_range1 hg2 hm2 boot_range (pa_cons ha pa_nil hs) (by decide) (by decide) hs h1) pa_nil hs2) (by decide) (by decide) hs2 h2) fun σ H Q h => ?_
  obtain ⟨e, F, R, h⟩ := h
  refine tX_imp (tX_bind (rel := fun σ => OdR X.K σ) R .refl h) fun x H1 ⟨r, e1, F1, R1, S1, O1, h1⟩ => ?_
  cases w : r.val e1 with
  | none => simp only [w] at h1; exact h1.elim
  | some t =>
    have d := val_ok R1 O1 w
    cases t with
    | int i =>
      simp only [w] at h1
      split at h1
      · rename_i hi
        cases d
        refine ⟨i, rfl, fun p hp => ⟨p, i.toNat, rfl, by rw [upd_same]; congr 2; omega, by have := hi.2; omega, fun l hl => ?_⟩⟩
        have R2 := laid_own (o := .rng 0 i) R1 hp
        have S2 : Step e1 e1 σ F1 H1 F1 (upd H1 p (.rng 0 i)) := laid_own_step hp
        have R3 := laid_own (o := .lst (intV i.toNat)) R2 hl
        have S3 : Step e1 e1 σ F1 (upd H1 p (.rng 0 i)) F1 (upd (upd H1 p (.rng 0 i)) l (.lst (intV i.toNat))) := laid_own_step hl
        exact h1 _ F1 _ R3 ((S1.trans S2).trans S3) ⟨l, rfl, step_none (S1.trans S2) hl, sub_none R2 hl, intV i.toNat, upd_same, dp_ints _⟩
      · exact h1.elim
    | none => simp only [w] at h1; exact h1.elim
    | bool _ => simp only [w] at h1; exact h1.elim
    | str _ => simp only [w] at h1; exact h1.elim
    | list _ => simp only [w] at h1; exact h1.elim
    | tuple _ => simp only [w] at h1; exact h1.elim
    | dict _ => simp only [w] at h1; exact h1.elim
end
end Ev

set_option Elab.async false
set_option linter.all false
set_option maxRecDepth 100000
namespace Ev
open PySem PySem.Spec PyProof.Rows L2
section
variable {X : Cx} {W : WX} {B : Bd} {a b c : Expr} {ma mb mc : SemE} {pos : Pos}
/-! ### len of a dict whose keys are ints or texts -/
def eDLen (i : Nat) : SemE := fun e => match e[i]? with
  | some (.ow _ (.d kvs)) => .ok (.r (.int (kvs.length : Int))) e
  | _ => .bad
/-! ### x[k], x a dict of its own or a list -/
end
end Ev

set_option Elab.async false
set_option linter.all false
set_option maxRecDepth 100000
namespace Ev
open PySem PySem.Spec PyProof.Rows L2
section
variable {X : Cx} {W : WX} {a b : Expr} {ma mb : SemE} {pos : Pos}
/-! ### [x] * n -/
def eRep (ma mb : SemE) : SemE := fun e => (ma e).bind fun ra e1 => (mb e1).bind fun rb e2 => match ra with
  | .b (.l us) => (match rb.val e2 with
    | some (.int k) => if 0 ≤ k ∧ k ≤ 2 ^ 16 ∧ us.length ≤ 16 then .ok (.b (.l (List.replicate k.toNat us).flatten)) e2 else .bad
    | _ => .bad)
  | _ => .bad
end
end Ev
namespace Ev
open PySem PySem.Spec PyProof.Rows L2
section
variable {X : Cx} {W : WX} {a : Expr} {ma : SemE} {pos : Pos}
/-! ### len of a new dict with tuple keys -/
def eMLenE (m : SemE) : SemE := fun e => (m e).bind fun r e1 => match r with
  | .b (.m kvs) => .ok (.r (.int (kvs.length : Int))) e1
  | _ => .bad
end
end Ev

set_option Elab.async false
set_option linter.all false
set_option maxRecDepth 100000
namespace Ev
open PySem PySem.Spec PyProof.Rows L2
/-! ### dict(xs), xs a list of pairs -/
def pairsOf : List T → Option (List (T × T))
  | [] => some []
  | .tuple [k, v] :: ts => (match keyOf k, pairsOf ts with
    | some _, some r => some ((k, v) :: r)
    | _, _ => none)
  | _ => none
def mergeT (acc kvs : List (T × T)) : List (T × T) := kvs.foldl (fun acc q => dPut acc q.1 q.2) acc
def eDictP (m : SemA) : SemE := fun e => (m e).bind fun rs e1 => match escs rs e1 with
  | some ([.list ts], e2) => (match pairsOf ts with
    | some kvs => .ok (.b (.d (mergeT [] kvs))) e2
    | none => .bad)
  | _ => .bad
section
variable {X : Cx} {W : WX} {B : Bd} {a b c : Expr} {ma mb mc : SemE} {pos : Pos}
/-! ### xs[i], xs[j] = v, w -/
def putS : List (Nat × SemE) → List T → SemS
  | [], [], e => .ok .nx e
  | (i, mk) :: tgs, t :: ts, e => (match e[i]? with
    | some (.ow _ (.l _)) => (mk e).bind fun ri e2 => (match ri.val e2, e2[i]? with
      | some (.int k), some (.ow l (.l us)) => (match ixN us.length k with
        | some j => putS tgs ts (e2.set i (.ow l (.l (us.set j t))))
        | none => .bad)
      | _, _ => .bad)
    | some (.ow _ (.d _)) => (mk e).bind fun ri e2 => (match ri.val e2, e2[i]? with
      | some u, some (.ow l (.d kvs)) => (match keyOf u with
        | some _ => if kvs.length < sizeLine then putS tgs ts (e2.set i (.ow l (.d (dPut kvs u t)))) else .bad
        | none => .bad)
      | _, _ => .bad)
    | _ => .bad)
  | _, _, _ => .bad
def sPutS (tgs : List (Nat × SemE)) (m : SemA) : SemS := fun e => (m e).bind fun rs e1 => match escs rs e1 with
  | some (ts, e2) => if ts.length = tgs.length ∧ ts.length ≤ sizeLine then putS tgs ts e2 else .bad
  | none => .bad
end
end Ev

set_option Elab.async false
set_option linter.all false
set_option maxRecDepth 100000
namespace Ev
open PySem PySem.Spec PyProof.Rows L2
/-! ### wide powers -/
def CPowW (i j : Int) : Prop := 0 ≤ j ∧ j ≤ 100 ∧ i.natAbs.log2 < 1000000
section
variable {X : Cx}
theorem op_powW : OpR X (binaryOp .Pow) (rI CPowW fun i j => .int (i ^ j.toNat)) := opI fun i j _ _ _ _ _ hc q => by
  obtain ⟨h0, h1, h2⟩ := hc
  have hb : Builtin.Int.intBits i ≤ 1000000 := by
    unfold Builtin.Int.intBits
    split <;> omega
  refine pow_int h0 ?_ q
  have h3 : (Builtin.Int.intBits i : Int) * j ≤ 1000000 * j := Int.mul_le_mul_of_nonneg_right (by omega) h0
  omega
end
abbrev gPowW : T → T → Option Od := gII (fun i j => decide (0 ≤ j ∧ j ≤ 100 ∧ i.natAbs.log2 < 1000000)) fun i j => .int (i ^ j.toNat)
theorem does_powW {K : PySem.W.Frag} : Does2 K (rI CPowW fun i j => .int (i ^ j.toNat)) gPowW := does_ii (fun i j h => of_decide_eq_true (p := 0 ≤ j ∧ j ≤ 100 ∧ i.natAbs.log2 < 1000000) h) fun _ _ _ => .int _
theorem gPowW_ok {i j : Int} (h : 0 ≤ j ∧ j ≤ 100 ∧ i.natAbs.log2 < 1000000) : gPowW (.int i) (.int j) = some (.r (.int (i ^ j.toNat))) := by
  simp only [gPowW, gII, h, and_self, decide_true, if_true]
/-! ### zip of two lists or of two tuples -/
def iZip2 (m : SemA) : SemI := fun e => (m e).bind fun rs e1 => match escs rs e1 with
  | some ([.list ts, .list us], e2) => .ok (pairs ts us) e2
  | some ([.tuple ts, .tuple us], e2) => .ok (pairs ts us) e2
  | _ => .bad
end Ev

set_option Elab.async false
set_option linter.all false
set_option maxRecDepth 100000
namespace Ev
open PySem PySem.Spec PyProof.Rows L2
/-! ### a walk over what names hold, which they go on to hold -/
abbrev SemIG := En → Out (List T × (En → Prop))
def WkG (K : PySem.W.Frag) (J : It) (ts : List T) (gd : En → Prop) (σ : Sg) : Prop := ∀ (i : Nat) (e : En) (F H : Hp), Rel K e σ F H → gd e →
  (∀ t, ts[i]? = some t → J.go i H ∧ ∀ x H', J.yld i H x H' → (H' = H ∧ Dp K F x t) ∨ ∃ p vs ws, x = .ref p ∧ H p = none ∧ H' = upd H p (.tup vs) ∧ t = .tuple ws ∧ DpAll K F vs ws) ∧ (ts.length ≤ i → J.stop i H)
abbrev tIG (K : PySem.W.Frag) (W : WX) (m : SemIG) : TI := tX K W (fun σ _ _ _ J p => WkG K J p.1 p.2 σ) m
open Classical in
noncomputable def compSG (gd : En → Prop) (g : SemG) (c : SemT) (m : SemE) (vs : List Nat) : List T → List T → SemE
  | [], acc, e => if gd e then .ok (.b (.l acc)) e else .bad
  | t :: ts, acc, e => if gd e then (match g t (wipeE e vs) with
    | some e1 => (c e1).nx.bind fun k e2 => if k then (m e2).nx.bind fun r e3 => (match esc r e3 with
        | some (u, e4) => if acc.length < sizeLine then compSG gd g c m vs ts (acc ++ [u]) (restE e e4 vs) else .bad
        | none => .bad)
      else compSG gd g c m vs ts acc (restE e e2 vs)
    | none => .bad) else .bad
noncomputable def eCompG (mi : SemIG) (g : SemG) (c : SemT) (m : SemE) (vs : List Nat) : SemE := fun e => (mi e).bind fun p e1 => compSG p.2 g c m vs p.1 [] e1
/-- the reading of a comprehension's walk, from a state on -/
structure CompGN (K : PySem.W.Frag) (W : WX) (F1 : Hp) (gd : En → Prop) (g : SemG) (c : SemT) (m : SemE) (vs : List Nat) (e0 : En) (F0 H0 : Hp) (σ : Sg) (D : Addr) (Q : VK) (ts : List T) (H : Hp) : Prop where
  ex : ∃ e F acc accV, Rel K e σ F H ∧ Step e0 e σ F0 H0 F H ∧ (∀ a o, F1 a = some o → F a = some o) ∧ F D = none ∧ H D = some (.lst accV) ∧ DpAll K F accV acc ∧ OutX K W (OdR K σ) (compSG gd g c m vs ts acc e) e0 σ F0 H0 Q
theorem comp_readG {K : PySem.W.Frag} {W : WX} {mi : SemIG} {g : SemG} {c : SemT} {m : SemE} {vs : List Nat} {σ : Sg} {H : Hp} {Q : VK} (hk : GOk vs g) (h : tE K W (eCompG mi g c m vs) σ H Q) :
    tLc (tIG K W mi) (fun x σ H Q => ∃ B, tG K B vs g x σ H Q) (tT K W0 c) (tE K W0 m) vs σ H Q := by
  obtain ⟨e0, F0, R0, h⟩ := h
  refine tX_imp (tX_bind (rel := fun σ _ _ _ J p => WkG K J p.1 p.2 σ) R0 .refl h) fun J H1 ⟨⟨ts, gd⟩, e1, F1, R1, S1, wk, h1⟩ => ?_
  intro D hD
  have hD0 : H D = none := step_none S1 hD
  have hDF : F1 D = none := sub_none R1 hD
  have ff0 : ∀ a o, F1 a = some o → F1 a = some o := fun _ _ h => h
  refine ⟨fun i n H' => n = ts.length - i ∧ i ≤ ts.length ∧ CompGN K W F1 gd g c m vs e0 F0 H σ D Q (ts.drop i) H', ⟨_, rfl, Nat.zero_le _, ⟨e1, F1, [], [], laid_own R1 hD, S1.trans (laid_own_step hD), ff0, hDF, upd_same, .nil, h1⟩⟩, ?_⟩
  rintro i n H' ⟨rfl, hi, ⟨e2, F2, acc, accV, R2, S2, ff2, hf, hH, d, h2⟩⟩
  have hgd : gd e2 := by
    refine Classical.byContradiction fun z => ?_
    have : compSG gd g c m vs (ts.drop i) acc e2 = .bad := by
      cases ts.drop i with
      | nil => exact if_neg z
      | cons _ _ => exact if_neg z
    rw [this] at h2
    exact h2.elim
  obtain ⟨go, stop⟩ := wk i e2 F2 H' R2 hgd
  by_cases hlt : i < ts.length
  · have ht : ts[i]? = some ts[i] := List.getElem?_eq_getElem hlt
    rw [List.drop_eq_getElem_cons hlt] at h2
    obtain ⟨g1, y1⟩ := go _ ht
    refine .inr ⟨g1, CompGN K W F1 gd g c m vs e0 F0 H σ D Q (ts.drop (i + 1)), fun H3 n => ⟨_, (by omega : ts.length - (i + 1) < ts.length - i), rfl, hlt, n⟩, fun x H3 y => ?_⟩
    simp only [compSG] at h2
    rw [if_pos hgd] at h2
    cases q : g ts[i] (wipeE e2 vs) with
    | none => simp only [q] at h2; exact h2.elim
    | some e3 =>
      simp only [q] at h2
      obtain ⟨l3, a3⟩ := hk _ _ _ q
      have l3 : e3.length = e2.length := l3.trans (wipeE_len e2 vs)
      have D0 : ∀ {e F H3}, Step e0 e σ F0 H F H3 → ¬ Own e σ D := fun S => fresh_not_own R0 S hD0
      -- behind the target
      have next : ∀ (F3 : Hp) (H3 : Hp) (σ2 : Sg), Rel K e2 σ F3 H3 → Step e0 e2 σ F0 H F3 H3 → (∀ a o, F1 a = some o → F3 a = some o) → F3 D = none → H3 D = some (.lst accV) → DpAll K F3 accV acc → Rel K e3 σ2 F3 H3 → Agree vs (wipe σ vs) σ2 →
          wipe σ2 vs = wipe σ vs ∧ tT K W0 c σ2 H3 fun b H4 => if b = true then tE K W0 m σ2 H4 fun y H5 => ∃ acc, H5 D = some (.lst acc) ∧ acc.length < sizeLine ∧ CompGN K W F1 gd g c m vs e0 F0 H σ D Q (ts.drop (i + 1)) (upd H5 D (.lst (acc ++ [y]))) else CompGN K W F1 gd g c m vs e0 F0 H σ D Q (ts.drop (i + 1)) H4 := by
        intro F3 H3 σ2 R3 S3 ff3 hf3 hH3 d3 RB ag
        refine ⟨wipe_agree ag, ?_⟩
        have noD : ¬ Own e3 σ2 D := fun ⟨j, l, b, q1, q2⟩ => by
          have n : j ∉ vs ∧ e2[j]? = some (.ow l b) := by
            by_cases qv : j ∈ vs
            · rcases a3 j with z | ⟨_, t, z⟩
              · rw [q1] at z; exact absurd (wipeE_in qv z.symm) (by intro w; cases w)
              · rw [q1] at z; cases z
            · rcases a3 j with z | ⟨q', _⟩
              · rw [q1, wipeE_out qv] at z; exact ⟨qv, z.symm⟩
              · exact absurd q' qv
          exact D0 S3 ⟨j, l, b, n.2, by rw [← wipe_out n.1, ← ag.2 j n.1]; exact q2⟩
        cases wc : c e3 with
        | bad => rw [wc] at h2; exact h2.elim
        | exc _ _ _ => rw [wc] at h2; exact h2.elim
        | ok k e4 =>
        rw [wc] at h2
        have h4 : OutX K W (OdR K σ) (if k = true then (m e4).nx.bind fun r e5 => (match esc r e5 with
            | some (u, e6) => if acc.length < sizeLine then compSG gd g c m vs (ts.drop (i + 1)) (acc ++ [u]) (restE e2 e6 vs) else .bad
            | none => .bad) else compSG gd g c m vs (ts.drop (i + 1)) acc (restE e2 e4 vs)) e0 σ F0 H Q := h2
        refine tX_nx RB wc fun b F4 H4 R4 S4 eb => ?_
        subst eb
        obtain ⟨hD4, fD4⟩ := S4.keep D _ hH3 noD
        have fD4 := fD4 hf3
        cases b with
        | false =>
          obtain ⟨R', S'⟩ := rest_rel R3 l3 a3 ag R4 S4
          exact ⟨restE e2 e4 vs, F4, acc, accV, R', S3.trans S', fun a o h => S4.ff _ _ (ff3 _ _ h), fD4, hD4, dpAll_mono S4.ff d3, h4⟩
        | true =>
          simp only [if_true] at h4
          rw [if_pos rfl]
          cases wm : m e4 with
          | bad => rw [wm] at h4; exact h4.elim
          | exc _ _ _ => rw [wm] at h4; exact h4.elim
          | ok r e5 =>
          rw [wm] at h4
          have h5 : OutX K W (OdR K σ) (match esc r e5 with
            | some (u, e6) => if acc.length < sizeLine then compSG gd g c m vs (ts.drop (i + 1)) (acc ++ [u]) (restE e2 e6 vs) else .bad
            | none => .bad) e0 σ F0 H Q := h4
          refine tX_nx R4 wm fun y F5 H5 R5 S5 O5 => ?_
          obtain ⟨hD5, fD5⟩ := S5.keep D _ hD4 (fun z => noD (S4.own _ z))
          have fD5 := fD5 fD4
          cases w : esc r e5 with
          | none => simp only [w] at h5; exact h5.elim
          | some te =>
            obtain ⟨u, e6⟩ := te
            simp only [w] at h5
            obtain ⟨F6, R6, S6, d6, _, only⟩ := esc_ok R4 R5 S5 O5 w
            by_cases hl : acc.length < sizeLine
            · rw [if_pos hl] at h5
              obtain ⟨R', S'⟩ := rest_rel R3 l3 a3 ag R6 (S4.trans S6)
              have dd : DpAll K F6 (accV ++ [y]) (acc ++ [u]) := dpAll_app (dpAll_mono (fun a o h => S6.ff _ _ (S4.ff _ _ h)) d3) (.cons d6 .nil)
              have fD6 : F6 D = none := (S6.keep D _ hD4 (fun z => noD (S4.own _ z))).2 fD4
              refine ⟨accV, hD5, by rw [dpAll_len d3]; exact hl, ⟨restE e2 e6 vs, F6, acc ++ [u], accV ++ [y], upd_at R' hD5 fD6 (D0 (S3.trans S')), ?_, fun a o h => S6.ff _ _ (S4.ff _ _ (ff3 _ _ h)), fD6, upd_same, dd, h5⟩⟩
              exact step_upd (S3.trans S') hD0
            · rw [if_neg hl] at h5; exact h5.elim
      have Rw := wipe_rel (vs := vs) R2
      rcases y1 x H3 y with ⟨eH, dx⟩ | ⟨p, xs, ws, ex, hp, eH, et, dx⟩
      · subst eH
        exact ⟨bd0 _ _, wipeE e2 vs, F2, _, e3, Rw, bok0, dx, q, fun σ2 R' _ ag => next F2 _ σ2 R2 S2 ff2 hf hH d R' ag⟩
      · subst eH ex
        have ff3 : ∀ a o, F2 a = some o → upd F2 p (.tup xs) a = some o := fun a o h => by rw [upd_ne (ne_of_none h (sub_none R2 hp))]; exact h
        have nD : D ≠ p := ne_of_none hH hp
        have R3 := laid_frz (o := .tup xs) R2 hp
        have S3 := laid_frz_step (o := .tup xs) R2 S2 hp
        have dd : Dp K (upd F2 p (.tup xs)) (.ref p) ts[i] := by
          rw [et]
          exact .tup upd_same (dpAll_mono ff3 dx)
        exact ⟨bd0 _ _, wipeE e2 vs, _, _, e3, wipe_rel R3, bok0, dd, q, fun σ2 R' _ ag => next _ _ σ2 R3 S3 (fun a o h => ff3 _ _ (ff2 _ _ h)) (by rw [upd_ne nD]; exact hf) (by rw [upd_ne nD]; exact hH) (dpAll_mono ff3 d) R' ag⟩
  · have he : i = ts.length := by omega
    subst he
    rw [List.drop_length] at h2
    rw [show compSG gd g c m vs [] acc e2 = .ok (.b (.l acc)) e2 from if_pos hgd] at h2
    exact .inl ⟨stop (Nat.le_refl _), h2 _ F2 H' R2 S2 ⟨D, rfl, hD0, hf, accV, hH, d⟩⟩

section
variable {X : Cx} {W : WX} {a b c : Expr} {ma mb mc : SemE} {pos : Pos}
theorem qcompG {elt tg iter : Expr} {ifs : List Expr} {scope : Scope} {own : List (Str × Nat)} {vs : List Nat} {mi : SemIG} {g : SemG} {t : SemT} {m : SemE} (hc : X.calm = true) (hN : X.N.Nodup) (hi : PI X tg iter (tIG X.K W mi)) (ok : BlkOk X.N X.env.scope scope own) (hk : GOk vs g) (hvs : own.map (·.2) = vs)
    (hg : ∀ (s : Shared) (H : Hp) (C : Addr) (cl : List (Str × Addr)) (fp : List Addr) (B : Bd), QG (X.blk s H scope (compEnvC scope cl C X.env) fp) B vs tg g) (ht : ∀ (s : Shared) (H : Hp) (C : Addr) (cl : List (Str × Addr)) (fp : List Addr), QTs (X.blk s H scope (compEnvC scope cl C X.env) fp) W0 ifs t)
    (he : ∀ (s : Shared) (H : Hp) (C : Addr) (cl : List (Str × Addr)) (fp : List Addr), QE (X.blk s H scope (compEnvC scope cl C X.env) fp) W0 elt m) (hs : ∀ x, foldedSetIterable iter X.env x = pure x := by intro _; rfl) :
    QE X W (.ListComp elt [⟨tg, iter, ifs, 0⟩] scope pos) (eCompG mi g t m vs) := by
  subst hvs
  exact pe_mono (pe_lc hc hN hi ok (fun s H C cl fp => qg_any (hg s H C cl fp)) ht he hs) fun σ H Q h => comp_readG hk h
/-- zip of two names -/
def seqOf : Sl → Option (List T ⊕ List T)
  | .v (.list ts) => some (.inl ts)
  | .v (.tuple ts) => some (.inr ts)
  | .ow _ (.l ts) => some (.inl ts)
  | .fz (.l ts) => some (.inl ts)
  | _ => none
def iZipV (i j : Nat) : SemIG := fun e => match e[i]?, e[j]? with
  | some si, some sj => (match seqOf si, seqOf sj with
    | some (.inl ts), some (.inl us) => .ok (pairs ts us, fun e' => e'[i]? = some si ∧ e'[j]? = some sj) e
    | some (.inr ts), some (.inr us) => .ok (pairs ts us, fun e' => e'[i]? = some si ∧ e'[j]? = some sj) e
    | _, _ => .bad)
  | _, _ => .bad
theorem seq_l {K : PySem.W.Frag} {F H : Hp} {s : Sl} {o : Option V} {ts : List T} (ff : ∀ a o, F a = some o → H a = some o) (h : RS K F H s o) (q : seqOf s = some (.inl ts)) : ∃ a xs, o = some (.ref a) ∧ SqL K H a xs ∧ DpAll K F xs ts := by
  cases s with
  | un => cases q
  | v t =>
    obtain ⟨x, rfl, d⟩ := h
    cases t with
    | list us => cases q; cases d with | lst h1 h2 => exact ⟨_, _, rfl, sqL_mono ff h1, h2⟩
    | tuple us => cases q
    | _ => cases q
  | ow l b =>
    cases b with
    | l us =>
      cases q
      obtain ⟨p, rfl, _, xs, h1, h2⟩ := h
      exact ⟨p, xs, rfl, SqL.of h1, h2⟩
    | _ => cases q
  | fz b =>
    cases b with
    | l us =>
      cases q
      obtain ⟨x, rfl, d⟩ := h
      cases d with | lst h1 h2 => exact ⟨_, _, rfl, sqL_mono ff h1, h2⟩
    | _ => cases q
theorem seq_r {K : PySem.W.Frag} {F H : Hp} {s : Sl} {o : Option V} {ts : List T} (ff : ∀ a o, F a = some o → H a = some o) (h : RS K F H s o) (q : seqOf s = some (.inr ts)) : ∃ a xs, o = some (.ref a) ∧ SqT K H a xs ∧ DpAll K F xs ts := by
  cases s with
  | un => cases q
  | v t =>
    obtain ⟨x, rfl, d⟩ := h
    cases t with
    | list us => cases q
    | tuple us => cases q; cases d with | tup h1 h2 => exact ⟨_, _, rfl, SqT.of (ff _ _ h1), h2⟩
    | _ => cases q
  | ow l b => cases b <;> cases q
  | fz b => cases b <;> cases q
end
end Ev

set_option Elab.async false
set_option linter.all false
set_option maxRecDepth 100000
namespace Ev
open PySem PySem.Spec PyProof.Rows L2
/-! ### what is never reached -/
section
variable {X : Cx} {W : WX} {B : Bd} {a b c : Expr} {ma mb mc : SemE} {pos : Pos}
/-! ### great products -/
def CMulX (i j : Int) : Prop := i.natAbs.log2 + j.natAbs.log2 < 100000000
theorem CMulX.ok {i j : Int} (h : CMulX i j) : IntMulOk i j := by
  have b : ∀ x : Int, Builtin.Int.intBits x ≤ x.natAbs.log2 + 1 := fun x => by
    unfold Builtin.Int.intBits
    split <;> omega
  have h1 := b i
  have h2 := b j
  have h3 : i.natAbs.log2 + j.natAbs.log2 < 100000000 := h
  have e : bitsLine = 134217728 := by decide
  unfold IntMulOk
  intro z
  rw [Bool.and_eq_true] at z
  have z2 := z.2
  unfold Builtin.Int.intTooBig at z2
  have z3 := of_decide_eq_true z2
  rw [e] at z3
  omega
theorem op_mulX : OpR X (binaryOp .Mult) (rI CMulX fun i j => .int (i * j)) := opI fun _ _ _ _ _ _ _ hc q => mul_int q hc.ok
end
abbrev gMulX : T → T → Option Od := gII (fun i j => decide (i.natAbs.log2 + j.natAbs.log2 < 100000000)) fun i j => .int (i * j)
theorem does_mulX {K : PySem.W.Frag} : Does2 K (rI CMulX fun i j => .int (i * j)) gMulX := does_ii (fun i j h => of_decide_eq_true (p := i.natAbs.log2 + j.natAbs.log2 < 100000000) h) fun _ _ _ => .int _
theorem gMulX_ok {i j : Int} (h : i.natAbs.log2 + j.natAbs.log2 < 100000000) : gMulX (.int i) (.int j) = some (.r (.int (i * j))) := by
  simp only [gMulX, gII, h, decide_true, if_true]
/-! ### ints as texts -/
def fStr : T → Option Od
  | .int i => if i.natAbs.log2 < 1920 then some (.r (.str (toString i))) else none
  | _ => none
abbrev gStr := g1 fStr
theorem does_str {K : PySem.W.Frag} : DoesN K (fun xs H Q => ∃ i, xs = [.int i] ∧ i.natAbs.log2 < 1920 ∧ Q (.str (toString i)) H) gStr := doesN1 fun x t w F H Q ff d hg => by
  cases t with
  | int i =>
    have d' : Dp K F x (.int i) := d
    cases d'
    by_cases hl : i.natAbs.log2 < 1920
    · have e : fStr (.int i) = some (.r (.str (toString i))) := if_pos hl
      rw [e] at hg
      cases hg
      exact ⟨trivial, fun q => ⟨i, rfl, hl, q.1 _ (.str _)⟩⟩
    · have e : fStr (.int i) = none := if_neg hl
      rw [e] at hg
      cases hg
  | _ => cases hg
/-! ### texts joined -/
def strsOf : List T → Option (List Str)
  | [] => some []
  | .str x :: ts => (strsOf ts).map (x :: ·)
  | _ :: _ => none
theorem strs_read {K : PySem.W.Frag} {F : Hp} : ∀ {ts : List T} {xs : List V} {ys : List Str}, DpAll K F xs ts → strsOf ts = some ys → xs = ys.map V.str
  | [], _, _, h, e => by cases h; cases e; rfl
  | t :: ts, _, ys, h, e => by
    cases h with
    | cons a b =>
      cases t with
      | str x =>
        simp only [strsOf] at e
        cases q : strsOf ts with
        | none => rw [q] at e; cases e
        | some zs =>
          rw [q] at e
          cases e
          cases a
          rw [strs_read b q]; rfl
      | _ => cases e
def eJoin (mo m : SemE) : SemE := fun e => (mo e).bind fun ro e0 => match ro with
  | .r (.str sep) => (m e0).bind fun r e1 => (match r.val e1 with
    | some (.list ts) => (match strsOf ts with
      | some ys => if (ys.map (·.length)).sum + ys.length * sep.length ≤ 16777216 then .ok (.r (.str (Txt.join sep ys))) e1 else .bad
      | none => .bad)
    | some (.tuple ts) => (match strsOf ts with
      | some ys => if (ys.map (·.length)).sum + ys.length * sep.length ≤ 16777216 then .ok (.r (.str (Txt.join sep ys))) e1 else .bad
      | none => .bad)
    | _ => .bad)
  | _ => .bad
section
variable {X : Cx} {W : WX} {B : Bd} {a b c : Expr} {ma mb mc : SemE} {pos : Pos}
theorem qjoin {apos : Pos} {o e : Expr} {mo m : SemE} (ho : QE X W o mo) (he : QE X W e m) (hs : starEach [e] X.env = [(false, eval e X.env)] := by rfl) (hbase : attributeBase o "join" X.env (eval o X.env) = eval o X.env := by rfl) (hline : (apos.endLine == pos.line) = true := by rfl) :
    QE X W (.Call (.Attribute o "join" apos) [e] [] pos) (eJoin mo m) := by
  refine pe_mono (pe_join ho he hs hbase hline) fun σ H Q h => ?_
  obtain ⟨e0, F0, R0, h⟩ := h
  refine tX_imp (tX_bind (rel := fun σ => OdR X.K σ) R0 .refl h) fun x H1 ⟨r, e1, F1, R1, S1, O1, h1⟩ => ?_
  split at h1
  · rename_i sep
    cases (show Dp X.K F1 x (.str sep) from O1)
    refine ⟨⟨_, rfl⟩, tX_imp (tX_bind (rel := fun σ => OdR X.K σ) R1 S1 h1) fun y H2 ⟨r2, e2, F2, R2, S2, O2, h2⟩ => ?_⟩
    have S12 := S1.trans S2
    split at h2
    · rename_i ts q
      obtain ⟨p, xs, rfl, hl, hd⟩ := val_ok R2 O2 q
      split at h2
      · rename_i ys q2
        split at h2
        · rename_i hz
          have ex := strs_read hd q2
          subst ex
          exact ⟨sep, p, ys, rfl, rfl, .inl hl, hz, h2 _ F2 H2 R2 S12 (.str _)⟩
        · exact h2.elim
      · exact h2.elim
    · rename_i ts q
      have dd : Dp X.K F2 y (.tuple ts) := val_ok R2 O2 q
      cases dd with
      | tup hl hd =>
        split at h2
        · rename_i ys q2
          split at h2
          · rename_i hz
            have ex := strs_read hd q2
            subst ex
            exact ⟨sep, _, ys, rfl, rfl, .inr (SqT.of (R2.sub _ _ hl)), hz, h2 _ F2 H2 R2 S12 (.str _)⟩
          · exact h2.elim
        · exact h2.elim
    · exact h2.elim
  · exact h1.elim
/-! ### f-strings -/
def eFmt (m : SemE) : SemE := fun e => (m e).bind fun r e1 => match r.val e1 with
  | some (.str y) => if y.length ≤ sizeLine then .ok (.r (.str y)) e1 else .bad
  | some (.int i) => if i.natAbs.log2 < 1920 then .ok (.r (.str (toString i))) e1 else .bad
  | _ => .bad
theorem qfmt {m : SemE} (h : QE X W a m) : QE X W (.FormattedValue a (-1) none pos) (eFmt m) := by
  refine pe_mono (pe_fmt h) fun σ H Q h => ?_
  obtain ⟨e0, F0, R0, h⟩ := h
  refine tX_imp (tX_bind (rel := fun σ => OdR X.K σ) R0 .refl h) fun x H1 ⟨r, e1, F1, R1, S1, O1, h1⟩ => ?_
  split at h1
  · rename_i y q
    have d : Dp X.K F1 x (.str y) := val_ok R1 O1 q
    cases d
    split at h1
    · rename_i hz; exact .inl ⟨y, rfl, hz, h1 _ F1 H1 R1 S1 (.str _)⟩
    · exact h1.elim
  · rename_i i q
    have d : Dp X.K F1 x (.int i) := val_ok R1 O1 q
    cases d
    split at h1
    · rename_i hz; exact .inr ⟨i, rfl, hz, h1 _ F1 H1 R1 S1 (.str _)⟩
    · exact h1.elim
  · exact h1.elim
def eJs : List SemE → Str → SemE
  | [], acc, e => .ok (.r (.str acc)) e
  | m :: ms, acc, e => (m e).bind fun r e1 => match r with
    | .r (.str y) => if (acc ++ y).length ≤ sizeLine then eJs ms (acc ++ y) e1 else .bad
    | _ => .bad
theorem js_read {K : PySem.W.Frag} {Q : VK} : ∀ (ms : List SemE) (acc : Str) {e0 e : En} {σ : Sg} {F0 H0 F H : Hp}, Rel K e σ F H → Step e0 e σ F0 H0 F H → OutX K W (OdR K σ) (eJs ms acc e) e0 σ F0 H0 Q → tJs (ms.map (tE K W)) acc σ H fun out H1 => Q (.str out) H1
  | [], acc, _, e, σ, _, _, F, H, R, S, h => h (.str acc) F H R S (.str _)
  | m :: ms, acc, e0, e, σ, F0, H0, F, H, R, S, h => by
    show tE K W m σ H _
    refine tX_imp (tX_bind (rel := fun σ => OdR K σ) R S h) fun x H1 ⟨r, e1, F1, R1, S1, O1, h1⟩ => ?_
    split at h1
    · rename_i y
      cases (show Dp K F1 x (.str y) from O1)
      split at h1
      · rename_i hz
        exact ⟨y, rfl, hz, js_read ms (acc ++ y) R1 (S.trans S1) h1⟩
      · exact h1.elim
    · exact h1.elim
abbrev QJ (X : Cx) (W : WX) (es : List Expr) (ms : List SemE) : Prop := PJ X es (ms.map (tE X.K W))
theorem qjnil : QJ X W [] [] := .nil
theorem qjcons {es : List Expr} {m : SemE} {ms : List SemE} (h : QE X W a m) (r : QJ X W es ms) : QJ X W (a :: es) (m :: ms) := .cons h r
theorem qjoined {v1 v2 : Expr} {rest : List Expr} {ms : List SemE} (h : QJ X W (v1 :: v2 :: rest) ms) : QE X W (.JoinedStr (v1 :: v2 :: rest) pos) (eJs ms Str.empty) :=
  pe_mono (pe_joined h) fun σ H Q ⟨e, F, R, h⟩ => js_read ms Str.empty R .refl h
end
end Ev
namespace L2
open PySem PySem.Spec PyProof.Rows
/-- as walk_ofE, the bits told -/
theorem walk_ofEB {l : PySem.W.OpenLaw} {n k : Nat} {q : Program} {loose : List Str} {XP : (Str → Option Value) → Heap → Prop} {YP : World → Heap → Prop} {d : DefRec} {CX : CXT} {x : Str}
    (hn : l.most = some n) (hn2 : n ≤ sizeLine) (hdf : d.params.defaults = []) (hr : Room k callerA)
    (F : ∀ (w : World) (mg : Str → Option Value) (fa : Addr) (h : Heap), YP w h → h.Ns mainGlobals mg → mg d.name = some (.ref fa) →
      ∃ (K : PySem.W.Frag) (fd : FuncData) (sp : Sp), K.In h ∧ (∀ (s : Shared) (u : Value), BindsTo s fd ⟨[u], []⟩ [(x, u)]) ∧
        (∀ (H : Hp) (a : Addr) (ns : List Int), ns.length ≤ n → (∀ k ∈ ns, Builtin.Int.intBits k ≤ 1048576) → Only H → SqL K H a (ns.map V.int) → sp [.ref a] H (fun v _ => v = .bl true) fun _ _ _ => False) ∧
        ∀ base : Heap, K.In base → base.Ns mainGlobals mg → FnOk l.prog w K mg base CX k fa fd [x] sp)
    (hCX : ∀ (H : Hp) (s : Shared) (e : Value) (s' : Shared), CX [] H s (fun _ _ _ => False) e s' → False) :
    PySem.W.WalkO q loose XP YP l.row.toRowW d [] (fun f vs => PySem.call f vs) := by
  refine Att.attach_callB hn hdf fun w s₀ s₁ mg mb fa o pm cd doc a vs ns G Y ho hd hcd hmg hobj hints hlen hbits hg => ?_
  obtain ⟨K, fd, sp, KX, hb, hsp, hF⟩ := F w mg fa _ Y G.T.g hmg
  exact law_call KX G.T.g G.T.b G.T.builtins G.T.nolimit hg hobj hints (Nat.le_trans hlen hn2) hr hF hb (fun H hO hS => hsp H a ns hlen hbits hO hS) fun H e s' => hCX H s₁ e s'
end L2

set_option Elab.async false
set_option linter.all false
set_option maxRecDepth 100000
namespace Ev
open PySem PySem.Spec PyProof.Rows L2
/-! ### a walk over what one name holds, which it goes on to hold -/
def iNmG (i : Nat) : SemIG := fun e => match e[i]? with
  | some si => (match seqOf si with
    | some (.inl ts) => .ok (ts, fun e' => e'[i]? = some si) e
    | some (.inr ts) => .ok (ts, fun e' => e'[i]? = some si) e
    | none => .bad)
  | none => .bad
section
variable {X : Cx} {W : WX}
theorem qinmG {tg : Expr} {i : Nat} {x : Str} {px : Pos} (hN : X.N[i]? = some x) (hv : Vis X.env.scope x) (hd : (x == ("__debug__" : Str)) = false := by decide) (hcd : (x == ("__classdict__" : Str)) = false := by decide) :
    PI X tg (.Name x px) (tIG X.K W (iNmG i)) := by
  refine pi_mono (pi_seq (pe_var hN hv hd hcd)) fun σ H Q h => ?_
  obtain ⟨e, F, R, h⟩ := h
  unfold iNmG at h
  split at h
  · rename_i si q1
    obtain ⟨o1, k1, r1⟩ := R.var q1
    split at h
    · rename_i ts w1
      obtain ⟨a, xs, rfl, h1, d1⟩ := seq_l R.sub r1 w1
      refine ⟨_, k1, a, rfl, .inl ⟨⟨xs, h1⟩, h _ F H R .refl fun n e' F' H' R' g1 => ?_⟩⟩
      obtain ⟨o3, k3, r3⟩ := R'.var g1
      rw [k1] at k3; cases k3
      obtain ⟨a', xs', ea, h1', d1'⟩ := seq_l R'.sub r3 w1
      cases ea
      refine ⟨fun t ht => ?_, fun hi => ⟨xs', h1', by rw [dpAll_len d1']; exact hi⟩⟩
      obtain ⟨v, hv, dv⟩ := dpAll_get d1' ht
      refine ⟨⟨xs', v, h1', hv⟩, fun x H'' ⟨eH, y⟩ => .inl ⟨eH, ?_⟩⟩
      have := y xs' h1'
      rw [hv] at this; cases this
      exact dv
    · rename_i ts w1
      obtain ⟨a, xs, rfl, h1, d1⟩ := seq_r R.sub r1 w1
      refine ⟨_, k1, a, rfl, .inr ⟨⟨xs, h1⟩, h _ F H R .refl fun n e' F' H' R' g1 => ?_⟩⟩
      obtain ⟨o3, k3, r3⟩ := R'.var g1
      rw [k1] at k3; cases k3
      obtain ⟨a', xs', ea, h1', d1'⟩ := seq_r R'.sub r3 w1
      cases ea
      refine ⟨fun t ht => ?_, fun hi => ⟨xs', h1', by rw [dpAll_len d1']; exact hi⟩⟩
      obtain ⟨v, hv, dv⟩ := dpAll_get d1' ht
      refine ⟨⟨xs', v, h1', hv⟩, fun x H'' ⟨eH, y⟩ => .inl ⟨eH, ?_⟩⟩
      have := y xs' h1'
      rw [hv] at this; cases this
      exact dv
    · exact h.elim
  · exact h.elim
end
/-! ### the length of a text -/
def fLenS : T → Option Od
  | .str z => if z.length ≤ sizeLine then some (.r (.int z.length)) else none
  | _ => none
abbrev gLenS := g1 fLenS
theorem does_lenS {K : PySem.W.Frag} : DoesN K (fun xs H Q => ∃ z, xs = [.str z] ∧ z.length ≤ sizeLine ∧ Q (.int z.length) H) gLenS := doesN1 fun x t w F H Q ff d hg => by
  cases t with
  | str z =>
    by_cases hl : z.length ≤ sizeLine
    · have e : fLenS (.str z) = some (.r (.int z.length)) := if_pos hl
      rw [e] at hg
      cases hg
      cases d
      exact ⟨trivial, fun q => ⟨z, rfl, hl, q.1 _ (.int _)⟩⟩
    · have e : fLenS (.str z) = none := if_neg hl
      rw [e] at hg
      cases hg
  | _ => cases hg
theorem gLenS_ok {z : Str} (h : z.length ≤ sizeLine) : gLenS [.str z] = some (.r (.int z.length)) := if_pos h
end Ev

set_option Elab.async false
set_option linter.all false
set_option maxRecDepth 100000
namespace Ev
open PySem PySem.Spec PyProof.Rows L2
/-! ### a list of lists that are grown one by one -/
section
variable {K : PySem.W.Frag} {W : WX} {B : Bd} {e e' : En} {σ σ' : Sg} {F H F' H' : Hp} {i : Nat} {p : Addr}
end
structure Gd (H0 F H : Hp) (D : Addr) (gs : List (List Int)) (qs : List Addr) : Prop where
  len : qs.length = gs.length
  d0 : H0 D = none
  q0 : ∀ q ∈ qs, H0 q = none
  nd : qs.Nodup
  dq : D ∉ qs
  fd : F D = none
  fq : ∀ q ∈ qs, F q = none
  hd : H D = some (.lst (qs.map .ref))
  hq : ∀ (j : Nat) (q : Addr) (ns : List Int), qs[j]? = some q → gs[j]? = some ns → H q = some (.lst (ns.map .int))
  up : ∀ a o, H0 a = some o → H a = some o
theorem Gd.sm {H0 F H : Hp} {D : Addr} {gs : List (List Int)} {qs : List Addr} (g : Gd H0 F H D gs qs) {q : Addr} (h : q ∈ qs) : ∃ o, H q = some o := by
  obtain ⟨j, hj⟩ := List.getElem?_of_mem h
  have hl : j < gs.length := by rw [← g.len]; exact (List.getElem?_eq_some_iff.mp hj).1
  exact ⟨_, g.hq j q _ hj (List.getElem?_eq_getElem hl)⟩
/-- nothing that stands is changed -/
theorem Gd.on {H0 F H F' H' : Hp} {D : Addr} {gs : List (List Int)} {qs : List Addr} (g : Gd H0 F H D gs qs) (k : ∀ a o, H a = some o → H' a = some o ∧ (F a = none → F' a = none)) : Gd H0 F' H' D gs qs where
  len := g.len
  d0 := g.d0
  q0 := g.q0
  nd := g.nd
  dq := g.dq
  fd := (k _ _ g.hd).2 g.fd
  fq := fun q hq => by obtain ⟨o, ho⟩ := g.sm hq; exact (k _ _ ho).2 (g.fq q hq)
  hd := (k _ _ g.hd).1
  hq := fun j q ns h1 h2 => (k _ _ (g.hq j q ns h1 h2)).1
  up := fun a o h => (k _ _ (g.up a o h)).1
end Ev

set_option Elab.async false
set_option linter.all false
set_option maxRecDepth 100000
namespace Ev
open PySem PySem.Spec PyProof.Rows L2
/-! ### methods of texts -/
def eSM1 (f : Str → Str → Option Od) (mo m : SemE) : SemE := fun e => (mo e).bind fun ro e0 => match ro with
  | .r (.str a) => (m e0).bind fun r e1 => (match r with
    | .r (.str b) => (match f a b with
      | some w => .ok w e1
      | none => .bad)
    | _ => .bad)
  | _ => .bad
def eSM0 (f : Str → Option Od) (mo : SemE) : SemE := fun e => (mo e).bind fun ro e0 => match ro with
  | .r (.str a) => (match f a with
    | some w => .ok w e0
    | none => .bad)
  | _ => .bad
def SM1 (K : PySem.W.Frag) (r : V → List V → Hp → VK → Prop) (f : Str → Str → Option Od) : Prop := ∀ a b w F H (Q : VK), f a b = some w → Back w ∧ (Fin K F H Q w → r (.str a) [.str b] H Q)
def SM0 (K : PySem.W.Frag) (r : V → List V → Hp → VK → Prop) (f : Str → Option Od) : Prop := ∀ a w F H (Q : VK), f a = some w → Back w ∧ (Fin K F H Q w → r (.str a) [] H Q)
section
variable {X : Cx} {W : WX} {B : Bd} {a b c : Expr} {ma mb mc : SemE} {pos : Pos}
theorem qsm1 {id : String} {name : Str} {apos : Pos} {o e : Expr} {mo m : SemE} {r : V → List V → Hp → VK → Prop} {f : Str → Str → Option Od} (slot : Slot "str" name id) (ty : typeOf (.builtin id) = pure (.type "method_descriptor")) (rule : MtR X id r) (hr : SM1 X.K r f) (ho : QE X W o mo) (he : QE X W e m)
    (hs : starEach [e] X.env = [(false, eval e X.env)] := by rfl) (hbase : attributeBase o name X.env (eval o X.env) = eval o X.env := by rfl) (hline : (apos.endLine == pos.line) = true := by rfl) :
    QE X W (.Call (.Attribute o name apos) [e] [] pos) (eSM1 f mo m) := by
  refine pe_mono (pe_m1 slot ty rule ho he hs hbase hline) fun σ H Q h => ?_
  obtain ⟨e0, F0, R0, h⟩ := h
  refine tX_imp (tX_bind (rel := fun σ => OdR X.K σ) R0 .refl h) fun x H1 ⟨r1, e1, F1, R1, S1, O1, h1⟩ => ?_
  split at h1
  · rename_i a
    cases (show Dp X.K F1 x (.str a) from O1)
    refine ⟨⟨_, rfl⟩, tX_imp (tX_bind (rel := fun σ => OdR X.K σ) R1 S1 h1) fun y H2 ⟨r2, e2, F2, R2, S2, O2, h2⟩ => ?_⟩
    split at h2
    · rename_i b
      cases (show Dp X.K F2 y (.str b) from O2)
      split at h2
      · rename_i w q
        obtain ⟨bk, go⟩ := hr a b w F2 H2 Q q
        exact go (fin_of R2 (S1.trans S2) h2 bk)
      · exact h2.elim
    · exact h2.elim
  · exact h1.elim
theorem qsm0 {id : String} {name : Str} {apos : Pos} {o : Expr} {mo : SemE} {r : V → List V → Hp → VK → Prop} {f : Str → Option Od} (slot : Slot "str" name id) (ty : typeOf (.builtin id) = pure (.type "method_descriptor")) (rule : MtR X id r) (hr : SM0 X.K r f) (ho : QE X W o mo)
    (hbase : attributeBase o name X.env (eval o X.env) = eval o X.env := by rfl) (hline : (apos.endLine == pos.line) = true := by rfl) :
    QE X W (.Call (.Attribute o name apos) [] [] pos) (eSM0 f mo) := by
  refine pe_mono (pe_m0 slot ty rule ho hbase hline) fun σ H Q h => ?_
  obtain ⟨e0, F0, R0, h⟩ := h
  refine tX_imp (tX_bind (rel := fun σ => OdR X.K σ) R0 .refl h) fun x H1 ⟨r1, e1, F1, R1, S1, O1, h1⟩ => ?_
  split at h1
  · rename_i a
    cases (show Dp X.K F1 x (.str a) from O1)
    refine ⟨⟨_, rfl⟩, ?_⟩
    split at h1
    · rename_i w q
      obtain ⟨bk, go⟩ := hr a w F1 H1 Q q
      exact go (fin_of R1 S1 h1 bk)
    · exact h1.elim
  · exact h1.elim
end
def fSplit (a b : Str) : Option Od := if (b.length == 0) = false ∧ a.length + 2 ≤ sizeLine then some (.b (.l ((Txt.split a b).map .str))) else none
def fStarts (a b : Str) : Option Od := some (.r (.bool (Txt.startswith a b)))
def fAscii (a : Str) : Option Od := some (.r (.bool (Txt.isascii a)))
def fDigit (a : Str) : Option Od := some (.r (.bool (Txt.isdigit a)))
theorem dp_strs {K : PySem.W.Frag} {F : Hp} : ∀ ys : List Str, DpAll K F (ys.map V.str) (ys.map PyData.str)
  | [] => .nil
  | y :: ys => .cons (.str y) (dp_strs ys)
theorem sm_split {K : PySem.W.Frag} : SM1 K (fun x xs H Q => ∃ a b, x = .str a ∧ xs = [.str b] ∧ (b.length == 0) = false ∧ a.length + 2 ≤ sizeLine ∧ rNewStrs (Txt.split a b) H Q) fSplit := fun a b w F H Q h => by
  unfold fSplit at h
  split at h
  · rename_i c
    cases h
    exact ⟨trivial, fun k => ⟨a, b, rfl, rfl, c.1, c.2, fun p hp => k p _ hp (dp_strs _)⟩⟩
  · cases h
theorem sm_starts {K : PySem.W.Frag} : SM1 K (fun x xs H Q => ∃ a b, x = .str a ∧ xs = [.str b] ∧ Q (.bl (Txt.startswith a b)) H) fStarts := fun a b w F H Q h => by
  cases h
  exact ⟨trivial, fun k => ⟨a, b, rfl, rfl, k.1 _ (.bl _)⟩⟩
theorem sm_ascii {K : PySem.W.Frag} : SM0 K (fun x xs H Q => ∃ a, x = .str a ∧ xs = [] ∧ True ∧ Q (.bl (Txt.isascii a)) H) fAscii := fun a w F H Q h => by
  cases h
  exact ⟨trivial, fun k => ⟨a, rfl, rfl, trivial, k.1 _ (.bl _)⟩⟩
theorem sm_digit {K : PySem.W.Frag} : SM0 K (fun x xs H Q => ∃ a, x = .str a ∧ xs = [] ∧ True ∧ Q (.bl (Txt.isdigit a)) H) fDigit := fun a w F H Q h => by
  cases h
  exact ⟨trivial, fun k => ⟨a, rfl, rfl, trivial, k.1 _ (.bl _)⟩⟩
/-! ### int(text) -/
def fIntT : T → Option Od
  | .str a => (match intText? a with
    | some n => if a.length ≤ 640 then some (.r (.int n)) else none
    | none => none)
  | _ => none
abbrev gIntT := g1 fIntT
theorem does_intT {K : PySem.W.Frag} : DoesN K (fun xs H Q => ∃ a n, xs = [.str a] ∧ PySem.intText? a = some n ∧ a.length ≤ 640 ∧ Q (.int n) H) gIntT := doesN1 fun x t w F H Q ff d hg => by
  cases t with
  | str a =>
    have d' : Dp K F x (.str a) := d
    cases d'
    simp only [fIntT] at hg
    split at hg
    · rename_i n q
      split at hg
      · rename_i hl
        cases hg
        exact ⟨trivial, fun k => ⟨a, n, rfl, q, hl, k.1 _ (.int _)⟩⟩
      · cases hg
    · cases hg
  | _ => cases hg
/-! ### one sign in a text -/
def gInS : T → T → Option Od
  | .str c, .str z => (match c.cps.toList with
    | [k] => some (.r (.bool (decide (k ∈ z.cps.toList))))
    | _ => none)
  | _, _ => none
theorem does_inS {K : PySem.W.Frag} : Does2 K rInS gInS := by
  intro x y t u w F H Q ff dx dy h
  cases t with
  | str c =>
    cases u with
    | str z =>
      simp only [gInS] at h
      split at h
      · rename_i k q
        cases h
        have dx : Dp K F x (.str c) := dx
        have dy : Dp K F y (.str z) := dy
        cases dx
        cases dy
        have ec : c = ⟨#[k]⟩ := Str.ext' (Array.toList_inj.mp q)
        exact ⟨trivial, fun g => ⟨k, z, by rw [ec], rfl, g.1 _ (.bl _)⟩⟩
      · cases h
    | _ => cases h
  | _ => cases h
/-! ### a part of a text -/
def eSlS (m : SemE) (lo hi : SemP) : SemE := fun e => (m e).bind fun r e1 => match r with
  | .r (.str z) => (lo e1).bind fun l e2 => (hi e2).bind fun h e3 => if z.length ≤ sizeLine then .ok (.r (.str (cutS z l h))) e3 else .bad
  | _ => .bad
section
variable {X : Cx} {W : WX} {B : Bd} {a b c : Expr} {ma mb mc : SemE} {pos : Pos}
theorem qslS {lo hi : Option Expr} {ml mh : SemP} {p2 : Pos} (ha : QE X W a ma) (hl : QP X W lo ml) (hu : QP X W hi mh) : QE X W (.Subscript a (.Slice lo hi none p2) pos) (eSlS ma ml mh) := by
  refine pe_mono (pe_slice sl_str ha hl hu) fun σ H Q h => ?_
  obtain ⟨e, F, R, h⟩ := h
  refine tX_imp (tX_bind (rel := fun σ => OdR X.K σ) R .refl h) fun x H1 ⟨r, e1, F1, R1, S1, O1, h1⟩ => ?_
  split at h1
  · rename_i z
    cases (show Dp X.K F1 x (.str z) from O1)
    refine tX_imp (tX_bind (rel := fun _ _ _ _ (x : Option Int) r => x = r) R1 S1 h1) fun l H2 ⟨l', e2, F2, R2, S2, El, h2⟩ => ?_
    refine tX_imp (tX_bind (rel := fun _ _ _ _ (x : Option Int) r => x = r) R2 (S1.trans S2) h2) fun u H3 ⟨u', e3, F3, R3, S3, Eu, h3⟩ => ?_
    subst El Eu
    split at h3
    · rename_i hz
      exact ⟨z, rfl, hz, h3 _ F3 H3 R3 ((S1.trans S2).trans S3) (.str _)⟩
    · exact h3.elim
  · exact (h1 : False).elim
/-! ### a number that the module holds -/
theorem qgint {x : Str} {i : Int} {p : Pos} (hg : Gl X x) (hm : ∃ t, X.mg x = some (.int i t)) (hd : (x == ("__debug__" : Str)) = false := by decide) : QE X W (.Name x p) (eK (.int i)) := by
  obtain ⟨t, hm⟩ := hm
  exact pe_mono (pe_glob (v := .int i) hg hm ⟨t, rfl⟩ hd) fun σ H Q ⟨e, F, R, h⟩ => h _ F H R .refl (.int i)
end
/-! ### xs.extend(a tuple) -/
def MutDoes2 (K : PySem.W.Frag) (r : V → List V → Hp → VK → Prop) (g : List T → List T → Option (List T × T)) : Prop :=
  ∀ (p : Addr) (xs vs : List V) (ts us : List T) (ts' : List T) (w : T) (F H : Hp) (Q : VK), (∀ a o, F a = some o → H a = some o) → H p = some (.lst xs) → DpAll K F xs ts → DpAll K F vs us → g ts us = some (ts', w) →
    (∀ xs' v, DpAll K F xs' ts' → Dp K F v w → Q v (upd H p (.lst xs'))) → r (.ref p) vs H Q
section
variable {X : Cx} {W : WX} {a b c : Expr} {ma mb mc : SemE} {pos : Pos}
theorem mut_read2 {K : PySem.W.Frag} {i : Nat} {r : V → List V → Hp → VK → Prop} {g : List T → List T → Option (List T × T)} {m : SemA} (hr : MutDoes2 K r g) {σ : Sg} {H : Hp} {Q : VK} (h : tE K W (eMut i g m) σ H Q) :
    ∃ p, σ[i]? = some (some (.ref p)) ∧ (∃ xs, SqL K H p xs) ∧ tA K W m σ H fun vs H2 => r (.ref p) vs H2 Q := by
  obtain ⟨e, F, R, h⟩ := h
  simp only [eMut] at h
  cases q : e[i]? with
  | none => rw [q] at h; exact h.elim
  | some s =>
    rw [q] at h
    cases s with
    | un => exact h.elim
    | v _ => exact h.elim
    | fz _ => exact h.elim
    | ow l z =>
      cases z with
      | d _ => exact h.elim
      | m _ => exact h.elim
      | n _ => exact h.elim
      | l ts0 =>
        simp only at h
        obtain ⟨o, hs, p, ep, hf, xs0, hx0, d0⟩ := R.var q
        subst ep
        refine ⟨p, hs, ⟨xs0, SqL.of hx0⟩, ?_⟩
        refine tX_imp (tX_bind (rel := fun σ Hs F H xs rs => OdsR K σ Hs F H rs xs) R .refl h) fun vs H1 ⟨rs, e1, F1, R1, S1, O1, h1⟩ => ?_
        cases q1 : escs rs e1 with
        | none => simp only [q1] at h1; exact h1.elim
        | some te =>
          obtain ⟨us, e2⟩ := te
          simp only [q1] at h1
          obtain ⟨F2, R2, S2, d2, _⟩ := escs_ok R R1 S1 O1 q1
          cases q2 : e2[i]? with
          | none => rw [q2] at h1; exact h1.elim
          | some s2 =>
            rw [q2] at h1
            cases s2 with
            | un => exact h1.elim
            | v _ => exact h1.elim
            | fz _ => exact h1.elim
            | ow l2 z2 =>
              cases z2 with
              | d _ => exact h1.elim
              | m _ => exact h1.elim
              | n _ => exact h1.elim
              | l ts =>
                simp only at h1
                obtain ⟨p', ep, hf2, xs, hx, d⟩ := R2.at_ i _ _ q2 hs
                cases ep
                cases q3 : g ts us with
                | none => rw [q3] at h1; exact h1.elim
                | some tw =>
                  obtain ⟨ts', w⟩ := tw
                  rw [q3] at h1
                  refine hr p xs vs ts us ts' w F2 H1 Q R2.sub hx d d2 q3 fun xs' v d' dw => ?_
                  obtain ⟨R3, S3⟩ := upd_own R2 q2 hs d'
                  exact h1 v F2 _ R3 (S2.trans S3) dw
theorem qmeth2 {i : Nat} {x name : Str} {p apos cpos : Pos} {id : String} {r : V → List V → Hp → VK → Prop} {g : List T → List T → Option (List T × T)} {m : SemA} {es : List Expr} (slot : Slot "list" name id) (hty : typeOf (.builtin id) = pure (.type "method_descriptor")) (hm : MtR X id r) (hr : MutDoes2 X.K r g)
    (hN : X.N[i]? = some x) (hv : Vis X.env.scope x) (ha : QA X W (a :: es) m) (hd : (x == ("__debug__" : Str)) = false := by decide) (hcd : (x == ("__classdict__" : Str)) = false := by decide)
    (hbase : attributeBase (.Name x p) name X.env (eval (.Name x p) X.env) = eval (.Name x p) X.env := by rfl)
    (hfew : ((backTo cpos (starEach (a :: es) X.env)).all (fun x => !x.1) && (backToKw cpos (keywordEach [] X.env)).all (fun x => x.1.isSome)
      && decide ((a :: es).length + ([] : List Keyword).length + (if ([] : List Keyword).isEmpty then 0 else 1) < 30)) = true := by rfl)
    (hline : (apos.endLine == cpos.line) = true := by rfl) (hs : starEach (a :: es) X.env = (false, eval a X.env) :: starEach es X.env := by rfl) (hplain : (backTo cpos (starEach es X.env)).any (·.1) = false := by rfl) :
    QE X W (.Call (.Attribute (.Name x p) name apos) (a :: es) [] cpos) (eMut i g m) :=
  pe_mono (pe_bm PySem.F.plainAttrs_list slot hty hm (pe_var hN hv hd hcd) ha hbase hfew hline hs hplain) fun σ H Q h => by
    obtain ⟨p, hs, hl, h⟩ := mut_read2 hr h
    exact ⟨_, hs, .inl ⟨rfl, hl⟩, h⟩
end
theorem extend_tup (l : Addr) (items : Array Value) (n : Nat) (b : Addr) (items2 : Array Value) (n2 : Nat) (dc : Option Addr) (sl : Array (Option Value)) (hs0 : ¬(!items.isEmpty && Builtin.List.listTooLong (items.size + items2.size)) = true) (hs1 : items.size ≤ sizeLine) (hs2 : items.size + items2.size ≤ sizeLine + 1) :
    Meets (Builtin.«list.extend» ⟨[.ref l, .ref b], []⟩) (fun _ R s => s.heap.get? l = some { cls := .type "list", dict := none, data := .seq items n, slots := #[] } ∧ s.heap.get? b = some { cls := .type "tuple", dict := dc, data := .seq items2 n2, slots := sl } ∧ R (.ok (.ret Value.none)) { s with heap := s.heap.update l (Obj.mapSeq fun x => x ++ items2), toks := s.toks }) :=
  .of_wp fun prog w A R s h => by
    obtain ⟨hp, g, d, tk, os⟩ := s; obtain ⟨hl, hb, h⟩ := h; have f1 := AutoSeq1.idx_int; have f2 := AutoSeq1.sub_tuple_tuple; have f3 := AutoSeq1.sub_list_list; have f4 := AutoSeq1.sub_tuple_list; have f5 := AutoSeq1.sub_list_tuple;
    have hz' : (items ++ items2).size ≤ sizeLine + 1 := by rw [Array.size_append]; exact hs2
    wp_walk using (wpAny_updateSeq hl rfl (hz := hs1) (_hz' := hz')), AutoSeq1.wpAny_loadPart' hl, AutoSeq1.wpAny_loadPart' hb; exact ⟨_, rfl, h⟩
def rExtT (K : PySem.W.Frag) : V → List V → Hp → VK → Prop := fun x vs H Q => ∃ l b xs zs, x = .ref l ∧ vs = [.ref b] ∧ H l = some (.lst xs) ∧ SqT K H b zs ∧ xs.length + zs.length ≤ sizeLine ∧ Q .non (upd H l (.lst (xs ++ zs)))
theorem mt_extT {X : Cx} : MtM X "list.extend" (rExtT X.K) := by
  intro pins s σ H x vs v us Q I rx rv h
  obtain ⟨l, b, xs, zs, rfl, rfl, hH, hB, hz, q⟩ := h
  cases rx
  obtain ⟨u, rfl, ru⟩ := rv.one
  cases ru
  obtain ⟨z, its, n, r, hl, e⟩ := I.lstM hH
  obtain ⟨its2, r2, ⟨o2, e2, c2, n2, d2⟩, hz2⟩ := I.tuple hB
  have hl2 := r2.length
  have hsz : its.toArray.size + its2.toArray.size ≤ sizeLine := by rw [List.size_toArray, List.size_toArray]; omega
  have hlong : ¬ (!its.toArray.isEmpty && Builtin.List.listTooLong (its.toArray.size + its2.toArray.size)) = true := by
    rw [notLongL hsz, Bool.and_false]
    exact Bool.false_ne_true
  obtain ⟨cls, dct, dat, sl⟩ := o2
  cases c2
  cases d2
  refine call_meets F.slot_list_extend ⟨_, e, rfl⟩ F.entry_list_extend (F.args_list_extend_2 _ _) (extend_tup l its.toArray n b its2.toArray n2 dct sl hlong (by rw [List.size_toArray]; omega) (by omega)) ⟨e, e2, ?_⟩
  refine ⟨.non, _, I.lset (its' := its ++ its2) hH e (by simp) (r.append r2) ?_, rfl, q⟩
  rw [List.length_append]
  omega
def gExtT : List T → List T → Option (List T × T)
  | ts, [.tuple us] => if ts.length + us.length ≤ sizeLine then some (ts ++ us, .none) else none
  | _, _ => none
theorem does_extT {K : PySem.W.Frag} : MutDoes2 K (rExtT K) gExtT := by
  intro p xs vs ts us ts' w F H Q ff hx d dv hg q
  cases dv with
  | nil => cases hg
  | cons a dv =>
    cases dv with
    | cons _ _ =>
      unfold gExtT at hg
      split at hg
      · rename_i h; cases h
      · cases hg
    | nil =>
      cases a with
      | tup h1 d1 =>
        simp only [gExtT] at hg
        split at hg
        · rename_i hl
          cases hg
          exact ⟨p, _, xs, _, rfl, rfl, hx, tupS ff h1, by rw [dpAll_len d, dpAll_len d1]; exact hl, q _ _ (dpAll_app d d1) .non⟩
        · cases hg
      | _ => cases hg
end Ev

set_option Elab.async false
set_option linter.all false
namespace Lw
open PySem PySem.Spec L2 Ev
noncomputable def b_is_whole : SemS := (sRet (eAnd (eIsi isInt (eVar 0)) (eNot (eIsi isBool (eVar 0)))))
noncomputable def m_is_whole : FSem := runFn 1 b_is_whole
noncomputable def b_is_count : SemS := (sRet (eAnd (eCall 1 m_is_whole (aCons (eVar 0) aNil)) (eOp2 gGe (eVar 0) (eK (.int 0)))))
noncomputable def m_is_count : FSem := runFn 1 b_is_count
noncomputable def b_is_index : SemS := (sRet (eAnd (eCall 1 m_is_count (aCons (eVar 0) aNil)) (eOp2 gLt (eVar 0) (eVar 1))))
noncomputable def m_is_index : FSem := runFn 2 b_is_index
noncomputable def b__is_part : SemS := (sSeq (sIf (tOr (tNot (tb (eIsi isTuple (eVar 2)))) (tb (eOp2 (gEq not) (eFn gLen (aCons (eVar 2) aNil)) (eK (.int 3))))) (sRet (eK (.bool false))) sNil) (sSeq (sAsg (gT 3 (gsCons (gN 3) (gsCons (gN 4) (gsCons (gN 5) gsNil)))) (eVar 2)) (sRet (eAnd (eCall 2 m_is_index (aCons (eVar 3) (aCons (eVar 0) aNil))) (eAnd (eCall 2 m_is_index (aCons (eVar 4) (aCons (eVar 0) aNil))) (eCall 2 m_is_index (aCons (eVar 5) (aCons (eVar 1) aNil))))))))
noncomputable def m__is_part : FSem := runFn 6 b__is_part
noncomputable def x1_places_of : SemE := (eComp (iOf (eVar 0)) (gN 1) tTrue (eTup (aCons (eOp2 gIx (eVar 1) (eK (.int 0))) (aCons (eOp2 gIx (eVar 1) (eK (.int 1))) aNil))) [1])
noncomputable def b_places_of : SemS := (sRet x1_places_of)
noncomputable def m_places_of : FSem := runFn 2 b_places_of
noncomputable def x1__is_kind : SemE := (eComp (iOf (eVar 2)) (gN 3) tTrue (eCall 3 m__is_part (aCons (eVar 0) (aCons (eVar 1) (aCons (eVar 3) aNil)))) [3])
noncomputable def b__is_kind : SemS := (sSeq (sIf (tOr (tNot (tb (eIsi isTuple (eVar 2)))) (tb (eOp2 (gEq not) (eFn gLen (aCons (eVar 2) aNil)) (eOp2 gMul (eVar 0) (eVar 0))))) (sRet (eK (.bool false))) sNil) (sSeq (sIf (tNot (tb (eFn gAll (aCons x1__is_kind aNil)))) (sRet (eK (.bool false))) sNil) (sRet (eOp2 (gEq id) (eLenSet (eCall 1 m_places_of (aCons (eVar 2) aNil))) (eOp2 gMul (eVar 0) (eVar 0))))))
noncomputable def m__is_kind : FSem := runFn 4 b__is_kind
noncomputable def x1_is_book : SemE := (eComp (iOf (eVar 2)) (gN 3) tTrue (eCall 3 m__is_kind (aCons (eVar 1) (aCons (eFn gLen (aCons (eVar 2) aNil)) (aCons (eVar 3) aNil)))) [3])
noncomputable def b_is_book : SemS := (sSeq (sIf (tOr (tNot (tb (eIsi isTuple (eVar 0)))) (tb (eOp2 (gEq not) (eFn gLen (aCons (eVar 0) aNil)) (eK (.int 2))))) (sRet (eK (.bool false))) sNil) (sSeq (sAsg (gT 2 (gsCons (gN 1) (gsCons (gN 2) gsNil))) (eVar 0)) (sSeq (sIf (tOr (tNot (tb (eCall 1 m_is_whole (aCons (eVar 1) aNil)))) (tb (eOp2 (gIn not) (eVar 1) (eTup (aCons (eK (.int 2)) (aCons (eK (.int 3)) aNil)))))) (sRet (eK (.bool false))) sNil) (sSeq (sIf (tOr (tNot (tb (eIsi isTuple (eVar 2)))) (tb (eOp2 (gEq id) (eFn gLen (aCons (eVar 2) aNil)) (eK (.int 0))))) (sRet (eK (.bool false))) sNil) (sRet (eFn gAll (aCons x1_is_book aNil)))))))
noncomputable def m_is_book : FSem := runFn 4 b_is_book
noncomputable def b_is_posture : SemS := (sSeq (sIf (tOr (tNot (tb (eIsi isTuple (eVar 0)))) (tb (eOp2 (gEq not) (eFn gLen (aCons (eVar 0) aNil)) (eK (.int 2))))) (sRet (eK (.bool false))) sNil) (sSeq (sAsg (gT 2 (gsCons (gN 1) (gsCons (gN 2) gsNil))) (eVar 0)) (sRet (eAnd (eCall 2 m_is_index (aCons (eVar 1) (aCons (eK (.int 4)) aNil))) (eCall 2 m_is_index (aCons (eVar 2) (aCons (eK (.int 2)) aNil)))))))
noncomputable def m_is_posture : FSem := runFn 3 b_is_posture
noncomputable def b_is_turn : SemS := (sSeq (sIf (tOr (tNot (tb (eIsi isTuple (eVar 0)))) (tb (eOp2 (gEq not) (eFn gLen (aCons (eVar 0) aNil)) (eK (.int 3))))) (sRet (eK (.bool false))) sNil) (sRet (eAnd (eCall 1 m_is_posture (aCons (eSl (eVar 0) pNo (pSo (eK (.int 2)))) aNil)) (eCall 2 m_is_index (aCons (eOp2 gIx (eVar 0) (eK (.int 2))) (aCons (eK (.int 2)) aNil))))))
noncomputable def m_is_turn : FSem := runFn 1 b_is_turn
noncomputable def b__is_square : SemS := (sSeq (sIf (tOr (tNot (tb (eIsi isTuple (eVar 1)))) (tb (eOp2 (gEq not) (eFn gLen (aCons (eVar 1) aNil)) (eK (.int 3))))) (sRet (eK (.bool false))) sNil) (sSeq (sAsg (gT 3 (gsCons (gN 2) (gsCons (gN 3) (gsCons (gN 4) gsNil)))) (eVar 1)) (sRet (eAnd (eCall 1 m_is_count (aCons (eVar 2) aNil)) (eAnd (eCall 1 m_is_count (aCons (eVar 3) aNil)) (eCall 2 m_is_index (aCons (eVar 4) (aCons (eVar 0) aNil))))))))
noncomputable def m__is_square : FSem := runFn 5 b__is_square
noncomputable def x1_is_field : SemE := (eComp (iOf (eVar 2)) (gN 3) tTrue (eCall 2 m__is_square (aCons (eFn gLen (aCons (eOp2 gIx (eVar 1) (eK (.int 1))) aNil)) (aCons (eVar 3) aNil))) [3])
noncomputable def b_is_field : SemS := (sSeq (sIf (tOr (tNot (tb (eIsi isTuple (eVar 0)))) (tb (eOp2 (gEq not) (eFn gLen (aCons (eVar 0) aNil)) (eK (.int 2))))) (sRet (eK (.bool false))) sNil) (sSeq (sAsg (gT 2 (gsCons (gN 1) (gsCons (gN 2) gsNil))) (eVar 0)) (sSeq (sIf (tNot (tb (eCall 1 m_is_book (aCons (eVar 1) aNil)))) (sRet (eK (.bool false))) sNil) (sSeq (sIf (tOr (tNot (tb (eIsi isTuple (eVar 2)))) (tb (eOp2 (gEq id) (eFn gLen (aCons (eVar 2) aNil)) (eK (.int 0))))) (sRet (eK (.bool false))) sNil) (sSeq (sIf (tNot (tb (eFn gAll (aCons x1_is_field aNil)))) (sRet (eK (.bool false))) sNil) (sRet (eOp2 (gEq id) (eLenSet (eCall 1 m_places_of (aCons (eVar 2) aNil))) (eFn gLen (aCons (eVar 2) aNil)))))))))
noncomputable def m_is_field : FSem := runFn 4 b_is_field
noncomputable def x1_is_box : SemE := (eComp (iOf (eVar 0)) (gN 5) tTrue (eCall 1 m_is_count (aCons (eVar 5) aNil)) [5])
noncomputable def b_is_box : SemS := (sSeq (sIf (tOr (tNot (tb (eIsi isTuple (eVar 0)))) (tb (eOp2 (gEq not) (eFn gLen (aCons (eVar 0) aNil)) (eK (.int 4))))) (sRet (eK (.bool false))) sNil) (sSeq (sIf (tNot (tb (eFn gAll (aCons x1_is_box aNil)))) (sRet (eK (.bool false))) sNil) (sSeq (sAsg (gT 4 (gsCons (gN 1) (gsCons (gN 2) (gsCons (gN 3) (gsCons (gN 4) gsNil))))) (eVar 0)) (sRet (eAnd (eOp2 gLt (eVar 1) (eVar 3)) (eOp2 gLt (eVar 2) (eVar 4)))))))
noncomputable def m_is_box : FSem := runFn 6 b_is_box
noncomputable def b_told_integer : SemS := (sSeq (sIf (tOr (tNot (tb (eSM0 fAscii (eVar 0)))) (tOr (tNot (tb (eSM0 fDigit (eVar 0)))) (tb (eOp2 gGt (eFn gLenS (aCons (eVar 0) aNil)) (eK (.int 40)))))) (sRet (eK .none)) sNil) (sSeq (sIf (tAnd (tb (eSM1 fStarts (eVar 0) (eK (.str "0")))) (tb (eOp2 (gEq not) (eVar 0) (eK (.str "0"))))) (sRet (eK .none)) sNil) (sRet (eFn gIntT (aCons (eVar 0) aNil)))))
noncomputable def m_told_integer : FSem := runFn 1 b_told_integer
noncomputable def b__told_b : SemS := (sSeq (sIf (tNot (tb (eSM1 fStarts (eVar 0) (eK (.str "book "))))) (sRet (eK .none)) sNil) (sRet (eCall 1 m_told_integer (aCons (eSlS (eVar 0) (pSo (eK (.int 5))) pNo) aNil))))
noncomputable def m__told_b : FSem := runFn 1 b__told_b
noncomputable def x1__told_integers : SemE := (eComp (iOf (eVar 0)) (gN 3) tTrue (eCall 1 m_told_integer (aCons (eVar 3) aNil)) [3])
noncomputable def b__told_integers : SemS := (sSeq (sSet 2 x1__told_integers) (sSeq (sIf (tOr (tb (eOp2 (gEq not) (eFn gLen (aCons (eVar 2) aNil)) (eVar 1))) (tb (eOp2 (gIn id) (eK .none) (eVar 2)))) (sRet (eK .none)) sNil) (sRet (eFn gTuple (aCons (eVar 2) aNil)))))
noncomputable def m__told_integers : FSem := runFn 4 b__told_integers
noncomputable def x1__told_rows : SemE := (eComp (iOf (eSM1 fSplit (eVar 0) (eK (.str ", ")))) (gN 2) tTrue (eCall 2 m__told_integers (aCons (eSM1 fSplit (eVar 2) (eK (.str " "))) (aCons (eK (.int 3)) aNil))) [2])
noncomputable def b__told_rows : SemS := (sSeq (sSet 1 x1__told_rows) (sSeq (sIf (tb (eOp2 (gIn id) (eK .none) (eVar 1))) (sRet (eK .none)) sNil) (sRet (eFn gTuple (aCons (eVar 1) aNil)))))
noncomputable def m__told_rows : FSem := runFn 3 b__told_rows
noncomputable def x1__told_book : SemE := (eComp (iOf (eSl (eVar 0) (pSo (eK (.int 1))) pNo)) (gN 4) tTrue (eCall 1 m__told_rows (aCons (eVar 4) aNil)) [4])
noncomputable def b__told_book : SemS := (sSeq (sSet 2 (eCall 1 m__told_b (aCons (eOp2 gIx (eVar 0) (eK (.int 0))) aNil))) (sSeq (sIf (tb (eOp2 (gIsN id) (eVar 2) (eK .none))) sNever sNil) (sSeq (sSet 3 x1__told_book) (sSeq (sIf (tb (eOp2 (gIn id) (eK .none) (eVar 3))) sNever sNil) (sRet (eTup (aCons (eVar 2) (aCons (eFn gTuple (aCons (eVar 3) aNil)) aNil))))))))
noncomputable def m__told_book : FSem := runFn 5 b__told_book
noncomputable def b_read_book : SemS := (sSeq (sSet 1 (eCall 2 m__told_book (aCons (eSM1 fSplit (eVar 0) (eK (.str "\n"))) (aCons (eK (.int 1)) aNil)))) (sSeq (sIf (tNot (tb (eCall 1 m_is_book (aCons (eVar 1) aNil)))) sNever sNil) (sRet (eVar 1))))
noncomputable def m_read_book : FSem := runFn 2 b_read_book
noncomputable def b__alone : SemS := (sSeq (sIf (tb (eOp2 (gIsN id) (eVar 1) (eK .none))) sNever sNil) (sSeq (sIf (tb (eOp2 gInS (eK (.str "\n")) (eVar 0))) sNever sNil) (sRet (eVar 1))))
noncomputable def m__alone : FSem := runFn 2 b__alone
noncomputable def b__first_line : SemS := (sRet (eOp2 gIx (eSM1 fSplit (eVar 0) (eK (.str "\n"))) (eK (.int 0))))
noncomputable def m__first_line : FSem := runFn 1 b__first_line
noncomputable def b_read_cell : SemS := (sRet (eCall 2 m__alone (aCons (eVar 0) (aCons (eCall 2 m__told_integers (aCons (eSM1 fSplit (eCall 1 m__first_line (aCons (eVar 0) aNil)) (eK (.str " "))) (aCons (eK (.int 2)) aNil))) aNil))))
noncomputable def m_read_cell : FSem := runFn 1 b_read_cell
noncomputable def b__told_box : SemS := (sSeq (sSet 1 (eCall 2 m__told_integers (aCons (eSM1 fSplit (eVar 0) (eK (.str " "))) (aCons (eK (.int 4)) aNil)))) (sSeq (sIf (tNot (tb (eCall 1 m_is_box (aCons (eVar 1) aNil)))) (sRet (eK .none)) sNil) (sRet (eVar 1))))
noncomputable def m__told_box : FSem := runFn 2 b__told_box
noncomputable def b_read_box : SemS := (sRet (eCall 2 m__alone (aCons (eVar 0) (aCons (eCall 1 m__told_box (aCons (eCall 1 m__first_line (aCons (eVar 0) aNil)) aNil)) aNil))))
noncomputable def m_read_box : FSem := runFn 1 b_read_box
noncomputable def x1__told_spans : SemE := (eComp (iOf (eSM1 fSplit (eVar 0) (eK (.str " ")))) (gN 4) tTrue (eCall 2 m__told_integers (aCons (eSM1 fSplit (eVar 4) (eK (.str "-"))) (aCons (eK (.int 2)) aNil))) [4])
noncomputable def y1__told_spans : SemS := (sDrop (eMut 2 gExtT (aCons (eVar 3) aNil)))
noncomputable def l1__told_spans : SemS := (sFor (iOf (eVar 1)) (gN 3) y1__told_spans)
noncomputable def x2__told_spans : SemE := (eComp (iR1 (aCons (eOp2 gSub (eFn gLen (aCons (eVar 2) aNil)) (eK (.int 1))) aNil)) (gN 5) tTrue (eOp2 gLt (eOp2 gIx (eVar 2) (eVar 5)) (eOp2 gIx (eVar 2) (eOp2 gAdd (eVar 5) (eK (.int 1))))) [5])
noncomputable def b__told_spans : SemS := (sSeq (sSet 1 x1__told_spans) (sSeq (sIf (tb (eOp2 (gIn id) (eK .none) (eVar 1))) (sRet (eK .none)) sNil) (sSeq (sSet 2 (eLst aNil)) (sSeq l1__told_spans (sSeq (sIf (tNot (tb (eFn gAll (aCons x2__told_spans aNil)))) (sRet (eK .none)) sNil) (sRet (eFn gTuple (aCons (eVar 1) aNil))))))))
noncomputable def m__told_spans : FSem := runFn 6 b__told_spans
noncomputable def b_read_spans : SemS := (sRet (eCall 2 m__alone (aCons (eVar 0) (aCons (eCall 1 m__told_spans (aCons (eCall 1 m__first_line (aCons (eVar 0) aNil)) aNil)) aNil))))
noncomputable def m_read_spans : FSem := runFn 1 b_read_spans
noncomputable def b__told_squares : SemS := (sSeq (sIf (tNot (tb (eSM1 fStarts (eVar 0) (eK (.str "field "))))) (sRet (eK .none)) sNil) (sRet (eCall 1 m__told_rows (aCons (eSlS (eVar 0) (pSo (eK (.int 6))) pNo) aNil))))
noncomputable def m__told_squares : FSem := runFn 1 b__told_squares
noncomputable def b_read_field : SemS := (sSeq (sSet 1 (eSM1 fSplit (eVar 0) (eK (.str "\n")))) (sSeq (sSet 2 (eCall 1 m__told_squares (aCons (eOp2 gIx (eVar 1) (eK (.int 0))) aNil))) (sSeq (sIf (tb (eOp2 (gIsN id) (eVar 2) (eK .none))) sNever sNil) (sSeq (sIf (tb (eOp2 (gEq id) (eFn gLen (aCons (eVar 1) aNil)) (eK (.int 1)))) sNever sNil) (sSeq (sSet 3 (eTup (aCons (eCall 2 m__told_book (aCons (eSl (eVar 1) (pSo (eK (.int 1))) pNo) (aCons (eK (.int 2)) aNil))) (aCons (eVar 2) aNil)))) (sSeq (sIf (tNot (tb (eCall 1 m_is_field (aCons (eVar 3) aNil)))) sNever sNil) (sRet (eVar 3))))))))
noncomputable def m_read_field : FSem := runFn 4 b_read_field
noncomputable def x1__told_make : SemE := (eComp (iOf (eVar 1)) (gN 2) tTrue (eCall 1 m_is_turn (aCons (eVar 2) aNil)) [2])
noncomputable def b__told_make : SemS := (sSeq (sSet 1 (eCall 1 m__told_rows (aCons (eVar 0) aNil))) (sSeq (sIf (tOr (tb (eOp2 (gIsN id) (eVar 1) (eK .none))) (tb (eOp2 (gIn not) (eFn gLen (aCons (eVar 1) aNil)) (eTup (aCons (eK (.int 4)) (aCons (eK (.int 9)) aNil)))))) (sRet (eK .none)) sNil) (sSeq (sIf (tNot (tb (eFn gAll (aCons x1__told_make aNil)))) (sRet (eK .none)) sNil) (sRet (eVar 1)))))
noncomputable def m__told_make : FSem := runFn 3 b__told_make
noncomputable def b_read_make : SemS := (sRet (eCall 2 m__alone (aCons (eVar 0) (aCons (eCall 1 m__told_make (aCons (eCall 1 m__first_line (aCons (eVar 0) aNil)) aNil)) aNil))))
noncomputable def m_read_make : FSem := runFn 1 b_read_make
noncomputable def x1_show_integers : SemE := (eComp (iOf (eVar 0)) (gN 1) tTrue (eFn gStr (aCons (eVar 1) aNil)) [1])
noncomputable def b_show_integers : SemS := (sRet (eJoin (eK (.str " ")) x1_show_integers))
noncomputable def m_show_integers : FSem := runFn 2 b_show_integers
noncomputable def x1__show_rows : SemE := (eComp (iOf (eVar 0)) (gN 1) tTrue (eCall 1 m_show_integers (aCons (eVar 1) aNil)) [1])
noncomputable def b__show_rows : SemS := (sRet (eJoin (eK (.str ", ")) x1__show_rows))
noncomputable def m__show_rows : FSem := runFn 2 b__show_rows
noncomputable def x1_show_book : SemE := (eComp (iOf (eVar 2)) (gN 3) tTrue (eCall 1 m__show_rows (aCons (eVar 3) aNil)) [3])
noncomputable def b_show_book : SemS := (sSeq (sAsg (gT 2 (gsCons (gN 1) (gsCons (gN 2) gsNil))) (eVar 0)) (sRet (eJoin (eK (.str "\n")) (eOp2 gAdd (eLst (aCons (eJs [(eK (.str "book ")), (eFmt (eVar 1))] PySem.Str.empty) aNil)) x1_show_book))))
noncomputable def m_show_book : FSem := runFn 4 b_show_book
noncomputable def b_show_cell : SemS := (sRet (eCall 1 m_show_integers (aCons (eVar 0) aNil)))
noncomputable def m_show_cell : FSem := runFn 1 b_show_cell
noncomputable def b_show_box : SemS := (sRet (eCall 1 m_show_integers (aCons (eVar 0) aNil)))
noncomputable def m_show_box : FSem := runFn 1 b_show_box
noncomputable def x1_show_spans : SemE := (eComp (iOf (eVar 0)) (gT 2 (gsCons (gN 1) (gsCons (gN 2) gsNil))) tTrue (eJs [(eFmt (eVar 1)), (eK (.str "-")), (eFmt (eVar 2))] PySem.Str.empty) [1, 2])
noncomputable def b_show_spans : SemS := (sRet (eJoin (eK (.str " ")) x1_show_spans))
noncomputable def m_show_spans : FSem := runFn 3 b_show_spans
noncomputable def b_show_field : SemS := (sSeq (sAsg (gT 2 (gsCons (gN 1) (gsCons (gN 2) gsNil))) (eVar 0)) (sRet (eJs [(eK (.str "field ")), (eFmt (eCall 1 m__show_rows (aCons (eVar 2) aNil))), (eK (.str "\n")), (eFmt (eCall 1 m_show_book (aCons (eVar 1) aNil)))] PySem.Str.empty)))
noncomputable def m_show_field : FSem := runFn 3 b_show_field
noncomputable def b_show_make : SemS := (sRet (eCall 1 m__show_rows (aCons (eVar 0) aNil)))
noncomputable def m_show_make : FSem := runFn 1 b_show_make
noncomputable def b__law_well : SemS := (sSeq (sSet 2 (eIf (tb (eOp2 gLt (eVar 1) (eFn gLen (aCons (eVar 0) aNil)))) (eFn gInt (aCons (eOp2 gIx (eVar 0) (eVar 1)) aNil)) (eOp2 gAdd (eOp2 gMulX (eVar 1) (eK (.int 104723))) (eOp2 gMulX (eFn gLen (aCons (eVar 0) aNil)) (eK (.int 15485863)))))) (sRet (eLst (aCons (eFn gMax2 (aCons (eK (.int 0)) (aCons (eOp2 gSub (eFn gAbs (aCons (eVar 2) aNil)) (eOp2 gPow (eK (.int 10)) (eK (.int 18)))) aNil))) (aCons (eOp2 gMod (eFn gInt (aCons (eOp2 gAdd (eOp2 gAdd (eOp2 gMulX (eVar 2) (eK (.int 86028157))) (eOp2 gMulX (eVar 1) (eK (.int 179424691)))) (eK (.int 7919))) aNil)) (eOp2 gAdd (eOp2 gPow (eK (.int 10)) (eK (.int 25))) (eK (.int 13)))) (aCons (eK (.int 0)) aNil))))))
noncomputable def m__law_well : FSem := runFn 3 b__law_well
noncomputable def b__law_draw : SemS := (sSeq (sIf (tb (eOp2 gGt (eOp2 gIx (eVar 0) (eK (.int 0))) (eK (.int 0)))) (sSeq (sSet 2 (eOp2 gMod (eFn gInt (aCons (eOp2 gIx (eVar 0) (eK (.int 0))) aNil)) (eVar 1))) (sSeq (sSetIx 0 (eK (.int 0)) (eOp2 gDiv (eOp2 gIx (eVar 0) (eK (.int 0))) (eVar 1))) (sRet (eVar 2)))) sNil) (sSeq (sSetIx 0 (eK (.int 2)) (eOp2 gAdd (eOp2 gIx (eVar 0) (eK (.int 2))) (eK (.int 1)))) (sSeq (sSet 3 (eOp2 gMod (eFn gInt (aCons (eOp2 gPowW (eOp2 gAdd (eOp2 gIx (eVar 0) (eK (.int 1))) (eOp2 gMul (eK (.int 49979693)) (eOp2 gIx (eVar 0) (eK (.int 2))))) (eK (.int 3))) aNil)) (eOp2 gAdd (eOp2 gPow (eK (.int 10)) (eK (.int 29))) (eK (.int 319))))) (sSeq (sSet 3 (eOp2 gMod (eFn gInt (aCons (eOp2 gPowW (eOp2 gAdd (eVar 3) (eK (.int 2038074751))) (eK (.int 3))) aNil)) (eOp2 gAdd (eOp2 gPow (eK (.int 10)) (eK (.int 33))) (eK (.int 33))))) (sRet (eOp2 gMod (eFn gInt (aCons (eOp2 gDiv (eVar 3) (eOp2 gPow (eK (.int 10)) (eK (.int 6)))) aNil)) (eVar 1)))))))
noncomputable def m__law_draw : FSem := runFn 4 b__law_draw
noncomputable def x1__law_same (rec_ : FSem) : SemE := (eComp (iR1 (aCons (eFn gLen (aCons (eVar 1) aNil)) aNil)) (gN 2) tTrue (eCall 2 rec_ (aCons (eOp2 gIx (eVar 0) (eVar 2)) (aCons (eOp2 gIx (eVar 1) (eVar 2)) aNil))) [2])
noncomputable def m__law_same : Nat → FSem
  | 0 => fun _ => .bad
  | fuel + 1 => runFn 3 (sSeq (sIf (tb (eOp2 (gIsN id) (eVar 1) (eK .none))) (sRet (eOp2 (gIsN id) (eVar 0) (eK .none))) sNil) (sSeq (sIf (tb (eIsi isBool (eVar 1))) (sRet (eIf (tb (eVar 1)) (eOp2 (gIsN id) (eVar 0) (eK (.bool true))) (eOp2 (gIsN id) (eVar 0) (eK (.bool false))))) sNil) (sSeq (sIf (tb (eIsi isInt (eVar 1))) (sRet (eAnd (eIsi isInt (eVar 0)) (eAnd (eNot (eIsi isBool (eVar 0))) (eOp2 (gEq id) (eVar 0) (eVar 1))))) sNil) (sSeq (sIf (tb (eIsi isStr (eVar 1))) (sRet (eAnd (eIsi isStr (eVar 0)) (eOp2 (gEq id) (eVar 0) (eVar 1)))) sNil) (sSeq (sIf (tOr (tb (eOp2 (gEq not) (eIsi isTuple (eVar 1)) (eIsi isTuple (eVar 0)))) (tb (eOp2 (gEq not) (eIsi isList (eVar 1)) (eIsi isList (eVar 0))))) (sRet (eK (.bool false))) sNil) (sRet (eAnd (eOp2 (gEq id) (eFn gLen (aCons (eVar 0) aNil)) (eFn gLen (aCons (eVar 1) aNil))) (eFn gAll (aCons (x1__law_same (m__law_same fuel)) aNil)))))))))
noncomputable def y1__law_power : SemS := (sSet 2 (eOp2 gMul (eVar 2) (eVar 0)))
noncomputable def l1__law_power : SemS := (sFor (iR1 (aCons (eVar 1) aNil)) (gN 3) y1__law_power)
noncomputable def b__law_power : SemS := (sSeq (sSet 2 (eK (.int 1))) (sSeq l1__law_power (sRet (eVar 2))))
noncomputable def m__law_power : FSem := runFn 4 b__law_power
noncomputable def y1__law_order : SemS := (sDrop (eMut 3 gAppend (aCons (eMut 2 gPop (aCons (eCall 2 m__law_draw (aCons (eVar 0) (aCons (eFn gLen (aCons (eVar 2) aNil)) aNil))) aNil)) aNil)))
noncomputable def l1__law_order : SemS := (sFor (iR1 (aCons (eVar 1) aNil)) (gN 4) y1__law_order)
noncomputable def b__law_order : SemS := (sSeq (sPar [2, 3] (aCons (eListRng (eVar 1)) (aCons (eLst aNil) aNil))) (sSeq l1__law_order (sRet (eVar 3))))
noncomputable def m__law_order : FSem := runFn 5 b__law_order
noncomputable def y1__law_kind : SemS := (sDrop (eMut 4 gAppend (aCons (eTup (aCons (eOp2 gMod (eFn gInt (aCons (eVar 5) aNil)) (eVar 1)) (aCons (eOp2 gDiv (eVar 5) (eVar 1)) aNil))) aNil)))
noncomputable def l1__law_kind : SemS := (sFor (iR1 (aCons (eOp2 gMul (eVar 1) (eVar 1)) aNil)) (gN 5) y1__law_kind)
noncomputable def x1__law_kind : SemE := (eComp (iOf (eCall 2 m__law_order (aCons (eVar 0) (aCons (eOp2 gMul (eVar 1) (eVar 1)) aNil)))) (gN 5) tTrue (eOp2 gIx (eVar 4) (eVar 5)) [5])
noncomputable def x2__law_kind : SemE := (eComp (iOf (eVar 4)) (gT 2 (gsCons (gN 7) (gsCons (gN 8) gsNil))) tTrue (eTup (aCons (eIf (tb (eOp2 (gEq id) (eOp2 gMod (eFn gInt (aCons (eVar 8) aNil)) (eK (.int 2))) (eK (.int 0)))) (eVar 7) (eOp2 gSub (eOp2 gSub (eVar 1) (eK (.int 1))) (eVar 7))) (aCons (eVar 8) aNil))) [7, 8])
noncomputable def x3__law_kind : SemE := (eComp (iOf (eVar 4)) (gT 2 (gsCons (gN 7) (gsCons (gN 8) gsNil))) tTrue (eTup (aCons (eVar 8) (aCons (eVar 7) aNil))) [7, 8])
noncomputable def x4__law_kind : SemE := (eComp (iOf (eVar 4)) (gT 2 (gsCons (gN 7) (gsCons (gN 8) gsNil))) tTrue (eTup (aCons (eVar 7) (aCons (eVar 8) (aCons (eCall 2 m__law_draw (aCons (eVar 0) (aCons (eVar 2) aNil))) aNil)))) [7, 8])
noncomputable def b__law_kind : SemS := (sSeq (sPar [3, 4] (aCons (eCall 2 m__law_draw (aCons (eVar 0) (aCons (eK (.int 4)) aNil))) (aCons (eLst aNil) aNil))) (sSeq l1__law_kind (sSeq (sIf (tb (eOp2 gLt (eVar 3) (eK (.int 2)))) (sSet 4 x1__law_kind) sNil) (sSeq (sIf (tb (eOp2 (gEq id) (eVar 3) (eK (.int 2)))) (sSeq (sSet 4 x2__law_kind) (sSeq (sSet 6 (eCall 2 m__law_draw (aCons (eVar 0) (aCons (eK (.int 2)) aNil)))) (sSet 4 (eIf (tb (eOp2 (gEq id) (eVar 6) (eK (.int 1)))) x3__law_kind (eVar 4))))) sNil) (sRet (eFn gTuple (aCons x4__law_kind aNil)))))))
noncomputable def m__law_kind : FSem := runFn 9 b__law_kind
noncomputable def x1__law_book : SemE := (eComp (iR1 (aCons (eVar 3) aNil)) (gN 4) tTrue (eCall 3 m__law_kind (aCons (eVar 0) (aCons (eVar 2) (aCons (eVar 3) aNil)))) [4])
noncomputable def b__law_book : SemS := (sSeq (sPar [2, 3] (aCons (eOp2 gAdd (eK (.int 2)) (eCall 2 m__law_draw (aCons (eVar 0) (aCons (eK (.int 2)) aNil)))) (aCons (eOp2 gAdd (eK (.int 1)) (eCall 2 m__law_draw (aCons (eVar 0) (aCons (eVar 1) aNil)))) aNil))) (sRet (eTup (aCons (eVar 2) (aCons (eFn gTuple (aCons x1__law_book aNil)) aNil)))))
noncomputable def m__law_book : FSem := runFn 5 b__law_book
noncomputable def b__law_integer : SemS := (sSeq (sSet 2 (eCall 2 m__law_draw (aCons (eVar 0) (aCons (eK (.int 5)) aNil)))) (sSeq (sIf (tb (eOp2 gLt (eVar 2) (eK (.int 3)))) (sRet (eCall 2 m__law_draw (aCons (eVar 0) (aCons (eOp2 gIx (eLst (aCons (eK (.int 3)) (aCons (eK (.int 10)) (aCons (eK (.int 60)) aNil)))) (eVar 2)) aNil)))) sNil) (sSeq (sIf (tb (eOp2 (gEq id) (eVar 2) (eK (.int 3)))) (sRet (eOp2 gSub (eOp2 gSub (eCall 2 m__law_power (aCons (eK (.int 10)) (aCons (eVar 1) aNil))) (eK (.int 1))) (eCall 2 m__law_draw (aCons (eVar 0) (aCons (eK (.int 9)) aNil))))) sNil) (sRet (eCall 2 m__law_draw (aCons (eVar 0) (aCons (eCall 2 m__law_power (aCons (eK (.int 10)) (aCons (eOp2 gAdd (eK (.int 1)) (eCall 2 m__law_draw (aCons (eVar 0) (aCons (eVar 1) aNil)))) aNil))) aNil)))))))
noncomputable def m__law_integer : FSem := runFn 3 b__law_integer
noncomputable def b__law_above : SemS := (sSeq (sSet 3 (eOp2 gIx (eLst (aCons (eK (.int 1)) (aCons (eOp2 gAdd (eK (.int 1)) (eCall 2 m__law_draw (aCons (eVar 0) (aCons (eK (.int 9)) aNil)))) (aCons (eOp2 gAdd (eK (.int 1)) (eCall 2 m__law_integer (aCons (eVar 0) (aCons (eVar 2) aNil)))) aNil)))) (eCall 2 m__law_draw (aCons (eVar 0) (aCons (eK (.int 3)) aNil))))) (sRet (eOp2 gAdd (eVar 1) (eVar 3))))
noncomputable def m__law_above : FSem := runFn 4 b__law_above
noncomputable def x1__law_squares : SemE := (eComp (iR1 (aCons (eOp2 gAdd (eK (.int 1)) (eCall 2 m__law_draw (aCons (eVar 0) (aCons (eVar 2) aNil)))) aNil)) (gN 8) tTrue (eTup (aCons (eCall 2 m__law_draw (aCons (eVar 0) (aCons (eK (.int 21)) aNil))) (aCons (eCall 2 m__law_draw (aCons (eVar 0) (aCons (eK (.int 21)) aNil))) aNil))) [8])
noncomputable def x2__law_squares : SemE := (eCompG (iNmG 3) (gT 3 (gsCons (gN 9) (gsCons (gN 10) (gsCons (gN 11) gsNil)))) tTrue (eTup (aCons (eVar 9) (aCons (eVar 10) aNil))) [9, 10, 11])
noncomputable def y1__law_squares : SemS := (sSeq (sSet 7 (eTup (aCons (eOp2 gAdd (eVar 5) (eOp2 gMul (eOp2 gMul (eK (.int 100)) (eVar 4)) (eCall 2 m__law_integer (aCons (eVar 0) (aCons (eK (.int 30)) aNil))))) (aCons (eOp2 gAdd (eVar 6) (eOp2 gMul (eVar 4) (eCall 2 m__law_integer (aCons (eVar 0) (aCons (eK (.int 30)) aNil))))) aNil)))) (sIf (tb (eOp2 (gIn not) (eVar 7) x2__law_squares)) (sDrop (eMut 3 gAppend (aCons (eTup (aCons (eOp2 gIx (eVar 7) (eK (.int 0))) (aCons (eOp2 gIx (eVar 7) (eK (.int 1))) (aCons (eCall 2 m__law_draw (aCons (eVar 0) (aCons (eVar 1) aNil))) aNil)))) aNil))) sNil))
noncomputable def l1__law_squares : SemS := (sFor (iOf x1__law_squares) (gT 2 (gsCons (gN 5) (gsCons (gN 6) gsNil))) y1__law_squares)
noncomputable def b__law_squares : SemS := (sSeq (sPar [3, 4] (aCons (eLst aNil) (aCons (eCall 2 m__law_draw (aCons (eVar 0) (aCons (eK (.int 2)) aNil))) aNil))) (sSeq l1__law_squares (sRet (eFn gTuple (aCons (eVar 3) aNil)))))
noncomputable def m__law_squares : FSem := runFn 12 b__law_squares
noncomputable def x1__law_said : SemE := (eComp (iOf (eVar 0)) (gN 1) tTrue (eFn gStr (aCons (eVar 1) aNil)) [1])
noncomputable def b__law_said : SemS := (sRet (eJoin (eK (.str " ")) x1__law_said))
noncomputable def m__law_said : FSem := runFn 2 b__law_said
noncomputable def x1__law_said_parts : SemE := (eComp (iOf (eVar 0)) (gN 1) tTrue (eCall 1 m__law_said (aCons (eVar 1) aNil)) [1])
noncomputable def b__law_said_parts : SemS := (sRet (eJoin (eK (.str ", ")) x1__law_said_parts))
noncomputable def m__law_said_parts : FSem := runFn 2 b__law_said_parts
noncomputable def x1__law_said_book : SemE := (eComp (iOf (eOp2 gIx (eVar 0) (eK (.int 1)))) (gN 1) tTrue (eCall 1 m__law_said_parts (aCons (eVar 1) aNil)) [1])
noncomputable def b__law_said_book : SemS := (sRet (eJoin (eK (.str "\n")) (eOp2 gAdd (eLst (aCons (eOp2 gAdd (eK (.str "book ")) (eFn gStr (aCons (eOp2 gIx (eVar 0) (eK (.int 0))) aNil))) aNil)) x1__law_said_book)))
noncomputable def m__law_said_book : FSem := runFn 2 b__law_said_book
noncomputable def b__law_said_field : SemS := (sRet (eOp2 gAdd (eOp2 gAdd (eOp2 gAdd (eK (.str "field ")) (eCall 1 m__law_said_parts (aCons (eOp2 gIx (eVar 0) (eK (.int 1))) aNil))) (eK (.str "\n"))) (eCall 1 m__law_said_book (aCons (eOp2 gIx (eVar 0) (eK (.int 0))) aNil))))
noncomputable def m__law_said_field : FSem := runFn 1 b__law_said_field
noncomputable def y1__law_door : SemS := (sSeq (sSet 9 (eCall 3 m__law_above (aCons (eVar 0) (aCons (eVar 7) (aCons (eOp2 gIx (eLst (aCons (eK (.int 1)) (aCons (eK (.int 2)) (aCons (eOp2 gSub (eVar 2) (eK (.int 3))) aNil)))) (eCall 2 m__law_draw (aCons (eVar 0) (aCons (eK (.int 3)) aNil)))) aNil))))) (sSeq (sDrop (eMut 6 gAppend (aCons (eTup (aCons (eVar 7) (aCons (eVar 9) aNil))) aNil))) (sSet 7 (eCall 3 m__law_above (aCons (eVar 0) (aCons (eVar 9) (aCons (eOp2 gIx (eLst (aCons (eK (.int 1)) (aCons (eK (.int 2)) (aCons (eOp2 gSub (eVar 2) (eK (.int 3))) aNil)))) (eCall 2 m__law_draw (aCons (eVar 0) (aCons (eK (.int 3)) aNil)))) aNil)))))))
noncomputable def l1__law_door : SemS := (sFor (iR1 (aCons (eOp2 gAdd (eK (.int 1)) (eCall 2 m__law_draw (aCons (eVar 0) (aCons (eOp2 gIx (eLst (aCons (eK (.int 2)) (aCons (eK (.int 6)) (aCons (eVar 3) (aCons (eK (.int 100)) aNil))))) (eCall 2 m__law_draw (aCons (eVar 0) (aCons (eK (.int 4)) aNil)))) aNil)))) aNil)) (gN 8) y1__law_door)
noncomputable def x1__law_door : SemE := (eComp (iOf (eVar 4)) (gT 2 (gsCons (gN 12) (gsCons (gN 9) gsNil))) tTrue (eOp2 gAdd (eOp2 gAdd (eFn gStr (aCons (eVar 12) aNil)) (eK (.str "-"))) (eFn gStr (aCons (eVar 9) aNil))) [12, 9])
noncomputable def x2__law_door : SemE := (eComp (iR1 (aCons (eVar 10) aNil)) (gN 8) tTrue (eTup (aCons (eCall 2 m__law_draw (aCons (eVar 0) (aCons (eK (.int 4)) aNil))) (aCons (eCall 2 m__law_draw (aCons (eVar 0) (aCons (eK (.int 2)) aNil))) (aCons (eCall 2 m__law_draw (aCons (eVar 0) (aCons (eK (.int 2)) aNil))) aNil)))) [8])
noncomputable def b__law_door : SemS := (sSeq (sIf (tb (eOp2 (gEq id) (eVar 1) (eK (.int 0)))) (sSeq (sSet 4 (eTup (aCons (eCall 2 m__law_integer (aCons (eVar 0) (aCons (eVar 2) aNil))) (aCons (eCall 2 m__law_integer (aCons (eVar 0) (aCons (eVar 2) aNil))) aNil)))) (sRet (eTup (aCons (eVar 4) (aCons (eCall 1 m__law_said (aCons (eVar 4) aNil)) aNil))))) sNil) (sSeq (sIf (tb (eOp2 (gEq id) (eVar 1) (eK (.int 1)))) (sSeq (sSet 5 (eTup (aCons (eCall 2 m__law_integer (aCons (eVar 0) (aCons (eOp2 gSub (eVar 2) (eK (.int 2))) aNil))) (aCons (eCall 2 m__law_integer (aCons (eVar 0) (aCons (eOp2 gSub (eVar 2) (eK (.int 2))) aNil))) aNil)))) (sSeq (sSet 4 (eOp2 gAdd (eVar 5) (eTup (aCons (eCall 3 m__law_above (aCons (eVar 0) (aCons (eOp2 gIx (eVar 5) (eK (.int 0))) (aCons (eOp2 gSub (eVar 2) (eK (.int 2))) aNil)))) (aCons (eCall 3 m__law_above (aCons (eVar 0) (aCons (eOp2 gIx (eVar 5) (eK (.int 1))) (aCons (eOp2 gSub (eVar 2) (eK (.int 2))) aNil)))) aNil))))) (sRet (eTup (aCons (eVar 4) (aCons (eCall 1 m__law_said (aCons (eVar 4) aNil)) aNil)))))) sNil) (sSeq (sIf (tb (eOp2 (gEq id) (eVar 1) (eK (.int 2)))) (sSeq (sPar [6, 7] (aCons (eLst aNil) (aCons (eCall 2 m__law_integer (aCons (eVar 0) (aCons (eOp2 gIx (eLst (aCons (eK (.int 2)) (aCons (eOp2 gSub (eVar 2) (eK (.int 3))) aNil))) (eCall 2 m__law_draw (aCons (eVar 0) (aCons (eK (.int 2)) aNil)))) aNil))) aNil))) (sSeq l1__law_door (sSeq (sSet 4 (eFn gTuple (aCons (eVar 6) aNil))) (sRet (eTup (aCons (eVar 4) (aCons (eJoin (eK (.str " ")) x1__law_door) aNil))))))) sNil) (sSeq (sIf (tb (eOp2 (gEq id) (eVar 1) (eK (.int 3)))) (sSeq (sSet 10 (eOp2 gIx (eLst (aCons (eK (.int 4)) (aCons (eK (.int 9)) aNil))) (eCall 2 m__law_draw (aCons (eVar 0) (aCons (eK (.int 2)) aNil))))) (sSeq (sSet 4 (eFn gTuple (aCons x2__law_door aNil))) (sRet (eTup (aCons (eVar 4) (aCons (eCall 1 m__law_said_parts (aCons (eVar 4) aNil)) aNil)))))) sNil) (sSeq (sSet 11 (eCall 2 m__law_book (aCons (eVar 0) (aCons (eOp2 gIx (eLst (aCons (eK (.int 1)) (aCons (eK (.int 3)) (aCons (eVar 3) aNil)))) (eCall 2 m__law_draw (aCons (eVar 0) (aCons (eK (.int 3)) aNil)))) aNil)))) (sSeq (sIf (tb (eOp2 (gEq id) (eVar 1) (eK (.int 4)))) (sRet (eTup (aCons (eVar 11) (aCons (eCall 1 m__law_said_book (aCons (eVar 11) aNil)) aNil)))) sNil) (sSeq (sSet 4 (eTup (aCons (eVar 11) (aCons (eCall 3 m__law_squares (aCons (eVar 0) (aCons (eFn gLen (aCons (eOp2 gIx (eVar 11) (eK (.int 1))) aNil)) (aCons (eOp2 gIx (eLst (aCons (eK (.int 2)) (aCons (eVar 3) aNil))) (eCall 2 m__law_draw (aCons (eVar 0) (aCons (eK (.int 2)) aNil)))) aNil)))) aNil)))) (sRet (eTup (aCons (eVar 4) (aCons (eCall 1 m__law_said_field (aCons (eVar 4) aNil)) aNil)))))))))))
noncomputable def m__law_door : FSem := runFn 13 b__law_door
noncomputable def b__law_read : SemS := (sSeq (sIf (tb (eOp2 (gEq id) (eVar 0) (eK (.int 0)))) (sRet (eIf (tb (eVar 2)) (eCallK 1 [0] m_read_cell (aCons (eVar 1) aNil)) (eCall 1 m_read_cell (aCons (eVar 1) aNil)))) sNil) (sSeq (sIf (tb (eOp2 (gEq id) (eVar 0) (eK (.int 1)))) (sRet (eIf (tb (eVar 2)) (eCallK 1 [0] m_read_box (aCons (eVar 1) aNil)) (eCall 1 m_read_box (aCons (eVar 1) aNil)))) sNil) (sSeq (sIf (tb (eOp2 (gEq id) (eVar 0) (eK (.int 2)))) (sRet (eIf (tb (eVar 2)) (eCallK 1 [0] m_read_spans (aCons (eVar 1) aNil)) (eCall 1 m_read_spans (aCons (eVar 1) aNil)))) sNil) (sSeq (sIf (tb (eOp2 (gEq id) (eVar 0) (eK (.int 3)))) (sRet (eIf (tb (eVar 2)) (eCallK 1 [0] m_read_make (aCons (eVar 1) aNil)) (eCall 1 m_read_make (aCons (eVar 1) aNil)))) sNil) (sSeq (sIf (tb (eOp2 (gEq id) (eVar 0) (eK (.int 4)))) (sRet (eIf (tb (eVar 2)) (eCallK 1 [0] m_read_book (aCons (eVar 1) aNil)) (eCall 1 m_read_book (aCons (eVar 1) aNil)))) sNil) (sRet (eIf (tb (eVar 2)) (eCallK 1 [0] m_read_field (aCons (eVar 1) aNil)) (eCall 1 m_read_field (aCons (eVar 1) aNil)))))))))
noncomputable def m__law_read : FSem := runFn 3 b__law_read
noncomputable def b__law_shown : SemS := (sSeq (sIf (tb (eOp2 (gEq id) (eVar 0) (eK (.int 0)))) (sRet (eCall 1 m_show_cell (aCons (eVar 1) aNil))) sNil) (sSeq (sIf (tb (eOp2 (gEq id) (eVar 0) (eK (.int 1)))) (sRet (eCall 1 m_show_box (aCons (eVar 1) aNil))) sNil) (sSeq (sIf (tb (eOp2 (gEq id) (eVar 0) (eK (.int 2)))) (sRet (eCall 1 m_show_spans (aCons (eVar 1) aNil))) sNil) (sSeq (sIf (tb (eOp2 (gEq id) (eVar 0) (eK (.int 3)))) (sRet (eCall 1 m_show_make (aCons (eVar 1) aNil))) sNil) (sRet (eIf (tb (eOp2 (gEq id) (eVar 0) (eK (.int 4)))) (eCall 1 m_show_book (aCons (eVar 1) aNil)) (eCall 1 m_show_field (aCons (eVar 1) aNil))))))))
noncomputable def m__law_shown : FSem := runFn 2 b__law_shown
noncomputable def y1_law : SemS := (sSeq (sAsg (gT 2 (gsCons (gN 5) (gsCons (gN 6) gsNil))) (eCall 4 m__law_door (aCons (eVar 3) (aCons (eVar 4) (aCons (eK (.int 40)) (aCons (eK (.int 20)) aNil)))))) (sSeq (sSet 7 (eCall 3 m__law_read (aCons (eVar 4) (aCons (eVar 6) (aCons (eOp2 (gEq id) (eCall 2 m__law_draw (aCons (eVar 3) (aCons (eK (.int 2)) aNil))) (eK (.int 0))) aNil))))) (sSeq (sIf (tOr (tNot (tb (eCall 2 (m__law_same 8) (aCons (eVar 7) (aCons (eVar 5) aNil))))) (tNot (tb (eCall 2 (m__law_same 8) (aCons (eCall 2 m__law_shown (aCons (eVar 4) (aCons (eVar 7) aNil))) (aCons (eVar 6) aNil)))))) (sRet (eK (.bool false))) sNil) (sDrop (eMut 1 gAppend (aCons (eTup (aCons (eVar 4) (aCons (eVar 5) (aCons (eVar 6) aNil)))) aNil))))))
noncomputable def l1_law : SemS := (sFor (iR1 (aCons (eK (.int 6)) aNil)) (gN 4) y1_law)
noncomputable def y2_law : SemS := (sSeq (sSet 3 (eCall 2 m__law_well (aCons (eVar 0) (aCons (eVar 2) aNil)))) l1_law)
noncomputable def l2_law : SemS := (sFor (iR1 (aCons (eFn gMax2 (aCons (eK (.int 1)) (aCons (eFn gMin2 (aCons (eK (.int 6)) (aCons (eFn gLen (aCons (eVar 0) aNil)) aNil))) aNil))) aNil)) (gN 2) y2_law)
noncomputable def y3_law : SemS := (sIf (tNot (tb (eCall 2 (m__law_same 8) (aCons (eCall 3 m__law_read (aCons (eVar 4) (aCons (eVar 6) (aCons (eOp2 gLt (eFn gLenS (aCons (eVar 6) aNil)) (eK (.int 9))) aNil)))) (aCons (eVar 5) aNil))))) (sRet (eK (.bool false))) sNil)
noncomputable def l3_law : SemS := (sFor (iOf (eRev (eVar 1))) (gT 3 (gsCons (gN 4) (gsCons (gN 5) (gsCons (gN 6) gsNil)))) y3_law)
noncomputable def b_law : SemS := (sSeq (sSet 1 (eLst aNil)) (sSeq l2_law (sSeq l3_law (sRet (eK (.bool true))))))
noncomputable def m_law : FSem := runFn 8 b_law
end Lw

set_option maxHeartbeats 4000000
namespace Lw
open PySem PySem.Spec PyProof.Rows L2 Ev Lz
theorem boot_len : bootBuiltins "len" = some (.builtin "len") := by decide +kernel
theorem boot_abs : bootBuiltins "abs" = some (.builtin "abs") := by decide +kernel
theorem boot_all : bootBuiltins "all" = some (.builtin "all") := by decide +kernel
theorem boot_max : bootBuiltins "max" = some (.builtin "max") := by decide +kernel
theorem boot_min : bootBuiltins "min" = some (.builtin "min") := by decide +kernel
theorem boot_int : bootBuiltins "int" = some (.type "int") := by decide +kernel
theorem boot_tuple : bootBuiltins "tuple" = some (.type "tuple") := by decide +kernel
theorem boot_list : bootBuiltins "list" = some (.type "list") := by decide +kernel
theorem boot_bool : bootBuiltins "bool" = some (.type "bool") := by decide +kernel
theorem boot_str : bootBuiltins "str" = some (.type "str") := by decide +kernel
section
variable {P : Program} {w : World} {K : PySem.W.Frag} {h : Heap} {mg : Str → Option Value} {base : Heap}
abbrev N_is_whole : List Str := ["told"]
theorem sc_is_whole : FnScope N_is_whole ["told"] (defScope s_is_whole) := ⟨rfl, rfl, rfl, by decide +kernel, rfl, by decide +kernel, by decide +kernel⟩
theorem ok_is_whole (X0 : K.In h) (G : h.Ns mainGlobals mg) (c : He.SaysD fa fn K) : ∃ fd, FunD K "is_whole" "is_whole" (defArgs s_is_whole) (defBody s_is_whole) (defScope s_is_whole) [] [] (He.ga K "is_whole") fd ∧ FnOk P w K mg base (L2N.CX P w) 1 (He.ga K "is_whole") fd ["told"] (spF K 1 m_is_whole) := by
  have f_bool : mg "bool" = none := He.free_ok X0 G (c.fact 58 rfl)
  have f_int : mg "int" = none := He.free_ok X0 G (c.fact 59 rfl)
  have f_isinstance : mg "isinstance" = none := He.free_ok X0 G (c.fact 60 rfl)
  obtain ⟨fd, F⟩ := c.def_ 0 (d := d_is_whole) rfl
  refine ⟨fd, F, fn_ok (k := 0) F sc_is_whole fun cdv A outer s H E hr B => ?_⟩
  have hp : PassesOwn (model P w) _ _ _ := passes_of (X := cxOf (L2N.CX P w) P w K mg base N_is_whole "is_whole" (defScope s_is_whole) (He.ga K "is_whole") cdv A outer s H E) (K := fun e s'' => L2N.CX P w outer H s E e s'') rfl
  have tk := L2N.takes_of (X := cxOf (L2N.CX P w) P w K mg base N_is_whole "is_whole" (defScope s_is_whole) (He.ga K "is_whole") cdv A outer s H E) (E := E) rfl rfl rfl rfl
  have nd := sc_is_whole.nd
  exact (qone (qret (qand (qisi k_int rfl f_isinstance rfl f_int boot_int (qvar (i := 0) rfl (.inl rfl))) (qone_ (qnot (qisi k_bool rfl f_isinstance rfl f_bool boot_bool (qvar (i := 0) rfl (.inl rfl))))))))
abbrev N_is_count : List Str := ["told"]
theorem sc_is_count : FnScope N_is_count ["told"] (defScope s_is_count) := ⟨rfl, rfl, rfl, by decide +kernel, rfl, by decide +kernel, by decide +kernel⟩
theorem ok_is_count (X0 : K.In h) (G : h.Ns mainGlobals mg) (c : He.SaysD fa fn K) : ∃ fd, FunD K "is_count" "is_count" (defArgs s_is_count) (defBody s_is_count) (defScope s_is_count) [] [] (He.ga K "is_count") fd ∧ FnOk P w K mg base (L2N.CX P w) 2 (He.ga K "is_count") fd ["told"] (spF K 1 m_is_count) := by
  obtain ⟨fd_is_whole, F_is_whole, O_is_whole⟩ := ok_is_whole (P := P) (w := w) (base := base) X0 G c
  have b_is_whole : Binds K fd_is_whole ["told"] [] := F_is_whole.bindsN fun _ _ _ _ _ _ us hl => match us, hl with | [_], _ => rfl
  have g_is_whole : mg "is_whole" = some (.ref (He.ga K "is_whole")) := He.glo_ok X0 G (c.fact 0 rfl)
  obtain ⟨fd, F⟩ := c.def_ 1 (d := d_is_count) rfl
  refine ⟨fd, F, fn_ok (k := 1) F sc_is_count fun cdv A outer s H E hr B => ?_⟩
  have hp : PassesOwn (model P w) _ _ _ := passes_of (X := cxOf (L2N.CX P w) P w K mg base N_is_count "is_count" (defScope s_is_count) (He.ga K "is_count") cdv A outer s H E) (K := fun e s'' => L2N.CX P w outer H s E e s'') rfl
  have tk := L2N.takes_of (X := cxOf (L2N.CX P w) P w K mg base N_is_count "is_count" (defScope s_is_count) (He.ga K "is_count") cdv A outer s H E) (E := E) rfl rfl rfl rfl
  have nd := sc_is_count.nd
  exact (qone (qret (qand (qcall O_is_whole (hr.mono (by decide)) rfl g_is_whole F_is_whole.kp b_is_whole (fun σ => L2N.passAt tk σ) (qa_cons (qvar (i := 0) rfl (.inl rfl)) qa_nil)) (qone_ (qcmp op_ge does_ge (qvar (i := 0) rfl (.inl rfl)) qint)))))
abbrev N_is_index : List Str := ["told", "many"]
theorem sc_is_index : FnScope N_is_index ["told", "many"] (defScope s_is_index) := ⟨rfl, rfl, rfl, by decide +kernel, rfl, by decide +kernel, by decide +kernel⟩
theorem ok_is_index (X0 : K.In h) (G : h.Ns mainGlobals mg) (c : He.SaysD fa fn K) : ∃ fd, FunD K "is_index" "is_index" (defArgs s_is_index) (defBody s_is_index) (defScope s_is_index) [] [] (He.ga K "is_index") fd ∧ FnOk P w K mg base (L2N.CX P w) 3 (He.ga K "is_index") fd ["told", "many"] (spF K 2 m_is_index) := by
  obtain ⟨fd_is_count, F_is_count, O_is_count⟩ := ok_is_count (P := P) (w := w) (base := base) X0 G c
  have b_is_count : Binds K fd_is_count ["told"] [] := F_is_count.bindsN fun _ _ _ _ _ _ us hl => match us, hl with | [_], _ => rfl
  have g_is_count : mg "is_count" = some (.ref (He.ga K "is_count")) := He.glo_ok X0 G (c.fact 1 rfl)
  obtain ⟨fd, F⟩ := c.def_ 2 (d := d_is_index) rfl
  refine ⟨fd, F, fn_ok (k := 2) F sc_is_index fun cdv A outer s H E hr B => ?_⟩
  have hp : PassesOwn (model P w) _ _ _ := passes_of (X := cxOf (L2N.CX P w) P w K mg base N_is_index "is_index" (defScope s_is_index) (He.ga K "is_index") cdv A outer s H E) (K := fun e s'' => L2N.CX P w outer H s E e s'') rfl
  have tk := L2N.takes_of (X := cxOf (L2N.CX P w) P w K mg base N_is_index "is_index" (defScope s_is_index) (He.ga K "is_index") cdv A outer s H E) (E := E) rfl rfl rfl rfl
  have nd := sc_is_index.nd
  exact (qone (qret (qand (qcall O_is_count (hr.mono (by decide)) rfl g_is_count F_is_count.kp b_is_count (fun σ => L2N.passAt tk σ) (qa_cons (qvar (i := 0) rfl (.inl rfl)) qa_nil)) (qone_ (qcmp op_lt does_lt (qvar (i := 0) rfl (.inl rfl)) (qvar (i := 1) rfl (.inl rfl)))))))
abbrev N__is_part : List Str := ["b", "many", "told", "x", "y", "kind"]
theorem sc__is_part : FnScope N__is_part ["b", "many", "told"] (defScope s__is_part) := ⟨rfl, rfl, rfl, by decide +kernel, rfl, by decide +kernel, by decide +kernel⟩
theorem ok__is_part (X0 : K.In h) (G : h.Ns mainGlobals mg) (c : He.SaysD fa fn K) : ∃ fd, FunD K "_is_part" "_is_part" (defArgs s__is_part) (defBody s__is_part) (defScope s__is_part) [] [] (He.ga K "_is_part") fd ∧ FnOk P w K mg base (L2N.CX P w) 4 (He.ga K "_is_part") fd ["b", "many", "told"] (spF K 3 m__is_part) := by
  obtain ⟨fd_is_index, F_is_index, O_is_index⟩ := ok_is_index (P := P) (w := w) (base := base) X0 G c
  have b_is_index : Binds K fd_is_index ["told", "many"] [] := F_is_index.bindsN fun _ _ _ _ _ _ us hl => match us, hl with | [_, _], _ => rfl
  have g_is_index : mg "is_index" = some (.ref (He.ga K "is_index")) := He.glo_ok X0 G (c.fact 2 rfl)
  have f_isinstance : mg "isinstance" = none := He.free_ok X0 G (c.fact 60 rfl)
  have f_len : mg "len" = none := He.free_ok X0 G (c.fact 61 rfl)
  have f_tuple : mg "tuple" = none := He.free_ok X0 G (c.fact 68 rfl)
  obtain ⟨fd, F⟩ := c.def_ 5 (d := d__is_part) rfl
  refine ⟨fd, F, fn_ok (k := 3) F sc__is_part fun cdv A outer s H E hr B => ?_⟩
  have hp : PassesOwn (model P w) _ _ _ := passes_of (X := cxOf (L2N.CX P w) P w K mg base N__is_part "_is_part" (defScope s__is_part) (He.ga K "_is_part") cdv A outer s H E) (K := fun e s'' => L2N.CX P w outer H s E e s'') rfl
  have tk := L2N.takes_of (X := cxOf (L2N.CX P w) P w K mg base N__is_part "_is_part" (defScope s__is_part) (He.ga K "_is_part") cdv A outer s H E) (E := E) rfl rfl rfl rfl
  have nd := sc__is_part.nd
  exact (qcons (qif (QW.t (qw_or (qtnot (qtval (qisi k_tuple rfl f_isinstance rfl f_tuple boot_tuple (qvar (i := 2) rfl (.inl rfl))))) (qw_or1 (qtcmp (op_neD hr.units) does_ne (qfnB call_len_seq does_len rfl f_len boot_len (qa_cons (qvar (i := 2) rfl (.inl rfl)) qa_nil)) qint)))) (qone (qret qbl)) qnil) (qcons (qasg (ws := [3, 4, 5]) (qvar (i := 2) rfl (.inl rfl)) (qgt rfl (qgscons (qgn (i := 3) nd rfl (.inl rfl) (by decide)) (qgscons (qgn (i := 4) nd rfl (.inl rfl) (by decide)) (qgscons (qgn (i := 5) nd rfl (.inl rfl) (by decide)) qgsnil))))) (qone (qret (qand (qcall O_is_index (hr.mono (by decide)) rfl g_is_index F_is_index.kp b_is_index (fun σ => L2N.passAt tk σ) (qa_cons (qvar (i := 3) rfl (.inl rfl)) (qa_cons (qvar (i := 0) rfl (.inl rfl)) qa_nil))) (qand (qcall O_is_index (hr.mono (by decide)) rfl g_is_index F_is_index.kp b_is_index (fun σ => L2N.passAt tk σ) (qa_cons (qvar (i := 4) rfl (.inl rfl)) (qa_cons (qvar (i := 0) rfl (.inl rfl)) qa_nil))) (qone_ (qcall O_is_index (hr.mono (by decide)) rfl g_is_index F_is_index.kp b_is_index (fun σ => L2N.passAt tk σ) (qa_cons (qvar (i := 5) rfl (.inl rfl)) (qa_cons (qvar (i := 1) rfl (.inl rfl)) qa_nil))))))))))
abbrev N_places_of : List Str := ["parts", "part"]
theorem sc_places_of : FnScope N_places_of ["parts"] (defScope s_places_of) := ⟨rfl, rfl, rfl, by decide +kernel, rfl, by decide +kernel, by decide +kernel⟩
theorem ok_places_of (X0 : K.In h) (G : h.Ns mainGlobals mg) (c : He.SaysD fa fn K) : ∃ fd, FunD K "places_of" "places_of" (defArgs s_places_of) (defBody s_places_of) (defScope s_places_of) [] [] (He.ga K "places_of") fd ∧ FnOk P w K mg base (L2N.CX P w) 1 (He.ga K "places_of") fd ["parts"] (spF K 1 m_places_of) := by
  obtain ⟨fd, F⟩ := c.def_ 6 (d := d_places_of) rfl
  refine ⟨fd, F, fn_ok (k := 0) F sc_places_of fun cdv A outer s H E hr B => ?_⟩
  have hp : PassesOwn (model P w) _ _ _ := passes_of (X := cxOf (L2N.CX P w) P w K mg base N_places_of "places_of" (defScope s_places_of) (He.ga K "places_of") cdv A outer s H E) (K := fun e s'' => L2N.CX P w outer H s E e s'') rfl
  have tk := L2N.takes_of (X := cxOf (L2N.CX P w) P w K mg base N_places_of "places_of" (defScope s_places_of) (He.ga K "places_of") cdv A outer s H E) (E := E) rfl rfl rfl rfl
  have nd := sc_places_of.nd
  exact (qone (qret (qcomp (vs := [1]) rfl nd (qiof (qvar (i := 0) rfl (.inl rfl))) (blkOk_by (own := [("part", 1)]) (N := N_places_of) (sc := defScope s_places_of) (by decide +kernel)) (gok_n (by decide)) rfl (fun _ _ _ _ _ B => (qgn (i := 1) nd rfl (.inl rfl) (by decide))) (fun _ _ _ _ _ => qtsnil) (fun _ _ _ _ _ => (qtup (qa_cons (qix (qvar (i := 1) rfl (.inl rfl)) qint) (qa_cons (qix (qvar (i := 1) rfl (.inl rfl)) qint) qa_nil)))))))
abbrev N__is_kind : List Str := ["b", "many", "told", "part"]
theorem sc__is_kind : FnScope N__is_kind ["b", "many", "told"] (defScope s__is_kind) := ⟨rfl, rfl, rfl, by decide +kernel, rfl, by decide +kernel, by decide +kernel⟩
theorem ok__is_kind (X0 : K.In h) (G : h.Ns mainGlobals mg) (c : He.SaysD fa fn K) : ∃ fd, FunD K "_is_kind" "_is_kind" (defArgs s__is_kind) (defBody s__is_kind) (defScope s__is_kind) [] [] (He.ga K "_is_kind") fd ∧ FnOk P w K mg base (L2N.CX P w) 5 (He.ga K "_is_kind") fd ["b", "many", "told"] (spF K 3 m__is_kind) := by
  obtain ⟨fd__is_part, F__is_part, O__is_part⟩ := ok__is_part (P := P) (w := w) (base := base) X0 G c
  have b__is_part : Binds K fd__is_part ["b", "many", "told"] [] := F__is_part.bindsN fun _ _ _ _ _ _ us hl => match us, hl with | [_, _, _], _ => rfl
  have g__is_part : mg "_is_part" = some (.ref (He.ga K "_is_part")) := He.glo_ok X0 G (c.fact 5 rfl)
  obtain ⟨fd_places_of, F_places_of, O_places_of⟩ := ok_places_of (P := P) (w := w) (base := base) X0 G c
  have b_places_of : Binds K fd_places_of ["parts"] [] := F_places_of.bindsN fun _ _ _ _ _ _ us hl => match us, hl with | [_], _ => rfl
  have g_places_of : mg "places_of" = some (.ref (He.ga K "places_of")) := He.glo_ok X0 G (c.fact 6 rfl)
  have f_all : mg "all" = none := He.free_ok X0 G (c.fact 57 rfl)
  have f_isinstance : mg "isinstance" = none := He.free_ok X0 G (c.fact 60 rfl)
  have f_len : mg "len" = none := He.free_ok X0 G (c.fact 61 rfl)
  have f_set : mg "set" = none := He.free_ok X0 G (c.fact 66 rfl)
  have f_tuple : mg "tuple" = none := He.free_ok X0 G (c.fact 68 rfl)
  obtain ⟨fd, F⟩ := c.def_ 4 (d := d__is_kind) rfl
  refine ⟨fd, F, fn_ok (k := 4) F sc__is_kind fun cdv A outer s H E hr B => ?_⟩
  have hp : PassesOwn (model P w) _ _ _ := passes_of (X := cxOf (L2N.CX P w) P w K mg base N__is_kind "_is_kind" (defScope s__is_kind) (He.ga K "_is_kind") cdv A outer s H E) (K := fun e s'' => L2N.CX P w outer H s E e s'') rfl
  have tk := L2N.takes_of (X := cxOf (L2N.CX P w) P w K mg base N__is_kind "_is_kind" (defScope s__is_kind) (He.ga K "_is_kind") cdv A outer s H E) (E := E) rfl rfl rfl rfl
  have nd := sc__is_kind.nd
  exact (qcons (qif (QW.t (qw_or (qtnot (qtval (qisi k_tuple rfl f_isinstance rfl f_tuple boot_tuple (qvar (i := 2) rfl (.inl rfl))))) (qw_or1 (qtcmp (op_neD hr.units) does_ne (qfnB call_len_seq does_len rfl f_len boot_len (qa_cons (qvar (i := 2) rfl (.inl rfl)) qa_nil)) (qop op_mulW does_mul (qvar (i := 0) rfl (.inr (.inl rfl))) (qvar (i := 0) rfl (.inr (.inl rfl)))))))) (qone (qret qbl)) qnil) (qcons (qif (qtnot (qtval (qfnB (cr_all rfl) does_all rfl f_all boot_all (qa_cons (qcomp (vs := [3]) rfl nd (qiof (qvar (i := 2) rfl (.inl rfl))) (blkOk_by (own := [("part", 3)]) (N := N__is_kind) (sc := defScope s__is_kind) (by decide +kernel)) (gok_n (by decide)) rfl (fun _ _ _ _ _ B => (qgn (i := 3) nd rfl (.inl rfl) (by decide))) (fun _ _ _ _ _ => qtsnil) (fun _ _ _ _ _ => (qcall O__is_part (hr.mono (by decide)) rfl g__is_part F__is_part.kp b__is_part (fun σ => L2N.passAt takesN0 σ) (qa_cons (qvar (i := 0) rfl (.inr (.inl rfl))) (qa_cons (qvar (i := 1) rfl (.inr (.inl rfl))) (qa_cons (qvar (i := 3) rfl (.inl rfl)) qa_nil)))))) qa_nil)))) (qone (qret qbl)) qnil) (qone (qret (qcmp (op_eqD hr.units) does_eq (qlenset rfl hr.units rfl f_len rfl f_set (qcall O_places_of (hr.mono (by decide)) rfl g_places_of F_places_of.kp b_places_of (fun σ => L2N.passAt tk σ) (qa_cons (qvar (i := 2) rfl (.inl rfl)) qa_nil))) (qop op_mulW does_mul (qvar (i := 0) rfl (.inr (.inl rfl))) (qvar (i := 0) rfl (.inr (.inl rfl)))))))))
abbrev N_is_book : List Str := ["told", "b", "kinds", "kind"]
theorem sc_is_book : FnScope N_is_book ["told"] (defScope s_is_book) := ⟨rfl, rfl, rfl, by decide +kernel, rfl, by decide +kernel, by decide +kernel⟩
theorem ok_is_book (X0 : K.In h) (G : h.Ns mainGlobals mg) (c : He.SaysD fa fn K) : ∃ fd, FunD K "is_book" "is_book" (defArgs s_is_book) (defBody s_is_book) (defScope s_is_book) [] [] (He.ga K "is_book") fd ∧ FnOk P w K mg base (L2N.CX P w) 6 (He.ga K "is_book") fd ["told"] (spF K 1 m_is_book) := by
  obtain ⟨fd_is_whole, F_is_whole, O_is_whole⟩ := ok_is_whole (P := P) (w := w) (base := base) X0 G c
  have b_is_whole : Binds K fd_is_whole ["told"] [] := F_is_whole.bindsN fun _ _ _ _ _ _ us hl => match us, hl with | [_], _ => rfl
  have g_is_whole : mg "is_whole" = some (.ref (He.ga K "is_whole")) := He.glo_ok X0 G (c.fact 0 rfl)
  obtain ⟨fd__is_kind, F__is_kind, O__is_kind⟩ := ok__is_kind (P := P) (w := w) (base := base) X0 G c
  have b__is_kind : Binds K fd__is_kind ["b", "many", "told"] [] := F__is_kind.bindsN fun _ _ _ _ _ _ us hl => match us, hl with | [_, _, _], _ => rfl
  have g__is_kind : mg "_is_kind" = some (.ref (He.ga K "_is_kind")) := He.glo_ok X0 G (c.fact 4 rfl)
  have f_all : mg "all" = none := He.free_ok X0 G (c.fact 57 rfl)
  have f_isinstance : mg "isinstance" = none := He.free_ok X0 G (c.fact 60 rfl)
  have f_len : mg "len" = none := He.free_ok X0 G (c.fact 61 rfl)
  have f_tuple : mg "tuple" = none := He.free_ok X0 G (c.fact 68 rfl)
  obtain ⟨fd, F⟩ := c.def_ 3 (d := d_is_book) rfl
  refine ⟨fd, F, fn_ok (k := 5) F sc_is_book fun cdv A outer s H E hr B => ?_⟩
  have hp : PassesOwn (model P w) _ _ _ := passes_of (X := cxOf (L2N.CX P w) P w K mg base N_is_book "is_book" (defScope s_is_book) (He.ga K "is_book") cdv A outer s H E) (K := fun e s'' => L2N.CX P w outer H s E e s'') rfl
  have tk := L2N.takes_of (X := cxOf (L2N.CX P w) P w K mg base N_is_book "is_book" (defScope s_is_book) (He.ga K "is_book") cdv A outer s H E) (E := E) rfl rfl rfl rfl
  have nd := sc_is_book.nd
  exact (qcons (qif (QW.t (qw_or (qtnot (qtval (qisi k_tuple rfl f_isinstance rfl f_tuple boot_tuple (qvar (i := 0) rfl (.inl rfl))))) (qw_or1 (qtcmp (op_neD hr.units) does_ne (qfnB call_len_seq does_len rfl f_len boot_len (qa_cons (qvar (i := 0) rfl (.inl rfl)) qa_nil)) qint)))) (qone (qret qbl)) qnil) (qcons (qasg (ws := [1, 2]) (qvar (i := 0) rfl (.inl rfl)) (qgt rfl (qgscons (qgn (i := 1) nd rfl (.inr rfl) (by decide)) (qgscons (qgn (i := 2) nd rfl (.inr rfl) (by decide)) qgsnil)))) (qcons (qif (QW.t (qw_or (qtnot (qtval (qcall O_is_whole (hr.mono (by decide)) rfl g_is_whole F_is_whole.kp b_is_whole (fun σ => L2N.passAt tk σ) (qa_cons (qvar (i := 1) rfl (.inr (.inl rfl))) qa_nil)))) (qw_or1 (qtcmp (op_notIn2 (room65 hr)) does_notIn (qvar (i := 1) rfl (.inr (.inl rfl))) (qtup (qa_cons qint (qa_cons qint qa_nil))))))) (qone (qret qbl)) qnil) (qcons (qif (QW.t (qw_or (qtnot (qtval (qisi k_tuple rfl f_isinstance rfl f_tuple boot_tuple (qvar (i := 2) rfl (.inr (.inl rfl)))))) (qw_or1 (qtcmp (op_eqD hr.units) does_eq (qfnB call_len_seq does_len rfl f_len boot_len (qa_cons (qvar (i := 2) rfl (.inr (.inl rfl))) qa_nil)) qint)))) (qone (qret qbl)) qnil) (qone (qret (qfnB (cr_all rfl) does_all rfl f_all boot_all (qa_cons (qcomp (vs := [3]) rfl nd (qiof (qvar (i := 2) rfl (.inr (.inl rfl)))) (blkOk_by (own := [("kind", 3)]) (N := N_is_book) (sc := defScope s_is_book) (by decide +kernel)) (gok_n (by decide)) rfl (fun _ _ _ _ _ B => (qgn (i := 3) nd rfl (.inl rfl) (by decide))) (fun _ _ _ _ _ => qtsnil) (fun _ _ _ _ _ => (qcall O__is_kind (hr.mono (by decide)) rfl g__is_kind F__is_kind.kp b__is_kind (fun σ => L2N.passAt takesN0 σ) (qa_cons (qvar (i := 1) rfl (.inr (.inl rfl))) (qa_cons (qfnB call_len_seq does_len rfl f_len boot_len (qa_cons (qvar (i := 2) rfl (.inr (.inl rfl))) qa_nil)) (qa_cons (qvar (i := 3) rfl (.inl rfl)) qa_nil)))))) qa_nil))))))))
abbrev N_is_posture : List Str := ["told", "way", "mirror"]
theorem sc_is_posture : FnScope N_is_posture ["told"] (defScope s_is_posture) := ⟨rfl, rfl, rfl, by decide +kernel, rfl, by decide +kernel, by decide +kernel⟩
theorem ok_is_posture (X0 : K.In h) (G : h.Ns mainGlobals mg) (c : He.SaysD fa fn K) : ∃ fd, FunD K "is_posture" "is_posture" (defArgs s_is_posture) (defBody s_is_posture) (defScope s_is_posture) [] [] (He.ga K "is_posture") fd ∧ FnOk P w K mg base (L2N.CX P w) 4 (He.ga K "is_posture") fd ["told"] (spF K 1 m_is_posture) := by
  obtain ⟨fd_is_index, F_is_index, O_is_index⟩ := ok_is_index (P := P) (w := w) (base := base) X0 G c
  have b_is_index : Binds K fd_is_index ["told", "many"] [] := F_is_index.bindsN fun _ _ _ _ _ _ us hl => match us, hl with | [_, _], _ => rfl
  have g_is_index : mg "is_index" = some (.ref (He.ga K "is_index")) := He.glo_ok X0 G (c.fact 2 rfl)
  have f_isinstance : mg "isinstance" = none := He.free_ok X0 G (c.fact 60 rfl)
  have f_len : mg "len" = none := He.free_ok X0 G (c.fact 61 rfl)
  have f_tuple : mg "tuple" = none := He.free_ok X0 G (c.fact 68 rfl)
  obtain ⟨fd, F⟩ := c.def_ 7 (d := d_is_posture) rfl
  refine ⟨fd, F, fn_ok (k := 3) F sc_is_posture fun cdv A outer s H E hr B => ?_⟩
  have hp : PassesOwn (model P w) _ _ _ := passes_of (X := cxOf (L2N.CX P w) P w K mg base N_is_posture "is_posture" (defScope s_is_posture) (He.ga K "is_posture") cdv A outer s H E) (K := fun e s'' => L2N.CX P w outer H s E e s'') rfl
  have tk := L2N.takes_of (X := cxOf (L2N.CX P w) P w K mg base N_is_posture "is_posture" (defScope s_is_posture) (He.ga K "is_posture") cdv A outer s H E) (E := E) rfl rfl rfl rfl
  have nd := sc_is_posture.nd
  exact (qcons (qif (QW.t (qw_or (qtnot (qtval (qisi k_tuple rfl f_isinstance rfl f_tuple boot_tuple (qvar (i := 0) rfl (.inl rfl))))) (qw_or1 (qtcmp (op_neD hr.units) does_ne (qfnB call_len_seq does_len rfl f_len boot_len (qa_cons (qvar (i := 0) rfl (.inl rfl)) qa_nil)) qint)))) (qone (qret qbl)) qnil) (qcons (qasg (ws := [1, 2]) (qvar (i := 0) rfl (.inl rfl)) (qgt rfl (qgscons (qgn (i := 1) nd rfl (.inl rfl) (by decide)) (qgscons (qgn (i := 2) nd rfl (.inl rfl) (by decide)) qgsnil)))) (qone (qret (qand (qcall O_is_index (hr.mono (by decide)) rfl g_is_index F_is_index.kp b_is_index (fun σ => L2N.passAt tk σ) (qa_cons (qvar (i := 1) rfl (.inl rfl)) (qa_cons qint qa_nil))) (qone_ (qcall O_is_index (hr.mono (by decide)) rfl g_is_index F_is_index.kp b_is_index (fun σ => L2N.passAt tk σ) (qa_cons (qvar (i := 2) rfl (.inl rfl)) (qa_cons qint qa_nil)))))))))
abbrev N_is_turn : List Str := ["told"]
theorem sc_is_turn : FnScope N_is_turn ["told"] (defScope s_is_turn) := ⟨rfl, rfl, rfl, by decide +kernel, rfl, by decide +kernel, by decide +kernel⟩
theorem ok_is_turn (X0 : K.In h) (G : h.Ns mainGlobals mg) (c : He.SaysD fa fn K) : ∃ fd, FunD K "is_turn" "is_turn" (defArgs s_is_turn) (defBody s_is_turn) (defScope s_is_turn) [] [] (He.ga K "is_turn") fd ∧ FnOk P w K mg base (L2N.CX P w) 5 (He.ga K "is_turn") fd ["told"] (spF K 1 m_is_turn) := by
  obtain ⟨fd_is_posture, F_is_posture, O_is_posture⟩ := ok_is_posture (P := P) (w := w) (base := base) X0 G c
  have b_is_posture : Binds K fd_is_posture ["told"] [] := F_is_posture.bindsN fun _ _ _ _ _ _ us hl => match us, hl with | [_], _ => rfl
  have g_is_posture : mg "is_posture" = some (.ref (He.ga K "is_posture")) := He.glo_ok X0 G (c.fact 7 rfl)
  obtain ⟨fd_is_index, F_is_index, O_is_index⟩ := ok_is_index (P := P) (w := w) (base := base) X0 G c
  have b_is_index : Binds K fd_is_index ["told", "many"] [] := F_is_index.bindsN fun _ _ _ _ _ _ us hl => match us, hl with | [_, _], _ => rfl
  have g_is_index : mg "is_index" = some (.ref (He.ga K "is_index")) := He.glo_ok X0 G (c.fact 2 rfl)
  have f_isinstance : mg "isinstance" = none := He.free_ok X0 G (c.fact 60 rfl)
  have f_len : mg "len" = none := He.free_ok X0 G (c.fact 61 rfl)
  have f_tuple : mg "tuple" = none := He.free_ok X0 G (c.fact 68 rfl)
  obtain ⟨fd, F⟩ := c.def_ 8 (d := d_is_turn) rfl
  refine ⟨fd, F, fn_ok (k := 4) F sc_is_turn fun cdv A outer s H E hr B => ?_⟩
  have hp : PassesOwn (model P w) _ _ _ := passes_of (X := cxOf (L2N.CX P w) P w K mg base N_is_turn "is_turn" (defScope s_is_turn) (He.ga K "is_turn") cdv A outer s H E) (K := fun e s'' => L2N.CX P w outer H s E e s'') rfl
  have tk := L2N.takes_of (X := cxOf (L2N.CX P w) P w K mg base N_is_turn "is_turn" (defScope s_is_turn) (He.ga K "is_turn") cdv A outer s H E) (E := E) rfl rfl rfl rfl
  have nd := sc_is_turn.nd
  exact (qcons (qif (QW.t (qw_or (qtnot (qtval (qisi k_tuple rfl f_isinstance rfl f_tuple boot_tuple (qvar (i := 0) rfl (.inl rfl))))) (qw_or1 (qtcmp (op_neD hr.units) does_ne (qfnB call_len_seq does_len rfl f_len boot_len (qa_cons (qvar (i := 0) rfl (.inl rfl)) qa_nil)) qint)))) (qone (qret qbl)) qnil) (qone (qret (qand (qcall O_is_posture (hr.mono (by decide)) rfl g_is_posture F_is_posture.kp b_is_posture (fun σ => L2N.passAt tk σ) (qa_cons (qsl (qvar (i := 0) rfl (.inl rfl)) qpn (qps qint)) qa_nil)) (qone_ (qcall O_is_index (hr.mono (by decide)) rfl g_is_index F_is_index.kp b_is_index (fun σ => L2N.passAt tk σ) (qa_cons (qix (qvar (i := 0) rfl (.inl rfl)) qint) (qa_cons qint qa_nil))))))))
abbrev N__is_square : List Str := ["many", "told", "x", "y", "kind"]
theorem sc__is_square : FnScope N__is_square ["many", "told"] (defScope s__is_square) := ⟨rfl, rfl, rfl, by decide +kernel, rfl, by decide +kernel, by decide +kernel⟩
theorem ok__is_square (X0 : K.In h) (G : h.Ns mainGlobals mg) (c : He.SaysD fa fn K) : ∃ fd, FunD K "_is_square" "_is_square" (defArgs s__is_square) (defBody s__is_square) (defScope s__is_square) [] [] (He.ga K "_is_square") fd ∧ FnOk P w K mg base (L2N.CX P w) 4 (He.ga K "_is_square") fd ["many", "told"] (spF K 2 m__is_square) := by
  obtain ⟨fd_is_count, F_is_count, O_is_count⟩ := ok_is_count (P := P) (w := w) (base := base) X0 G c
  have b_is_count : Binds K fd_is_count ["told"] [] := F_is_count.bindsN fun _ _ _ _ _ _ us hl => match us, hl with | [_], _ => rfl
  have g_is_count : mg "is_count" = some (.ref (He.ga K "is_count")) := He.glo_ok X0 G (c.fact 1 rfl)
  obtain ⟨fd_is_index, F_is_index, O_is_index⟩ := ok_is_index (P := P) (w := w) (base := base) X0 G c
  have b_is_index : Binds K fd_is_index ["told", "many"] [] := F_is_index.bindsN fun _ _ _ _ _ _ us hl => match us, hl with | [_, _], _ => rfl
  have g_is_index : mg "is_index" = some (.ref (He.ga K "is_index")) := He.glo_ok X0 G (c.fact 2 rfl)
  have f_isinstance : mg "isinstance" = none := He.free_ok X0 G (c.fact 60 rfl)
  have f_len : mg "len" = none := He.free_ok X0 G (c.fact 61 rfl)
  have f_tuple : mg "tuple" = none := He.free_ok X0 G (c.fact 68 rfl)
  obtain ⟨fd, F⟩ := c.def_ 10 (d := d__is_square) rfl
  refine ⟨fd, F, fn_ok (k := 3) F sc__is_square fun cdv A outer s H E hr B => ?_⟩
  have hp : PassesOwn (model P w) _ _ _ := passes_of (X := cxOf (L2N.CX P w) P w K mg base N__is_square "_is_square" (defScope s__is_square) (He.ga K "_is_square") cdv A outer s H E) (K := fun e s'' => L2N.CX P w outer H s E e s'') rfl
  have tk := L2N.takes_of (X := cxOf (L2N.CX P w) P w K mg base N__is_square "_is_square" (defScope s__is_square) (He.ga K "_is_square") cdv A outer s H E) (E := E) rfl rfl rfl rfl
  have nd := sc__is_square.nd
  exact (qcons (qif (QW.t (qw_or (qtnot (qtval (qisi k_tuple rfl f_isinstance rfl f_tuple boot_tuple (qvar (i := 1) rfl (.inl rfl))))) (qw_or1 (qtcmp (op_neD hr.units) does_ne (qfnB call_len_seq does_len rfl f_len boot_len (qa_cons (qvar (i := 1) rfl (.inl rfl)) qa_nil)) qint)))) (qone (qret qbl)) qnil) (qcons (qasg (ws := [2, 3, 4]) (qvar (i := 1) rfl (.inl rfl)) (qgt rfl (qgscons (qgn (i := 2) nd rfl (.inl rfl) (by decide)) (qgscons (qgn (i := 3) nd rfl (.inl rfl) (by decide)) (qgscons (qgn (i := 4) nd rfl (.inl rfl) (by decide)) qgsnil))))) (qone (qret (qand (qcall O_is_count (hr.mono (by decide)) rfl g_is_count F_is_count.kp b_is_count (fun σ => L2N.passAt tk σ) (qa_cons (qvar (i := 2) rfl (.inl rfl)) qa_nil)) (qand (qcall O_is_count (hr.mono (by decide)) rfl g_is_count F_is_count.kp b_is_count (fun σ => L2N.passAt tk σ) (qa_cons (qvar (i := 3) rfl (.inl rfl)) qa_nil)) (qone_ (qcall O_is_index (hr.mono (by decide)) rfl g_is_index F_is_index.kp b_is_index (fun σ => L2N.passAt tk σ) (qa_cons (qvar (i := 4) rfl (.inl rfl)) (qa_cons (qvar (i := 0) rfl (.inl rfl)) qa_nil))))))))))
abbrev N_is_field : List Str := ["told", "book", "squares", "square"]
theorem sc_is_field : FnScope N_is_field ["told"] (defScope s_is_field) := ⟨rfl, rfl, rfl, by decide +kernel, rfl, by decide +kernel, by decide +kernel⟩
theorem ok_is_field (X0 : K.In h) (G : h.Ns mainGlobals mg) (c : He.SaysD fa fn K) : ∃ fd, FunD K "is_field" "is_field" (defArgs s_is_field) (defBody s_is_field) (defScope s_is_field) [] [] (He.ga K "is_field") fd ∧ FnOk P w K mg base (L2N.CX P w) 7 (He.ga K "is_field") fd ["told"] (spF K 1 m_is_field) := by
  obtain ⟨fd_is_book, F_is_book, O_is_book⟩ := ok_is_book (P := P) (w := w) (base := base) X0 G c
  have b_is_book : Binds K fd_is_book ["told"] [] := F_is_book.bindsN fun _ _ _ _ _ _ us hl => match us, hl with | [_], _ => rfl
  have g_is_book : mg "is_book" = some (.ref (He.ga K "is_book")) := He.glo_ok X0 G (c.fact 3 rfl)
  obtain ⟨fd__is_square, F__is_square, O__is_square⟩ := ok__is_square (P := P) (w := w) (base := base) X0 G c
  have b__is_square : Binds K fd__is_square ["many", "told"] [] := F__is_square.bindsN fun _ _ _ _ _ _ us hl => match us, hl with | [_, _], _ => rfl
  have g__is_square : mg "_is_square" = some (.ref (He.ga K "_is_square")) := He.glo_ok X0 G (c.fact 10 rfl)
  obtain ⟨fd_places_of, F_places_of, O_places_of⟩ := ok_places_of (P := P) (w := w) (base := base) X0 G c
  have b_places_of : Binds K fd_places_of ["parts"] [] := F_places_of.bindsN fun _ _ _ _ _ _ us hl => match us, hl with | [_], _ => rfl
  have g_places_of : mg "places_of" = some (.ref (He.ga K "places_of")) := He.glo_ok X0 G (c.fact 6 rfl)
  have f_all : mg "all" = none := He.free_ok X0 G (c.fact 57 rfl)
  have f_isinstance : mg "isinstance" = none := He.free_ok X0 G (c.fact 60 rfl)
  have f_len : mg "len" = none := He.free_ok X0 G (c.fact 61 rfl)
  have f_set : mg "set" = none := He.free_ok X0 G (c.fact 66 rfl)
  have f_tuple : mg "tuple" = none := He.free_ok X0 G (c.fact 68 rfl)
  obtain ⟨fd, F⟩ := c.def_ 9 (d := d_is_field) rfl
  refine ⟨fd, F, fn_ok (k := 6) F sc_is_field fun cdv A outer s H E hr B => ?_⟩
  have hp : PassesOwn (model P w) _ _ _ := passes_of (X := cxOf (L2N.CX P w) P w K mg base N_is_field "is_field" (defScope s_is_field) (He.ga K "is_field") cdv A outer s H E) (K := fun e s'' => L2N.CX P w outer H s E e s'') rfl
  have tk := L2N.takes_of (X := cxOf (L2N.CX P w) P w K mg base N_is_field "is_field" (defScope s_is_field) (He.ga K "is_field") cdv A outer s H E) (E := E) rfl rfl rfl rfl
  have nd := sc_is_field.nd
  exact (qcons (qif (QW.t (qw_or (qtnot (qtval (qisi k_tuple rfl f_isinstance rfl f_tuple boot_tuple (qvar (i := 0) rfl (.inl rfl))))) (qw_or1 (qtcmp (op_neD hr.units) does_ne (qfnB call_len_seq does_len rfl f_len boot_len (qa_cons (qvar (i := 0) rfl (.inl rfl)) qa_nil)) qint)))) (qone (qret qbl)) qnil) (qcons (qasg (ws := [1, 2]) (qvar (i := 0) rfl (.inl rfl)) (qgt rfl (qgscons (qgn (i := 1) nd rfl (.inr rfl) (by decide)) (qgscons (qgn (i := 2) nd rfl (.inl rfl) (by decide)) qgsnil)))) (qcons (qif (qtnot (qtval (qcall O_is_book (hr.mono (by decide)) rfl g_is_book F_is_book.kp b_is_book (fun σ => L2N.passAt tk σ) (qa_cons (qvar (i := 1) rfl (.inr (.inl rfl))) qa_nil)))) (qone (qret qbl)) qnil) (qcons (qif (QW.t (qw_or (qtnot (qtval (qisi k_tuple rfl f_isinstance rfl f_tuple boot_tuple (qvar (i := 2) rfl (.inl rfl))))) (qw_or1 (qtcmp (op_eqD hr.units) does_eq (qfnB call_len_seq does_len rfl f_len boot_len (qa_cons (qvar (i := 2) rfl (.inl rfl)) qa_nil)) qint)))) (qone (qret qbl)) qnil) (qcons (qif (qtnot (qtval (qfnB (cr_all rfl) does_all rfl f_all boot_all (qa_cons (qcomp (vs := [3]) rfl nd (qiof (qvar (i := 2) rfl (.inl rfl))) (blkOk_by (own := [("square", 3)]) (N := N_is_field) (sc := defScope s_is_field) (by decide +kernel)) (gok_n (by decide)) rfl (fun _ _ _ _ _ B => (qgn (i := 3) nd rfl (.inl rfl) (by decide))) (fun _ _ _ _ _ => qtsnil) (fun _ _ _ _ _ => (qcall O__is_square (hr.mono (by decide)) rfl g__is_square F__is_square.kp b__is_square (fun σ => L2N.passAt takesN0 σ) (qa_cons (qfnB call_len_seq does_len rfl f_len boot_len (qa_cons (qix (qvar (i := 1) rfl (.inr (.inl rfl))) qint) qa_nil)) (qa_cons (qvar (i := 3) rfl (.inl rfl)) qa_nil))))) qa_nil)))) (qone (qret qbl)) qnil) (qone (qret (qcmp (op_eqD hr.units) does_eq (qlenset rfl hr.units rfl f_len rfl f_set (qcall O_places_of (hr.mono (by decide)) rfl g_places_of F_places_of.kp b_places_of (fun σ => L2N.passAt tk σ) (qa_cons (qvar (i := 2) rfl (.inl rfl)) qa_nil))) (qfnB call_len_seq does_len rfl f_len boot_len (qa_cons (qvar (i := 2) rfl (.inl rfl)) qa_nil))))))))))
abbrev N_is_box : List Str := ["told", "left", "low", "right", "high", "side"]
theorem sc_is_box : FnScope N_is_box ["told"] (defScope s_is_box) := ⟨rfl, rfl, rfl, by decide +kernel, rfl, by decide +kernel, by decide +kernel⟩
theorem ok_is_box (X0 : K.In h) (G : h.Ns mainGlobals mg) (c : He.SaysD fa fn K) : ∃ fd, FunD K "is_box" "is_box" (defArgs s_is_box) (defBody s_is_box) (defScope s_is_box) [] [] (He.ga K "is_box") fd ∧ FnOk P w K mg base (L2N.CX P w) 3 (He.ga K "is_box") fd ["told"] (spF K 1 m_is_box) := by
  obtain ⟨fd_is_count, F_is_count, O_is_count⟩ := ok_is_count (P := P) (w := w) (base := base) X0 G c
  have b_is_count : Binds K fd_is_count ["told"] [] := F_is_count.bindsN fun _ _ _ _ _ _ us hl => match us, hl with | [_], _ => rfl
  have g_is_count : mg "is_count" = some (.ref (He.ga K "is_count")) := He.glo_ok X0 G (c.fact 1 rfl)
  have f_all : mg "all" = none := He.free_ok X0 G (c.fact 57 rfl)
  have f_isinstance : mg "isinstance" = none := He.free_ok X0 G (c.fact 60 rfl)
  have f_len : mg "len" = none := He.free_ok X0 G (c.fact 61 rfl)
  have f_tuple : mg "tuple" = none := He.free_ok X0 G (c.fact 68 rfl)
  obtain ⟨fd, F⟩ := c.def_ 11 (d := d_is_box) rfl
  refine ⟨fd, F, fn_ok (k := 2) F sc_is_box fun cdv A outer s H E hr B => ?_⟩
  have hp : PassesOwn (model P w) _ _ _ := passes_of (X := cxOf (L2N.CX P w) P w K mg base N_is_box "is_box" (defScope s_is_box) (He.ga K "is_box") cdv A outer s H E) (K := fun e s'' => L2N.CX P w outer H s E e s'') rfl
  have tk := L2N.takes_of (X := cxOf (L2N.CX P w) P w K mg base N_is_box "is_box" (defScope s_is_box) (He.ga K "is_box") cdv A outer s H E) (E := E) rfl rfl rfl rfl
  have nd := sc_is_box.nd
  exact (qcons (qif (QW.t (qw_or (qtnot (qtval (qisi k_tuple rfl f_isinstance rfl f_tuple boot_tuple (qvar (i := 0) rfl (.inl rfl))))) (qw_or1 (qtcmp (op_neD hr.units) does_ne (qfnB call_len_seq does_len rfl f_len boot_len (qa_cons (qvar (i := 0) rfl (.inl rfl)) qa_nil)) qint)))) (qone (qret qbl)) qnil) (qcons (qif (qtnot (qtval (qfnB (cr_all rfl) does_all rfl f_all boot_all (qa_cons (qcomp (vs := [5]) rfl nd (qiof (qvar (i := 0) rfl (.inl rfl))) (blkOk_by (own := [("side", 5)]) (N := N_is_box) (sc := defScope s_is_box) (by decide +kernel)) (gok_n (by decide)) rfl (fun _ _ _ _ _ B => (qgn (i := 5) nd rfl (.inl rfl) (by decide))) (fun _ _ _ _ _ => qtsnil) (fun _ _ _ _ _ => (qcall O_is_count (hr.mono (by decide)) rfl g_is_count F_is_count.kp b_is_count (fun σ => L2N.passAt takesN0 σ) (qa_cons (qvar (i := 5) rfl (.inl rfl)) qa_nil)))) qa_nil)))) (qone (qret qbl)) qnil) (qcons (qasg (ws := [1, 2, 3, 4]) (qvar (i := 0) rfl (.inl rfl)) (qgt rfl (qgscons (qgn (i := 1) nd rfl (.inl rfl) (by decide)) (qgscons (qgn (i := 2) nd rfl (.inl rfl) (by decide)) (qgscons (qgn (i := 3) nd rfl (.inl rfl) (by decide)) (qgscons (qgn (i := 4) nd rfl (.inl rfl) (by decide)) qgsnil)))))) (qone (qret (qand (qcmp op_lt does_lt (qvar (i := 1) rfl (.inl rfl)) (qvar (i := 3) rfl (.inl rfl))) (qone_ (qcmp op_lt does_lt (qvar (i := 2) rfl (.inl rfl)) (qvar (i := 4) rfl (.inl rfl))))))))))
abbrev N_told_integer : List Str := ["word"]
theorem sc_told_integer : FnScope N_told_integer ["word"] (defScope s_told_integer) := ⟨rfl, rfl, rfl, by decide +kernel, rfl, by decide +kernel, by decide +kernel⟩
theorem ok_told_integer (X0 : K.In h) (G : h.Ns mainGlobals mg) (c : He.SaysD fa fn K) : ∃ fd, FunD K "told_integer" "told_integer" (defArgs s_told_integer) (defBody s_told_integer) (defScope s_told_integer) [] [] (He.ga K "told_integer") fd ∧ FnOk P w K mg base (L2N.CX P w) 1 (He.ga K "told_integer") fd ["word"] (spF K 1 m_told_integer) := by
  have i_MOST_DIGITS : ∃ t, mg "MOST_DIGITS" = some (.int 40 t) := He.int_ok X0 G (c.fact 69 rfl)
  have f_int : mg "int" = none := He.free_ok X0 G (c.fact 59 rfl)
  have f_len : mg "len" = none := He.free_ok X0 G (c.fact 61 rfl)
  obtain ⟨fd, F⟩ := c.def_ 15 (d := d_told_integer) rfl
  refine ⟨fd, F, fn_ok (k := 0) F sc_told_integer fun cdv A outer s H E hr B => ?_⟩
  have hp : PassesOwn (model P w) _ _ _ := passes_of (X := cxOf (L2N.CX P w) P w K mg base N_told_integer "told_integer" (defScope s_told_integer) (He.ga K "told_integer") cdv A outer s H E) (K := fun e s'' => L2N.CX P w outer H s E e s'') rfl
  have tk := L2N.takes_of (X := cxOf (L2N.CX P w) P w K mg base N_told_integer "told_integer" (defScope s_told_integer) (He.ga K "told_integer") cdv A outer s H E) (E := E) rfl rfl rfl rfl
  have nd := sc_told_integer.nd
  exact (qcons (qif (QW.t (qw_or (qtnot (qtval (qsm0 PySem.F.slot_str_isascii PySem.F.type_str_isascii mt_isascii sm_ascii (qvar (i := 0) rfl (.inl rfl))))) (qw_or (qtnot (qtval (qsm0 PySem.F.slot_str_isdigit PySem.F.type_str_isdigit mt_isdigit sm_digit (qvar (i := 0) rfl (.inl rfl))))) (qw_or1 (qtcmp op_gt does_gt (qfnB call_len_str does_lenS rfl f_len boot_len (qa_cons (qvar (i := 0) rfl (.inl rfl)) qa_nil)) (qgint rfl i_MOST_DIGITS)))))) (qone (qret qnon)) qnil) (qcons (qif (QW.t (qw_and (qtval (qsm1 PySem.F.slot_str_startswith PySem.F.type_str_startswith mt_startswith sm_starts (qvar (i := 0) rfl (.inl rfl)) qstr)) (qw_and1 (qtcmp (op_neD hr.units) does_ne (qvar (i := 0) rfl (.inl rfl)) qstr)))) (qone (qret qnon)) qnil) (qone (qret (qfnT call_int_str does_intT rfl f_int boot_int (qa_cons (qvar (i := 0) rfl (.inl rfl)) qa_nil))))))
abbrev N__told_b : List Str := ["line"]
theorem sc__told_b : FnScope N__told_b ["line"] (defScope s__told_b) := ⟨rfl, rfl, rfl, by decide +kernel, rfl, by decide +kernel, by decide +kernel⟩
theorem ok__told_b (X0 : K.In h) (G : h.Ns mainGlobals mg) (c : He.SaysD fa fn K) : ∃ fd, FunD K "_told_b" "_told_b" (defArgs s__told_b) (defBody s__told_b) (defScope s__told_b) [] [] (He.ga K "_told_b") fd ∧ FnOk P w K mg base (L2N.CX P w) 2 (He.ga K "_told_b") fd ["line"] (spF K 1 m__told_b) := by
  obtain ⟨fd_told_integer, F_told_integer, O_told_integer⟩ := ok_told_integer (P := P) (w := w) (base := base) X0 G c
  have b_told_integer : Binds K fd_told_integer ["word"] [] := F_told_integer.bindsN fun _ _ _ _ _ _ us hl => match us, hl with | [_], _ => rfl
  have g_told_integer : mg "told_integer" = some (.ref (He.ga K "told_integer")) := He.glo_ok X0 G (c.fact 15 rfl)
  obtain ⟨fd, F⟩ := c.def_ 14 (d := d__told_b) rfl
  refine ⟨fd, F, fn_ok (k := 1) F sc__told_b fun cdv A outer s H E hr B => ?_⟩
  have hp : PassesOwn (model P w) _ _ _ := passes_of (X := cxOf (L2N.CX P w) P w K mg base N__told_b "_told_b" (defScope s__told_b) (He.ga K "_told_b") cdv A outer s H E) (K := fun e s'' => L2N.CX P w outer H s E e s'') rfl
  have tk := L2N.takes_of (X := cxOf (L2N.CX P w) P w K mg base N__told_b "_told_b" (defScope s__told_b) (He.ga K "_told_b") cdv A outer s H E) (E := E) rfl rfl rfl rfl
  have nd := sc__told_b.nd
  exact (qcons (qif (qtnot (qtval (qsm1 PySem.F.slot_str_startswith PySem.F.type_str_startswith mt_startswith sm_starts (qvar (i := 0) rfl (.inl rfl)) qstr))) (qone (qret qnon)) qnil) (qone (qret (qcall O_told_integer (hr.mono (by decide)) rfl g_told_integer F_told_integer.kp b_told_integer (fun σ => L2N.passAt tk σ) (qa_cons (qslS (qvar (i := 0) rfl (.inl rfl)) (qps qint) qpn) qa_nil)))))
abbrev N__told_integers : List Str := ["words", "many", "integers", "word"]
theorem sc__told_integers : FnScope N__told_integers ["words", "many"] (defScope s__told_integers) := ⟨rfl, rfl, rfl, by decide +kernel, rfl, by decide +kernel, by decide +kernel⟩
theorem ok__told_integers (X0 : K.In h) (G : h.Ns mainGlobals mg) (c : He.SaysD fa fn K) : ∃ fd, FunD K "_told_integers" "_told_integers" (defArgs s__told_integers) (defBody s__told_integers) (defScope s__told_integers) [] [] (He.ga K "_told_integers") fd ∧ FnOk P w K mg base (L2N.CX P w) 2 (He.ga K "_told_integers") fd ["words", "many"] (spF K 2 m__told_integers) := by
  obtain ⟨fd_told_integer, F_told_integer, O_told_integer⟩ := ok_told_integer (P := P) (w := w) (base := base) X0 G c
  have b_told_integer : Binds K fd_told_integer ["word"] [] := F_told_integer.bindsN fun _ _ _ _ _ _ us hl => match us, hl with | [_], _ => rfl
  have g_told_integer : mg "told_integer" = some (.ref (He.ga K "told_integer")) := He.glo_ok X0 G (c.fact 15 rfl)
  have f_len : mg "len" = none := He.free_ok X0 G (c.fact 61 rfl)
  have f_tuple : mg "tuple" = none := He.free_ok X0 G (c.fact 68 rfl)
  obtain ⟨fd, F⟩ := c.def_ 16 (d := d__told_integers) rfl
  refine ⟨fd, F, fn_ok (k := 1) F sc__told_integers fun cdv A outer s H E hr B => ?_⟩
  have hp : PassesOwn (model P w) _ _ _ := passes_of (X := cxOf (L2N.CX P w) P w K mg base N__told_integers "_told_integers" (defScope s__told_integers) (He.ga K "_told_integers") cdv A outer s H E) (K := fun e s'' => L2N.CX P w outer H s E e s'') rfl
  have tk := L2N.takes_of (X := cxOf (L2N.CX P w) P w K mg base N__told_integers "_told_integers" (defScope s__told_integers) (He.ga K "_told_integers") cdv A outer s H E) (E := E) rfl rfl rfl rfl
  have nd := sc__told_integers.nd
  exact (qcons (qsetcomp (i := 2) (vs := [3]) rfl nd rfl rfl (sw_true rfl rfl rfl (by decide +kernel)) (qiof (qvar (i := 0) rfl (.inl rfl))) (blkOk_by (own := [("word", 3)]) (N := N__told_integers) (sc := defScope s__told_integers) (by decide +kernel)) (gok_n (by decide)) rfl (fun _ _ _ _ _ B => (qgn (i := 3) nd rfl (.inl rfl) (by decide))) (fun _ _ _ _ _ => qtsnil) (fun _ _ _ _ _ => (qcall O_told_integer (hr.mono (by decide)) rfl g_told_integer F_told_integer.kp b_told_integer (fun σ => L2N.passAt takesN0 σ) (qa_cons (qvar (i := 3) rfl (.inl rfl)) qa_nil)))) (qcons (qif (QW.t (qw_or (qtcmp (op_neD hr.units) does_ne (qfnB call_len_seq does_len rfl f_len boot_len (qa_cons (qvar (i := 2) rfl (.inl rfl)) qa_nil)) (qvar (i := 1) rfl (.inl rfl))) (qw_or1 (qtcmp (op_in2 (room65 hr)) does_in qnon (qvar (i := 2) rfl (.inl rfl)))))) (qone (qret qnon)) qnil) (qone (qret (qfnT call_tuple_of does_tuple rfl f_tuple boot_tuple (qa_cons (qvar (i := 2) rfl (.inl rfl)) qa_nil))))))
abbrev N__told_rows : List Str := ["line", "rows", "row"]
theorem sc__told_rows : FnScope N__told_rows ["line"] (defScope s__told_rows) := ⟨rfl, rfl, rfl, by decide +kernel, rfl, by decide +kernel, by decide +kernel⟩
theorem ok__told_rows (X0 : K.In h) (G : h.Ns mainGlobals mg) (c : He.SaysD fa fn K) : ∃ fd, FunD K "_told_rows" "_told_rows" (defArgs s__told_rows) (defBody s__told_rows) (defScope s__told_rows) [] [] (He.ga K "_told_rows") fd ∧ FnOk P w K mg base (L2N.CX P w) 3 (He.ga K "_told_rows") fd ["line"] (spF K 1 m__told_rows) := by
  obtain ⟨fd__told_integers, F__told_integers, O__told_integers⟩ := ok__told_integers (P := P) (w := w) (base := base) X0 G c
  have b__told_integers : Binds K fd__told_integers ["words", "many"] [] := F__told_integers.bindsN fun _ _ _ _ _ _ us hl => match us, hl with | [_, _], _ => rfl
  have g__told_integers : mg "_told_integers" = some (.ref (He.ga K "_told_integers")) := He.glo_ok X0 G (c.fact 16 rfl)
  have f_tuple : mg "tuple" = none := He.free_ok X0 G (c.fact 68 rfl)
  obtain ⟨fd, F⟩ := c.def_ 17 (d := d__told_rows) rfl
  refine ⟨fd, F, fn_ok (k := 2) F sc__told_rows fun cdv A outer s H E hr B => ?_⟩
  have hp : PassesOwn (model P w) _ _ _ := passes_of (X := cxOf (L2N.CX P w) P w K mg base N__told_rows "_told_rows" (defScope s__told_rows) (He.ga K "_told_rows") cdv A outer s H E) (K := fun e s'' => L2N.CX P w outer H s E e s'') rfl
  have tk := L2N.takes_of (X := cxOf (L2N.CX P w) P w K mg base N__told_rows "_told_rows" (defScope s__told_rows) (He.ga K "_told_rows") cdv A outer s H E) (E := E) rfl rfl rfl rfl
  have nd := sc__told_rows.nd
  exact (qcons (qsetcomp (i := 1) (vs := [2]) rfl nd rfl rfl (sw_true rfl rfl rfl (by decide +kernel)) (qiof (qsm1 PySem.F.slot_str_split PySem.F.type_str_split mt_split sm_split (qvar (i := 0) rfl (.inl rfl)) qstr)) (blkOk_by (own := [("row", 2)]) (N := N__told_rows) (sc := defScope s__told_rows) (by decide +kernel)) (gok_n (by decide)) rfl (fun _ _ _ _ _ B => (qgn (i := 2) nd rfl (.inl rfl) (by decide))) (fun _ _ _ _ _ => qtsnil) (fun _ _ _ _ _ => (qcall O__told_integers (hr.mono (by decide)) rfl g__told_integers F__told_integers.kp b__told_integers (fun σ => L2N.passAt takesN0 σ) (qa_cons (qsm1 PySem.F.slot_str_split PySem.F.type_str_split mt_split sm_split (qvar (i := 2) rfl (.inl rfl)) qstr) (qa_cons qint qa_nil))))) (qcons (qif (qtcmp (op_in2 (room65 hr)) does_in qnon (qvar (i := 1) rfl (.inl rfl))) (qone (qret qnon)) qnil) (qone (qret (qfnT call_tuple_of does_tuple rfl f_tuple boot_tuple (qa_cons (qvar (i := 1) rfl (.inl rfl)) qa_nil))))))
abbrev N__told_book : List Str := ["lines", "first", "b", "kinds", "line"]
theorem sc__told_book : FnScope N__told_book ["lines", "first"] (defScope s__told_book) := ⟨rfl, rfl, rfl, by decide +kernel, rfl, by decide +kernel, by decide +kernel⟩
theorem ok__told_book (X0 : K.In h) (G : h.Ns mainGlobals mg) (c : He.SaysD fa fn K) : ∃ fd, FunD K "_told_book" "_told_book" (defArgs s__told_book) (defBody s__told_book) (defScope s__told_book) [] [] (He.ga K "_told_book") fd ∧ FnOk P w K mg base (L2N.CX P w) 4 (He.ga K "_told_book") fd ["lines", "first"] (spF K 2 m__told_book) := by
  obtain ⟨fd__told_b, F__told_b, O__told_b⟩ := ok__told_b (P := P) (w := w) (base := base) X0 G c
  have b__told_b : Binds K fd__told_b ["line"] [] := F__told_b.bindsN fun _ _ _ _ _ _ us hl => match us, hl with | [_], _ => rfl
  have g__told_b : mg "_told_b" = some (.ref (He.ga K "_told_b")) := He.glo_ok X0 G (c.fact 14 rfl)
  obtain ⟨fd__told_rows, F__told_rows, O__told_rows⟩ := ok__told_rows (P := P) (w := w) (base := base) X0 G c
  have b__told_rows : Binds K fd__told_rows ["line"] [] := F__told_rows.bindsN fun _ _ _ _ _ _ us hl => match us, hl with | [_], _ => rfl
  have g__told_rows : mg "_told_rows" = some (.ref (He.ga K "_told_rows")) := He.glo_ok X0 G (c.fact 17 rfl)
  have f_tuple : mg "tuple" = none := He.free_ok X0 G (c.fact 68 rfl)
  obtain ⟨fd, F⟩ := c.def_ 13 (d := d__told_book) rfl
  refine ⟨fd, F, fn_ok (k := 3) F sc__told_book fun cdv A outer s H E hr B => ?_⟩
  have hp : PassesOwn (model P w) _ _ _ := passes_of (X := cxOf (L2N.CX P w) P w K mg base N__told_book "_told_book" (defScope s__told_book) (He.ga K "_told_book") cdv A outer s H E) (K := fun e s'' => L2N.CX P w outer H s E e s'') rfl
  have tk := L2N.takes_of (X := cxOf (L2N.CX P w) P w K mg base N__told_book "_told_book" (defScope s__told_book) (He.ga K "_told_book") cdv A outer s H E) (E := E) rfl rfl rfl rfl
  have nd := sc__told_book.nd
  exact (qcons (qset (i := 2) nd rfl (.inl rfl) (qcall O__told_b (hr.mono (by decide)) rfl g__told_b F__told_b.kp b__told_b (fun σ => L2N.passAt tk σ) (qa_cons (qix (qvar (i := 0) rfl (.inl rfl)) qint) qa_nil))) (qcons (qif (qtcmp op_isN does_isN (qvar (i := 2) rfl (.inl rfl)) qnon) (qone qnever) qnil) (qcons (qsetcomp (i := 3) (vs := [4]) rfl nd rfl rfl (sw_true rfl rfl rfl (by decide +kernel)) (qiof (qsl (qvar (i := 0) rfl (.inl rfl)) (qps qint) qpn)) (blkOk_by (own := [("line", 4)]) (N := N__told_book) (sc := defScope s__told_book) (by decide +kernel)) (gok_n (by decide)) rfl (fun _ _ _ _ _ B => (qgn (i := 4) nd rfl (.inl rfl) (by decide))) (fun _ _ _ _ _ => qtsnil) (fun _ _ _ _ _ => (qcall O__told_rows (hr.mono (by decide)) rfl g__told_rows F__told_rows.kp b__told_rows (fun σ => L2N.passAt takesN0 σ) (qa_cons (qvar (i := 4) rfl (.inl rfl)) qa_nil)))) (qcons (qif (qtcmp (op_in2 (room65 hr)) does_in qnon (qvar (i := 3) rfl (.inl rfl))) (qone qnever) qnil) (qone (qret (qtup (qa_cons (qvar (i := 2) rfl (.inl rfl)) (qa_cons (qfnT call_tuple_of does_tuple rfl f_tuple boot_tuple (qa_cons (qvar (i := 3) rfl (.inl rfl)) qa_nil)) qa_nil)))))))))
abbrev N_read_book : List Str := ["text", "book"]
theorem sc_read_book : FnScope N_read_book ["text"] (defScope s_read_book) := ⟨rfl, rfl, rfl, by decide +kernel, rfl, by decide +kernel, by decide +kernel⟩
theorem ok_read_book (X0 : K.In h) (G : h.Ns mainGlobals mg) (c : He.SaysD fa fn K) : ∃ fd, FunD K "read_book" "read_book" (defArgs s_read_book) (defBody s_read_book) (defScope s_read_book) [] [] (He.ga K "read_book") fd ∧ FnOk P w K mg base (L2N.CX P w) 7 (He.ga K "read_book") fd ["text"] (spF K 1 m_read_book) := by
  obtain ⟨fd__told_book, F__told_book, O__told_book⟩ := ok__told_book (P := P) (w := w) (base := base) X0 G c
  have b__told_book : Binds K fd__told_book ["lines", "first"] [] := F__told_book.bindsN fun _ _ _ _ _ _ us hl => match us, hl with | [_, _], _ => rfl
  have g__told_book : mg "_told_book" = some (.ref (He.ga K "_told_book")) := He.glo_ok X0 G (c.fact 13 rfl)
  obtain ⟨fd_is_book, F_is_book, O_is_book⟩ := ok_is_book (P := P) (w := w) (base := base) X0 G c
  have b_is_book : Binds K fd_is_book ["told"] [] := F_is_book.bindsN fun _ _ _ _ _ _ us hl => match us, hl with | [_], _ => rfl
  have g_is_book : mg "is_book" = some (.ref (He.ga K "is_book")) := He.glo_ok X0 G (c.fact 3 rfl)
  obtain ⟨fd, F⟩ := c.def_ 12 (d := d_read_book) rfl
  refine ⟨fd, F, fn_ok (k := 6) F sc_read_book fun cdv A outer s H E hr B => ?_⟩
  have hp : PassesOwn (model P w) _ _ _ := passes_of (X := cxOf (L2N.CX P w) P w K mg base N_read_book "read_book" (defScope s_read_book) (He.ga K "read_book") cdv A outer s H E) (K := fun e s'' => L2N.CX P w outer H s E e s'') rfl
  have tk := L2N.takes_of (X := cxOf (L2N.CX P w) P w K mg base N_read_book "read_book" (defScope s_read_book) (He.ga K "read_book") cdv A outer s H E) (E := E) rfl rfl rfl rfl
  have nd := sc_read_book.nd
  exact (qcons (qset (i := 1) nd rfl (.inl rfl) (qcall O__told_book (hr.mono (by decide)) rfl g__told_book F__told_book.kp b__told_book (fun σ => L2N.passAt tk σ) (qa_cons (qsm1 PySem.F.slot_str_split PySem.F.type_str_split mt_split sm_split (qvar (i := 0) rfl (.inl rfl)) qstr) (qa_cons qint qa_nil)))) (qcons (qif (qtnot (qtval (qcall O_is_book (hr.mono (by decide)) rfl g_is_book F_is_book.kp b_is_book (fun σ => L2N.passAt tk σ) (qa_cons (qvar (i := 1) rfl (.inl rfl)) qa_nil)))) (qone qnever) qnil) (qone (qret (qvar (i := 1) rfl (.inl rfl))))))
abbrev N__alone : List Str := ["text", "told"]
theorem sc__alone : FnScope N__alone ["text", "told"] (defScope s__alone) := ⟨rfl, rfl, rfl, by decide +kernel, rfl, by decide +kernel, by decide +kernel⟩
theorem ok__alone (X0 : K.In h) (G : h.Ns mainGlobals mg) (c : He.SaysD fa fn K) : ∃ fd, FunD K "_alone" "_alone" (defArgs s__alone) (defBody s__alone) (defScope s__alone) [] [] (He.ga K "_alone") fd ∧ FnOk P w K mg base (L2N.CX P w) 1 (He.ga K "_alone") fd ["text", "told"] (spF K 2 m__alone) := by
  obtain ⟨fd, F⟩ := c.def_ 20 (d := d__alone) rfl
  refine ⟨fd, F, fn_ok (k := 0) F sc__alone fun cdv A outer s H E hr B => ?_⟩
  have hp : PassesOwn (model P w) _ _ _ := passes_of (X := cxOf (L2N.CX P w) P w K mg base N__alone "_alone" (defScope s__alone) (He.ga K "_alone") cdv A outer s H E) (K := fun e s'' => L2N.CX P w outer H s E e s'') rfl
  have tk := L2N.takes_of (X := cxOf (L2N.CX P w) P w K mg base N__alone "_alone" (defScope s__alone) (He.ga K "_alone") cdv A outer s H E) (E := E) rfl rfl rfl rfl
  have nd := sc__alone.nd
  exact (qcons (qif (qtcmp op_isN does_isN (qvar (i := 1) rfl (.inl rfl)) qnon) (qone qnever) qnil) (qcons (qif (qtcmp op_inS does_inS qstr (qvar (i := 0) rfl (.inl rfl))) (qone qnever) qnil) (qone (qret (qvar (i := 1) rfl (.inl rfl))))))
abbrev N__first_line : List Str := ["text"]
theorem sc__first_line : FnScope N__first_line ["text"] (defScope s__first_line) := ⟨rfl, rfl, rfl, by decide +kernel, rfl, by decide +kernel, by decide +kernel⟩
theorem ok__first_line (X0 : K.In h) (G : h.Ns mainGlobals mg) (c : He.SaysD fa fn K) : ∃ fd, FunD K "_first_line" "_first_line" (defArgs s__first_line) (defBody s__first_line) (defScope s__first_line) [] [] (He.ga K "_first_line") fd ∧ FnOk P w K mg base (L2N.CX P w) 1 (He.ga K "_first_line") fd ["text"] (spF K 1 m__first_line) := by
  obtain ⟨fd, F⟩ := c.def_ 19 (d := d__first_line) rfl
  refine ⟨fd, F, fn_ok (k := 0) F sc__first_line fun cdv A outer s H E hr B => ?_⟩
  have hp : PassesOwn (model P w) _ _ _ := passes_of (X := cxOf (L2N.CX P w) P w K mg base N__first_line "_first_line" (defScope s__first_line) (He.ga K "_first_line") cdv A outer s H E) (K := fun e s'' => L2N.CX P w outer H s E e s'') rfl
  have tk := L2N.takes_of (X := cxOf (L2N.CX P w) P w K mg base N__first_line "_first_line" (defScope s__first_line) (He.ga K "_first_line") cdv A outer s H E) (E := E) rfl rfl rfl rfl
  have nd := sc__first_line.nd
  exact (qone (qret (qix (qsm1 PySem.F.slot_str_split PySem.F.type_str_split mt_split sm_split (qvar (i := 0) rfl (.inl rfl)) qstr) qint)))
abbrev N_read_cell : List Str := ["text"]
theorem sc_read_cell : FnScope N_read_cell ["text"] (defScope s_read_cell) := ⟨rfl, rfl, rfl, by decide +kernel, rfl, by decide +kernel, by decide +kernel⟩
theorem ok_read_cell (X0 : K.In h) (G : h.Ns mainGlobals mg) (c : He.SaysD fa fn K) : ∃ fd, FunD K "read_cell" "read_cell" (defArgs s_read_cell) (defBody s_read_cell) (defScope s_read_cell) [] [] (He.ga K "read_cell") fd ∧ FnOk P w K mg base (L2N.CX P w) 3 (He.ga K "read_cell") fd ["text"] (spF K 1 m_read_cell) := by
  obtain ⟨fd__alone, F__alone, O__alone⟩ := ok__alone (P := P) (w := w) (base := base) X0 G c
  have b__alone : Binds K fd__alone ["text", "told"] [] := F__alone.bindsN fun _ _ _ _ _ _ us hl => match us, hl with | [_, _], _ => rfl
  have g__alone : mg "_alone" = some (.ref (He.ga K "_alone")) := He.glo_ok X0 G (c.fact 20 rfl)
  obtain ⟨fd__told_integers, F__told_integers, O__told_integers⟩ := ok__told_integers (P := P) (w := w) (base := base) X0 G c
  have b__told_integers : Binds K fd__told_integers ["words", "many"] [] := F__told_integers.bindsN fun _ _ _ _ _ _ us hl => match us, hl with | [_, _], _ => rfl
  have g__told_integers : mg "_told_integers" = some (.ref (He.ga K "_told_integers")) := He.glo_ok X0 G (c.fact 16 rfl)
  obtain ⟨fd__first_line, F__first_line, O__first_line⟩ := ok__first_line (P := P) (w := w) (base := base) X0 G c
  have b__first_line : Binds K fd__first_line ["text"] [] := F__first_line.bindsN fun _ _ _ _ _ _ us hl => match us, hl with | [_], _ => rfl
  have g__first_line : mg "_first_line" = some (.ref (He.ga K "_first_line")) := He.glo_ok X0 G (c.fact 19 rfl)
  obtain ⟨fd, F⟩ := c.def_ 18 (d := d_read_cell) rfl
  refine ⟨fd, F, fn_ok (k := 2) F sc_read_cell fun cdv A outer s H E hr B => ?_⟩
  have hp : PassesOwn (model P w) _ _ _ := passes_of (X := cxOf (L2N.CX P w) P w K mg base N_read_cell "read_cell" (defScope s_read_cell) (He.ga K "read_cell") cdv A outer s H E) (K := fun e s'' => L2N.CX P w outer H s E e s'') rfl
  have tk := L2N.takes_of (X := cxOf (L2N.CX P w) P w K mg base N_read_cell "read_cell" (defScope s_read_cell) (He.ga K "read_cell") cdv A outer s H E) (E := E) rfl rfl rfl rfl
  have nd := sc_read_cell.nd
  exact (qone (qret (qcall O__alone (hr.mono (by decide)) rfl g__alone F__alone.kp b__alone (fun σ => L2N.passAt tk σ) (qa_cons (qvar (i := 0) rfl (.inl rfl)) (qa_cons (qcall O__told_integers (hr.mono (by decide)) rfl g__told_integers F__told_integers.kp b__told_integers (fun σ => L2N.passAt tk σ) (qa_cons (qsm1 PySem.F.slot_str_split PySem.F.type_str_split mt_split sm_split (qcall O__first_line (hr.mono (by decide)) rfl g__first_line F__first_line.kp b__first_line (fun σ => L2N.passAt tk σ) (qa_cons (qvar (i := 0) rfl (.inl rfl)) qa_nil)) qstr) (qa_cons qint qa_nil))) qa_nil)))))
abbrev N__told_box : List Str := ["line", "box"]
theorem sc__told_box : FnScope N__told_box ["line"] (defScope s__told_box) := ⟨rfl, rfl, rfl, by decide +kernel, rfl, by decide +kernel, by decide +kernel⟩
theorem ok__told_box (X0 : K.In h) (G : h.Ns mainGlobals mg) (c : He.SaysD fa fn K) : ∃ fd, FunD K "_told_box" "_told_box" (defArgs s__told_box) (defBody s__told_box) (defScope s__told_box) [] [] (He.ga K "_told_box") fd ∧ FnOk P w K mg base (L2N.CX P w) 4 (He.ga K "_told_box") fd ["line"] (spF K 1 m__told_box) := by
  obtain ⟨fd__told_integers, F__told_integers, O__told_integers⟩ := ok__told_integers (P := P) (w := w) (base := base) X0 G c
  have b__told_integers : Binds K fd__told_integers ["words", "many"] [] := F__told_integers.bindsN fun _ _ _ _ _ _ us hl => match us, hl with | [_, _], _ => rfl
  have g__told_integers : mg "_told_integers" = some (.ref (He.ga K "_told_integers")) := He.glo_ok X0 G (c.fact 16 rfl)
  obtain ⟨fd_is_box, F_is_box, O_is_box⟩ := ok_is_box (P := P) (w := w) (base := base) X0 G c
  have b_is_box : Binds K fd_is_box ["told"] [] := F_is_box.bindsN fun _ _ _ _ _ _ us hl => match us, hl with | [_], _ => rfl
  have g_is_box : mg "is_box" = some (.ref (He.ga K "is_box")) := He.glo_ok X0 G (c.fact 11 rfl)
  obtain ⟨fd, F⟩ := c.def_ 22 (d := d__told_box) rfl
  refine ⟨fd, F, fn_ok (k := 3) F sc__told_box fun cdv A outer s H E hr B => ?_⟩
  have hp : PassesOwn (model P w) _ _ _ := passes_of (X := cxOf (L2N.CX P w) P w K mg base N__told_box "_told_box" (defScope s__told_box) (He.ga K "_told_box") cdv A outer s H E) (K := fun e s'' => L2N.CX P w outer H s E e s'') rfl
  have tk := L2N.takes_of (X := cxOf (L2N.CX P w) P w K mg base N__told_box "_told_box" (defScope s__told_box) (He.ga K "_told_box") cdv A outer s H E) (E := E) rfl rfl rfl rfl
  have nd := sc__told_box.nd
  exact (qcons (qset (i := 1) nd rfl (.inl rfl) (qcall O__told_integers (hr.mono (by decide)) rfl g__told_integers F__told_integers.kp b__told_integers (fun σ => L2N.passAt tk σ) (qa_cons (qsm1 PySem.F.slot_str_split PySem.F.type_str_split mt_split sm_split (qvar (i := 0) rfl (.inl rfl)) qstr) (qa_cons qint qa_nil)))) (qcons (qif (qtnot (qtval (qcall O_is_box (hr.mono (by decide)) rfl g_is_box F_is_box.kp b_is_box (fun σ => L2N.passAt tk σ) (qa_cons (qvar (i := 1) rfl (.inl rfl)) qa_nil)))) (qone (qret qnon)) qnil) (qone (qret (qvar (i := 1) rfl (.inl rfl))))))
abbrev N_read_box : List Str := ["text"]
theorem sc_read_box : FnScope N_read_box ["text"] (defScope s_read_box) := ⟨rfl, rfl, rfl, by decide +kernel, rfl, by decide +kernel, by decide +kernel⟩
theorem ok_read_box (X0 : K.In h) (G : h.Ns mainGlobals mg) (c : He.SaysD fa fn K) : ∃ fd, FunD K "read_box" "read_box" (defArgs s_read_box) (defBody s_read_box) (defScope s_read_box) [] [] (He.ga K "read_box") fd ∧ FnOk P w K mg base (L2N.CX P w) 5 (He.ga K "read_box") fd ["text"] (spF K 1 m_read_box) := by
  obtain ⟨fd__alone, F__alone, O__alone⟩ := ok__alone (P := P) (w := w) (base := base) X0 G c
  have b__alone : Binds K fd__alone ["text", "told"] [] := F__alone.bindsN fun _ _ _ _ _ _ us hl => match us, hl with | [_, _], _ => rfl
  have g__alone : mg "_alone" = some (.ref (He.ga K "_alone")) := He.glo_ok X0 G (c.fact 20 rfl)
  obtain ⟨fd__told_box, F__told_box, O__told_box⟩ := ok__told_box (P := P) (w := w) (base := base) X0 G c
  have b__told_box : Binds K fd__told_box ["line"] [] := F__told_box.bindsN fun _ _ _ _ _ _ us hl => match us, hl with | [_], _ => rfl
  have g__told_box : mg "_told_box" = some (.ref (He.ga K "_told_box")) := He.glo_ok X0 G (c.fact 22 rfl)
  obtain ⟨fd__first_line, F__first_line, O__first_line⟩ := ok__first_line (P := P) (w := w) (base := base) X0 G c
  have b__first_line : Binds K fd__first_line ["text"] [] := F__first_line.bindsN fun _ _ _ _ _ _ us hl => match us, hl with | [_], _ => rfl
  have g__first_line : mg "_first_line" = some (.ref (He.ga K "_first_line")) := He.glo_ok X0 G (c.fact 19 rfl)
  obtain ⟨fd, F⟩ := c.def_ 21 (d := d_read_box) rfl
  refine ⟨fd, F, fn_ok (k := 4) F sc_read_box fun cdv A outer s H E hr B => ?_⟩
  have hp : PassesOwn (model P w) _ _ _ := passes_of (X := cxOf (L2N.CX P w) P w K mg base N_read_box "read_box" (defScope s_read_box) (He.ga K "read_box") cdv A outer s H E) (K := fun e s'' => L2N.CX P w outer H s E e s'') rfl
  have tk := L2N.takes_of (X := cxOf (L2N.CX P w) P w K mg base N_read_box "read_box" (defScope s_read_box) (He.ga K "read_box") cdv A outer s H E) (E := E) rfl rfl rfl rfl
  have nd := sc_read_box.nd
  exact (qone (qret (qcall O__alone (hr.mono (by decide)) rfl g__alone F__alone.kp b__alone (fun σ => L2N.passAt tk σ) (qa_cons (qvar (i := 0) rfl (.inl rfl)) (qa_cons (qcall O__told_box (hr.mono (by decide)) rfl g__told_box F__told_box.kp b__told_box (fun σ => L2N.passAt tk σ) (qa_cons (qcall O__first_line (hr.mono (by decide)) rfl g__first_line F__first_line.kp b__first_line (fun σ => L2N.passAt tk σ) (qa_cons (qvar (i := 0) rfl (.inl rfl)) qa_nil)) qa_nil)) qa_nil)))))
abbrev N__told_spans : List Str := ["line", "spans", "ends", "span", "word", "k"]
theorem sc__told_spans : FnScope N__told_spans ["line"] (defScope s__told_spans) := ⟨rfl, rfl, rfl, by decide +kernel, rfl, by decide +kernel, by decide +kernel⟩
theorem ok__told_spans (X0 : K.In h) (G : h.Ns mainGlobals mg) (c : He.SaysD fa fn K) : ∃ fd, FunD K "_told_spans" "_told_spans" (defArgs s__told_spans) (defBody s__told_spans) (defScope s__told_spans) [] [] (He.ga K "_told_spans") fd ∧ FnOk P w K mg base (L2N.CX P w) 3 (He.ga K "_told_spans") fd ["line"] (spF K 1 m__told_spans) := by
  obtain ⟨fd__told_integers, F__told_integers, O__told_integers⟩ := ok__told_integers (P := P) (w := w) (base := base) X0 G c
  have b__told_integers : Binds K fd__told_integers ["words", "many"] [] := F__told_integers.bindsN fun _ _ _ _ _ _ us hl => match us, hl with | [_, _], _ => rfl
  have g__told_integers : mg "_told_integers" = some (.ref (He.ga K "_told_integers")) := He.glo_ok X0 G (c.fact 16 rfl)
  have f_all : mg "all" = none := He.free_ok X0 G (c.fact 57 rfl)
  have f_len : mg "len" = none := He.free_ok X0 G (c.fact 61 rfl)
  have f_range : mg "range" = none := He.free_ok X0 G (c.fact 65 rfl)
  have f_tuple : mg "tuple" = none := He.free_ok X0 G (c.fact 68 rfl)
  obtain ⟨fd, F⟩ := c.def_ 24 (d := d__told_spans) rfl
  refine ⟨fd, F, fn_ok (k := 2) F sc__told_spans fun cdv A outer s H E hr B => ?_⟩
  have hp : PassesOwn (model P w) _ _ _ := passes_of (X := cxOf (L2N.CX P w) P w K mg base N__told_spans "_told_spans" (defScope s__told_spans) (He.ga K "_told_spans") cdv A outer s H E) (K := fun e s'' => L2N.CX P w outer H s E e s'') rfl
  have tk := L2N.takes_of (X := cxOf (L2N.CX P w) P w K mg base N__told_spans "_told_spans" (defScope s__told_spans) (He.ga K "_told_spans") cdv A outer s H E) (E := E) rfl rfl rfl rfl
  have nd := sc__told_spans.nd
  exact (qcons (qsetcomp (i := 1) (vs := [4]) rfl nd rfl rfl (sw_true rfl rfl rfl (by decide +kernel)) (qiof (qsm1 PySem.F.slot_str_split PySem.F.type_str_split mt_split sm_split (qvar (i := 0) rfl (.inl rfl)) qstr)) (blkOk_by (own := [("word", 4)]) (N := N__told_spans) (sc := defScope s__told_spans) (by decide +kernel)) (gok_n (by decide)) rfl (fun _ _ _ _ _ B => (qgn (i := 4) nd rfl (.inl rfl) (by decide))) (fun _ _ _ _ _ => qtsnil) (fun _ _ _ _ _ => (qcall O__told_integers (hr.mono (by decide)) rfl g__told_integers F__told_integers.kp b__told_integers (fun σ => L2N.passAt takesN0 σ) (qa_cons (qsm1 PySem.F.slot_str_split PySem.F.type_str_split mt_split sm_split (qvar (i := 4) rfl (.inl rfl)) qstr) (qa_cons qint qa_nil))))) (qcons (qif (qtcmp (op_in2 (room65 hr)) does_in qnon (qvar (i := 1) rfl (.inl rfl))) (qone (qret qnon)) qnil) (qcons (qset (i := 2) nd rfl (.inr rfl) (qlst qa_nil)) (qcons (qfor (ws := [3]) hp rfl (qiof (qvar (i := 1) rfl (.inl rfl))) (fun B => (qgn (i := 3) nd rfl (.inl rfl) (by decide))) (fun B => (qone (qexpr (qmeth2 (i := 2) PySem.F.slot_list_extend PySem.F.type_list_extend mt_extT does_extT rfl (.inr (.inl rfl)) (qa_cons (qvar (i := 3) rfl (.inl rfl)) qa_nil)))))) (qcons (qif (qtnot (qtval (qfnB (cr_all rfl) does_all rfl f_all boot_all (qa_cons (qcomp (vs := [5]) rfl nd (qir1 rfl f_range (qa_cons (qop op_sub does_sub (qfnB call_len_seq does_len rfl f_len boot_len (qa_cons (qvar (i := 2) rfl (.inr (.inl rfl))) qa_nil)) qint) qa_nil)) (blkOk_by (own := [("k", 5)]) (N := N__told_spans) (sc := defScope s__told_spans) (by decide +kernel)) (gok_n (by decide)) rfl (fun _ _ _ _ _ B => (qgn (i := 5) nd rfl (.inl rfl) (by decide))) (fun _ _ _ _ _ => qtsnil) (fun _ _ _ _ _ => (qcmp op_lt does_lt (qix (qvar (i := 2) rfl (.inr (.inl rfl))) (qvar (i := 5) rfl (.inl rfl))) (qix (qvar (i := 2) rfl (.inr (.inl rfl))) (qop op_add4 does_add (qvar (i := 5) rfl (.inl rfl)) qint))))) qa_nil)))) (qone (qret qnon)) qnil) (qone (qret (qfnT call_tuple_of does_tuple rfl f_tuple boot_tuple (qa_cons (qvar (i := 1) rfl (.inl rfl)) qa_nil)))))))))
abbrev N_read_spans : List Str := ["text"]
theorem sc_read_spans : FnScope N_read_spans ["text"] (defScope s_read_spans) := ⟨rfl, rfl, rfl, by decide +kernel, rfl, by decide +kernel, by decide +kernel⟩
theorem ok_read_spans (X0 : K.In h) (G : h.Ns mainGlobals mg) (c : He.SaysD fa fn K) : ∃ fd, FunD K "read_spans" "read_spans" (defArgs s_read_spans) (defBody s_read_spans) (defScope s_read_spans) [] [] (He.ga K "read_spans") fd ∧ FnOk P w K mg base (L2N.CX P w) 4 (He.ga K "read_spans") fd ["text"] (spF K 1 m_read_spans) := by
  obtain ⟨fd__alone, F__alone, O__alone⟩ := ok__alone (P := P) (w := w) (base := base) X0 G c
  have b__alone : Binds K fd__alone ["text", "told"] [] := F__alone.bindsN fun _ _ _ _ _ _ us hl => match us, hl with | [_, _], _ => rfl
  have g__alone : mg "_alone" = some (.ref (He.ga K "_alone")) := He.glo_ok X0 G (c.fact 20 rfl)
  obtain ⟨fd__told_spans, F__told_spans, O__told_spans⟩ := ok__told_spans (P := P) (w := w) (base := base) X0 G c
  have b__told_spans : Binds K fd__told_spans ["line"] [] := F__told_spans.bindsN fun _ _ _ _ _ _ us hl => match us, hl with | [_], _ => rfl
  have g__told_spans : mg "_told_spans" = some (.ref (He.ga K "_told_spans")) := He.glo_ok X0 G (c.fact 24 rfl)
  obtain ⟨fd__first_line, F__first_line, O__first_line⟩ := ok__first_line (P := P) (w := w) (base := base) X0 G c
  have b__first_line : Binds K fd__first_line ["text"] [] := F__first_line.bindsN fun _ _ _ _ _ _ us hl => match us, hl with | [_], _ => rfl
  have g__first_line : mg "_first_line" = some (.ref (He.ga K "_first_line")) := He.glo_ok X0 G (c.fact 19 rfl)
  obtain ⟨fd, F⟩ := c.def_ 23 (d := d_read_spans) rfl
  refine ⟨fd, F, fn_ok (k := 3) F sc_read_spans fun cdv A outer s H E hr B => ?_⟩
  have hp : PassesOwn (model P w) _ _ _ := passes_of (X := cxOf (L2N.CX P w) P w K mg base N_read_spans "read_spans" (defScope s_read_spans) (He.ga K "read_spans") cdv A outer s H E) (K := fun e s'' => L2N.CX P w outer H s E e s'') rfl
  have tk := L2N.takes_of (X := cxOf (L2N.CX P w) P w K mg base N_read_spans "read_spans" (defScope s_read_spans) (He.ga K "read_spans") cdv A outer s H E) (E := E) rfl rfl rfl rfl
  have nd := sc_read_spans.nd
  exact (qone (qret (qcall O__alone (hr.mono (by decide)) rfl g__alone F__alone.kp b__alone (fun σ => L2N.passAt tk σ) (qa_cons (qvar (i := 0) rfl (.inl rfl)) (qa_cons (qcall O__told_spans (hr.mono (by decide)) rfl g__told_spans F__told_spans.kp b__told_spans (fun σ => L2N.passAt tk σ) (qa_cons (qcall O__first_line (hr.mono (by decide)) rfl g__first_line F__first_line.kp b__first_line (fun σ => L2N.passAt tk σ) (qa_cons (qvar (i := 0) rfl (.inl rfl)) qa_nil)) qa_nil)) qa_nil)))))
abbrev N__told_squares : List Str := ["line"]
theorem sc__told_squares : FnScope N__told_squares ["line"] (defScope s__told_squares) := ⟨rfl, rfl, rfl, by decide +kernel, rfl, by decide +kernel, by decide +kernel⟩
theorem ok__told_squares (X0 : K.In h) (G : h.Ns mainGlobals mg) (c : He.SaysD fa fn K) : ∃ fd, FunD K "_told_squares" "_told_squares" (defArgs s__told_squares) (defBody s__told_squares) (defScope s__told_squares) [] [] (He.ga K "_told_squares") fd ∧ FnOk P w K mg base (L2N.CX P w) 4 (He.ga K "_told_squares") fd ["line"] (spF K 1 m__told_squares) := by
  obtain ⟨fd__told_rows, F__told_rows, O__told_rows⟩ := ok__told_rows (P := P) (w := w) (base := base) X0 G c
  have b__told_rows : Binds K fd__told_rows ["line"] [] := F__told_rows.bindsN fun _ _ _ _ _ _ us hl => match us, hl with | [_], _ => rfl
  have g__told_rows : mg "_told_rows" = some (.ref (He.ga K "_told_rows")) := He.glo_ok X0 G (c.fact 17 rfl)
  obtain ⟨fd, F⟩ := c.def_ 26 (d := d__told_squares) rfl
  refine ⟨fd, F, fn_ok (k := 3) F sc__told_squares fun cdv A outer s H E hr B => ?_⟩
  have hp : PassesOwn (model P w) _ _ _ := passes_of (X := cxOf (L2N.CX P w) P w K mg base N__told_squares "_told_squares" (defScope s__told_squares) (He.ga K "_told_squares") cdv A outer s H E) (K := fun e s'' => L2N.CX P w outer H s E e s'') rfl
  have tk := L2N.takes_of (X := cxOf (L2N.CX P w) P w K mg base N__told_squares "_told_squares" (defScope s__told_squares) (He.ga K "_told_squares") cdv A outer s H E) (E := E) rfl rfl rfl rfl
  have nd := sc__told_squares.nd
  exact (qcons (qif (qtnot (qtval (qsm1 PySem.F.slot_str_startswith PySem.F.type_str_startswith mt_startswith sm_starts (qvar (i := 0) rfl (.inl rfl)) qstr))) (qone (qret qnon)) qnil) (qone (qret (qcall O__told_rows (hr.mono (by decide)) rfl g__told_rows F__told_rows.kp b__told_rows (fun σ => L2N.passAt tk σ) (qa_cons (qslS (qvar (i := 0) rfl (.inl rfl)) (qps qint) qpn) qa_nil)))))
abbrev N_read_field : List Str := ["text", "lines", "squares", "field"]
theorem sc_read_field : FnScope N_read_field ["text"] (defScope s_read_field) := ⟨rfl, rfl, rfl, by decide +kernel, rfl, by decide +kernel, by decide +kernel⟩
theorem ok_read_field (X0 : K.In h) (G : h.Ns mainGlobals mg) (c : He.SaysD fa fn K) : ∃ fd, FunD K "read_field" "read_field" (defArgs s_read_field) (defBody s_read_field) (defScope s_read_field) [] [] (He.ga K "read_field") fd ∧ FnOk P w K mg base (L2N.CX P w) 8 (He.ga K "read_field") fd ["text"] (spF K 1 m_read_field) := by
  obtain ⟨fd__told_squares, F__told_squares, O__told_squares⟩ := ok__told_squares (P := P) (w := w) (base := base) X0 G c
  have b__told_squares : Binds K fd__told_squares ["line"] [] := F__told_squares.bindsN fun _ _ _ _ _ _ us hl => match us, hl with | [_], _ => rfl
  have g__told_squares : mg "_told_squares" = some (.ref (He.ga K "_told_squares")) := He.glo_ok X0 G (c.fact 26 rfl)
  obtain ⟨fd__told_book, F__told_book, O__told_book⟩ := ok__told_book (P := P) (w := w) (base := base) X0 G c
  have b__told_book : Binds K fd__told_book ["lines", "first"] [] := F__told_book.bindsN fun _ _ _ _ _ _ us hl => match us, hl with | [_, _], _ => rfl
  have g__told_book : mg "_told_book" = some (.ref (He.ga K "_told_book")) := He.glo_ok X0 G (c.fact 13 rfl)
  obtain ⟨fd_is_field, F_is_field, O_is_field⟩ := ok_is_field (P := P) (w := w) (base := base) X0 G c
  have b_is_field : Binds K fd_is_field ["told"] [] := F_is_field.bindsN fun _ _ _ _ _ _ us hl => match us, hl with | [_], _ => rfl
  have g_is_field : mg "is_field" = some (.ref (He.ga K "is_field")) := He.glo_ok X0 G (c.fact 9 rfl)
  have f_len : mg "len" = none := He.free_ok X0 G (c.fact 61 rfl)
  obtain ⟨fd, F⟩ := c.def_ 25 (d := d_read_field) rfl
  refine ⟨fd, F, fn_ok (k := 7) F sc_read_field fun cdv A outer s H E hr B => ?_⟩
  have hp : PassesOwn (model P w) _ _ _ := passes_of (X := cxOf (L2N.CX P w) P w K mg base N_read_field "read_field" (defScope s_read_field) (He.ga K "read_field") cdv A outer s H E) (K := fun e s'' => L2N.CX P w outer H s E e s'') rfl
  have tk := L2N.takes_of (X := cxOf (L2N.CX P w) P w K mg base N_read_field "read_field" (defScope s_read_field) (He.ga K "read_field") cdv A outer s H E) (E := E) rfl rfl rfl rfl
  have nd := sc_read_field.nd
  exact (qcons (qset (i := 1) nd rfl (.inl rfl) (qsm1 PySem.F.slot_str_split PySem.F.type_str_split mt_split sm_split (qvar (i := 0) rfl (.inl rfl)) qstr)) (qcons (qset (i := 2) nd rfl (.inl rfl) (qcall O__told_squares (hr.mono (by decide)) rfl g__told_squares F__told_squares.kp b__told_squares (fun σ => L2N.passAt tk σ) (qa_cons (qix (qvar (i := 1) rfl (.inl rfl)) qint) qa_nil))) (qcons (qif (qtcmp op_isN does_isN (qvar (i := 2) rfl (.inl rfl)) qnon) (qone qnever) qnil) (qcons (qif (qtcmp (op_eqD hr.units) does_eq (qfnB call_len_seq does_len rfl f_len boot_len (qa_cons (qvar (i := 1) rfl (.inl rfl)) qa_nil)) qint) (qone qnever) qnil) (qcons (qset (i := 3) nd rfl (.inl rfl) (qtup (qa_cons (qcall O__told_book (hr.mono (by decide)) rfl g__told_book F__told_book.kp b__told_book (fun σ => L2N.passAt tk σ) (qa_cons (qsl (qvar (i := 1) rfl (.inl rfl)) (qps qint) qpn) (qa_cons qint qa_nil))) (qa_cons (qvar (i := 2) rfl (.inl rfl)) qa_nil)))) (qcons (qif (qtnot (qtval (qcall O_is_field (hr.mono (by decide)) rfl g_is_field F_is_field.kp b_is_field (fun σ => L2N.passAt tk σ) (qa_cons (qvar (i := 3) rfl (.inl rfl)) qa_nil)))) (qone qnever) qnil) (qone (qret (qvar (i := 3) rfl (.inl rfl))))))))))
abbrev N__told_make : List Str := ["line", "make", "turn"]
theorem sc__told_make : FnScope N__told_make ["line"] (defScope s__told_make) := ⟨rfl, rfl, rfl, by decide +kernel, rfl, by decide +kernel, by decide +kernel⟩
theorem ok__told_make (X0 : K.In h) (G : h.Ns mainGlobals mg) (c : He.SaysD fa fn K) : ∃ fd, FunD K "_told_make" "_told_make" (defArgs s__told_make) (defBody s__told_make) (defScope s__told_make) [] [] (He.ga K "_told_make") fd ∧ FnOk P w K mg base (L2N.CX P w) 6 (He.ga K "_told_make") fd ["line"] (spF K 1 m__told_make) := by
  obtain ⟨fd__told_rows, F__told_rows, O__told_rows⟩ := ok__told_rows (P := P) (w := w) (base := base) X0 G c
  have b__told_rows : Binds K fd__told_rows ["line"] [] := F__told_rows.bindsN fun _ _ _ _ _ _ us hl => match us, hl with | [_], _ => rfl
  have g__told_rows : mg "_told_rows" = some (.ref (He.ga K "_told_rows")) := He.glo_ok X0 G (c.fact 17 rfl)
  obtain ⟨fd_is_turn, F_is_turn, O_is_turn⟩ := ok_is_turn (P := P) (w := w) (base := base) X0 G c
  have b_is_turn : Binds K fd_is_turn ["told"] [] := F_is_turn.bindsN fun _ _ _ _ _ _ us hl => match us, hl with | [_], _ => rfl
  have g_is_turn : mg "is_turn" = some (.ref (He.ga K "is_turn")) := He.glo_ok X0 G (c.fact 8 rfl)
  have f_all : mg "all" = none := He.free_ok X0 G (c.fact 57 rfl)
  have f_len : mg "len" = none := He.free_ok X0 G (c.fact 61 rfl)
  obtain ⟨fd, F⟩ := c.def_ 28 (d := d__told_make) rfl
  refine ⟨fd, F, fn_ok (k := 5) F sc__told_make fun cdv A outer s H E hr B => ?_⟩
  have hp : PassesOwn (model P w) _ _ _ := passes_of (X := cxOf (L2N.CX P w) P w K mg base N__told_make "_told_make" (defScope s__told_make) (He.ga K "_told_make") cdv A outer s H E) (K := fun e s'' => L2N.CX P w outer H s E e s'') rfl
  have tk := L2N.takes_of (X := cxOf (L2N.CX P w) P w K mg base N__told_make "_told_make" (defScope s__told_make) (He.ga K "_told_make") cdv A outer s H E) (E := E) rfl rfl rfl rfl
  have nd := sc__told_make.nd
  exact (qcons (qset (i := 1) nd rfl (.inl rfl) (qcall O__told_rows (hr.mono (by decide)) rfl g__told_rows F__told_rows.kp b__told_rows (fun σ => L2N.passAt tk σ) (qa_cons (qvar (i := 0) rfl (.inl rfl)) qa_nil))) (qcons (qif (QW.t (qw_or (qtcmp op_isN does_isN (qvar (i := 1) rfl (.inl rfl)) qnon) (qw_or1 (qtcmp (op_notIn2 (room65 hr)) does_notIn (qfnB call_len_seq does_len rfl f_len boot_len (qa_cons (qvar (i := 1) rfl (.inl rfl)) qa_nil)) (qtup (qa_cons qint (qa_cons qint qa_nil))))))) (qone (qret qnon)) qnil) (qcons (qif (qtnot (qtval (qfnB (cr_all rfl) does_all rfl f_all boot_all (qa_cons (qcomp (vs := [2]) rfl nd (qiof (qvar (i := 1) rfl (.inl rfl))) (blkOk_by (own := [("turn", 2)]) (N := N__told_make) (sc := defScope s__told_make) (by decide +kernel)) (gok_n (by decide)) rfl (fun _ _ _ _ _ B => (qgn (i := 2) nd rfl (.inl rfl) (by decide))) (fun _ _ _ _ _ => qtsnil) (fun _ _ _ _ _ => (qcall O_is_turn (hr.mono (by decide)) rfl g_is_turn F_is_turn.kp b_is_turn (fun σ => L2N.passAt takesN0 σ) (qa_cons (qvar (i := 2) rfl (.inl rfl)) qa_nil)))) qa_nil)))) (qone (qret qnon)) qnil) (qone (qret (qvar (i := 1) rfl (.inl rfl)))))))
abbrev N_read_make : List Str := ["text"]
theorem sc_read_make : FnScope N_read_make ["text"] (defScope s_read_make) := ⟨rfl, rfl, rfl, by decide +kernel, rfl, by decide +kernel, by decide +kernel⟩
theorem ok_read_make (X0 : K.In h) (G : h.Ns mainGlobals mg) (c : He.SaysD fa fn K) : ∃ fd, FunD K "read_make" "read_make" (defArgs s_read_make) (defBody s_read_make) (defScope s_read_make) [] [] (He.ga K "read_make") fd ∧ FnOk P w K mg base (L2N.CX P w) 7 (He.ga K "read_make") fd ["text"] (spF K 1 m_read_make) := by
  obtain ⟨fd__alone, F__alone, O__alone⟩ := ok__alone (P := P) (w := w) (base := base) X0 G c
  have b__alone : Binds K fd__alone ["text", "told"] [] := F__alone.bindsN fun _ _ _ _ _ _ us hl => match us, hl with | [_, _], _ => rfl
  have g__alone : mg "_alone" = some (.ref (He.ga K "_alone")) := He.glo_ok X0 G (c.fact 20 rfl)
  obtain ⟨fd__told_make, F__told_make, O__told_make⟩ := ok__told_make (P := P) (w := w) (base := base) X0 G c
  have b__told_make : Binds K fd__told_make ["line"] [] := F__told_make.bindsN fun _ _ _ _ _ _ us hl => match us, hl with | [_], _ => rfl
  have g__told_make : mg "_told_make" = some (.ref (He.ga K "_told_make")) := He.glo_ok X0 G (c.fact 28 rfl)
  obtain ⟨fd__first_line, F__first_line, O__first_line⟩ := ok__first_line (P := P) (w := w) (base := base) X0 G c
  have b__first_line : Binds K fd__first_line ["text"] [] := F__first_line.bindsN fun _ _ _ _ _ _ us hl => match us, hl with | [_], _ => rfl
  have g__first_line : mg "_first_line" = some (.ref (He.ga K "_first_line")) := He.glo_ok X0 G (c.fact 19 rfl)
  obtain ⟨fd, F⟩ := c.def_ 27 (d := d_read_make) rfl
  refine ⟨fd, F, fn_ok (k := 6) F sc_read_make fun cdv A outer s H E hr B => ?_⟩
  have hp : PassesOwn (model P w) _ _ _ := passes_of (X := cxOf (L2N.CX P w) P w K mg base N_read_make "read_make" (defScope s_read_make) (He.ga K "read_make") cdv A outer s H E) (K := fun e s'' => L2N.CX P w outer H s E e s'') rfl
  have tk := L2N.takes_of (X := cxOf (L2N.CX P w) P w K mg base N_read_make "read_make" (defScope s_read_make) (He.ga K "read_make") cdv A outer s H E) (E := E) rfl rfl rfl rfl
  have nd := sc_read_make.nd
  exact (qone (qret (qcall O__alone (hr.mono (by decide)) rfl g__alone F__alone.kp b__alone (fun σ => L2N.passAt tk σ) (qa_cons (qvar (i := 0) rfl (.inl rfl)) (qa_cons (qcall O__told_make (hr.mono (by decide)) rfl g__told_make F__told_make.kp b__told_make (fun σ => L2N.passAt tk σ) (qa_cons (qcall O__first_line (hr.mono (by decide)) rfl g__first_line F__first_line.kp b__first_line (fun σ => L2N.passAt tk σ) (qa_cons (qvar (i := 0) rfl (.inl rfl)) qa_nil)) qa_nil)) qa_nil)))))
abbrev N_show_integers : List Str := ["integers", "integer"]
theorem sc_show_integers : FnScope N_show_integers ["integers"] (defScope s_show_integers) := ⟨rfl, rfl, rfl, by decide +kernel, rfl, by decide +kernel, by decide +kernel⟩
theorem ok_show_integers (X0 : K.In h) (G : h.Ns mainGlobals mg) (c : He.SaysD fa fn K) : ∃ fd, FunD K "show_integers" "show_integers" (defArgs s_show_integers) (defBody s_show_integers) (defScope s_show_integers) [] [] (He.ga K "show_integers") fd ∧ FnOk P w K mg base (L2N.CX P w) 1 (He.ga K "show_integers") fd ["integers"] (spF K 1 m_show_integers) := by
  have f_str : mg "str" = none := He.free_ok X0 G (c.fact 67 rfl)
  obtain ⟨fd, F⟩ := c.def_ 30 (d := d_show_integers) rfl
  refine ⟨fd, F, fn_ok (k := 0) F sc_show_integers fun cdv A outer s H E hr B => ?_⟩
  have hp : PassesOwn (model P w) _ _ _ := passes_of (X := cxOf (L2N.CX P w) P w K mg base N_show_integers "show_integers" (defScope s_show_integers) (He.ga K "show_integers") cdv A outer s H E) (K := fun e s'' => L2N.CX P w outer H s E e s'') rfl
  have tk := L2N.takes_of (X := cxOf (L2N.CX P w) P w K mg base N_show_integers "show_integers" (defScope s_show_integers) (He.ga K "show_integers") cdv A outer s H E) (E := E) rfl rfl rfl rfl
  have nd := sc_show_integers.nd
  exact (qone (qret (qjoin qstr (qcomp (vs := [1]) rfl nd (qiof (qvar (i := 0) rfl (.inl rfl))) (blkOk_by (own := [("integer", 1)]) (N := N_show_integers) (sc := defScope s_show_integers) (by decide +kernel)) (gok_n (by decide)) rfl (fun _ _ _ _ _ B => (qgn (i := 1) nd rfl (.inl rfl) (by decide))) (fun _ _ _ _ _ => qtsnil) (fun _ _ _ _ _ => (qfnT call_str_int does_str rfl f_str boot_str (qa_cons (qvar (i := 1) rfl (.inl rfl)) qa_nil)))))))
abbrev N__show_rows : List Str := ["rows", "row"]
theorem sc__show_rows : FnScope N__show_rows ["rows"] (defScope s__show_rows) := ⟨rfl, rfl, rfl, by decide +kernel, rfl, by decide +kernel, by decide +kernel⟩
theorem ok__show_rows (X0 : K.In h) (G : h.Ns mainGlobals mg) (c : He.SaysD fa fn K) : ∃ fd, FunD K "_show_rows" "_show_rows" (defArgs s__show_rows) (defBody s__show_rows) (defScope s__show_rows) [] [] (He.ga K "_show_rows") fd ∧ FnOk P w K mg base (L2N.CX P w) 2 (He.ga K "_show_rows") fd ["rows"] (spF K 1 m__show_rows) := by
  obtain ⟨fd_show_integers, F_show_integers, O_show_integers⟩ := ok_show_integers (P := P) (w := w) (base := base) X0 G c
  have b_show_integers : Binds K fd_show_integers ["integers"] [] := F_show_integers.bindsN fun _ _ _ _ _ _ us hl => match us, hl with | [_], _ => rfl
  have g_show_integers : mg "show_integers" = some (.ref (He.ga K "show_integers")) := He.glo_ok X0 G (c.fact 30 rfl)
  obtain ⟨fd, F⟩ := c.def_ 31 (d := d__show_rows) rfl
  refine ⟨fd, F, fn_ok (k := 1) F sc__show_rows fun cdv A outer s H E hr B => ?_⟩
  have hp : PassesOwn (model P w) _ _ _ := passes_of (X := cxOf (L2N.CX P w) P w K mg base N__show_rows "_show_rows" (defScope s__show_rows) (He.ga K "_show_rows") cdv A outer s H E) (K := fun e s'' => L2N.CX P w outer H s E e s'') rfl
  have tk := L2N.takes_of (X := cxOf (L2N.CX P w) P w K mg base N__show_rows "_show_rows" (defScope s__show_rows) (He.ga K "_show_rows") cdv A outer s H E) (E := E) rfl rfl rfl rfl
  have nd := sc__show_rows.nd
  exact (qone (qret (qjoin qstr (qcomp (vs := [1]) rfl nd (qiof (qvar (i := 0) rfl (.inl rfl))) (blkOk_by (own := [("row", 1)]) (N := N__show_rows) (sc := defScope s__show_rows) (by decide +kernel)) (gok_n (by decide)) rfl (fun _ _ _ _ _ B => (qgn (i := 1) nd rfl (.inl rfl) (by decide))) (fun _ _ _ _ _ => qtsnil) (fun _ _ _ _ _ => (qcall O_show_integers (hr.mono (by decide)) rfl g_show_integers F_show_integers.kp b_show_integers (fun σ => L2N.passAt takesN0 σ) (qa_cons (qvar (i := 1) rfl (.inl rfl)) qa_nil)))))))
abbrev N_show_book : List Str := ["book", "b", "kinds", "parts"]
theorem sc_show_book : FnScope N_show_book ["book"] (defScope s_show_book) := ⟨rfl, rfl, rfl, by decide +kernel, rfl, by decide +kernel, by decide +kernel⟩
theorem ok_show_book (X0 : K.In h) (G : h.Ns mainGlobals mg) (c : He.SaysD fa fn K) : ∃ fd, FunD K "show_book" "show_book" (defArgs s_show_book) (defBody s_show_book) (defScope s_show_book) [] [] (He.ga K "show_book") fd ∧ FnOk P w K mg base (L2N.CX P w) 3 (He.ga K "show_book") fd ["book"] (spF K 1 m_show_book) := by
  obtain ⟨fd__show_rows, F__show_rows, O__show_rows⟩ := ok__show_rows (P := P) (w := w) (base := base) X0 G c
  have b__show_rows : Binds K fd__show_rows ["rows"] [] := F__show_rows.bindsN fun _ _ _ _ _ _ us hl => match us, hl with | [_], _ => rfl
  have g__show_rows : mg "_show_rows" = some (.ref (He.ga K "_show_rows")) := He.glo_ok X0 G (c.fact 31 rfl)
  obtain ⟨fd, F⟩ := c.def_ 29 (d := d_show_book) rfl
  refine ⟨fd, F, fn_ok (k := 2) F sc_show_book fun cdv A outer s H E hr B => ?_⟩
  have hp : PassesOwn (model P w) _ _ _ := passes_of (X := cxOf (L2N.CX P w) P w K mg base N_show_book "show_book" (defScope s_show_book) (He.ga K "show_book") cdv A outer s H E) (K := fun e s'' => L2N.CX P w outer H s E e s'') rfl
  have tk := L2N.takes_of (X := cxOf (L2N.CX P w) P w K mg base N_show_book "show_book" (defScope s_show_book) (He.ga K "show_book") cdv A outer s H E) (E := E) rfl rfl rfl rfl
  have nd := sc_show_book.nd
  exact (qcons (qasg (ws := [1, 2]) (qvar (i := 0) rfl (.inl rfl)) (qgt rfl (qgscons (qgn (i := 1) nd rfl (.inl rfl) (by decide)) (qgscons (qgn (i := 2) nd rfl (.inl rfl) (by decide)) qgsnil)))) (qone (qret (qjoin qstr (qop op_add4 does_add (qlst (qa_cons (qjoined (qjcons qstr (qjcons (qfmt (qvar (i := 1) rfl (.inl rfl))) qjnil))) qa_nil)) (qcomp (vs := [3]) rfl nd (qiof (qvar (i := 2) rfl (.inl rfl))) (blkOk_by (own := [("parts", 3)]) (N := N_show_book) (sc := defScope s_show_book) (by decide +kernel)) (gok_n (by decide)) rfl (fun _ _ _ _ _ B => (qgn (i := 3) nd rfl (.inl rfl) (by decide))) (fun _ _ _ _ _ => qtsnil) (fun _ _ _ _ _ => (qcall O__show_rows (hr.mono (by decide)) rfl g__show_rows F__show_rows.kp b__show_rows (fun σ => L2N.passAt takesN0 σ) (qa_cons (qvar (i := 3) rfl (.inl rfl)) qa_nil)))))))))
abbrev N_show_cell : List Str := ["cell"]
theorem sc_show_cell : FnScope N_show_cell ["cell"] (defScope s_show_cell) := ⟨rfl, rfl, rfl, by decide +kernel, rfl, by decide +kernel, by decide +kernel⟩
theorem ok_show_cell (X0 : K.In h) (G : h.Ns mainGlobals mg) (c : He.SaysD fa fn K) : ∃ fd, FunD K "show_cell" "show_cell" (defArgs s_show_cell) (defBody s_show_cell) (defScope s_show_cell) [] [] (He.ga K "show_cell") fd ∧ FnOk P w K mg base (L2N.CX P w) 2 (He.ga K "show_cell") fd ["cell"] (spF K 1 m_show_cell) := by
  obtain ⟨fd_show_integers, F_show_integers, O_show_integers⟩ := ok_show_integers (P := P) (w := w) (base := base) X0 G c
  have b_show_integers : Binds K fd_show_integers ["integers"] [] := F_show_integers.bindsN fun _ _ _ _ _ _ us hl => match us, hl with | [_], _ => rfl
  have g_show_integers : mg "show_integers" = some (.ref (He.ga K "show_integers")) := He.glo_ok X0 G (c.fact 30 rfl)
  obtain ⟨fd, F⟩ := c.def_ 32 (d := d_show_cell) rfl
  refine ⟨fd, F, fn_ok (k := 1) F sc_show_cell fun cdv A outer s H E hr B => ?_⟩
  have hp : PassesOwn (model P w) _ _ _ := passes_of (X := cxOf (L2N.CX P w) P w K mg base N_show_cell "show_cell" (defScope s_show_cell) (He.ga K "show_cell") cdv A outer s H E) (K := fun e s'' => L2N.CX P w outer H s E e s'') rfl
  have tk := L2N.takes_of (X := cxOf (L2N.CX P w) P w K mg base N_show_cell "show_cell" (defScope s_show_cell) (He.ga K "show_cell") cdv A outer s H E) (E := E) rfl rfl rfl rfl
  have nd := sc_show_cell.nd
  exact (qone (qret (qcall O_show_integers (hr.mono (by decide)) rfl g_show_integers F_show_integers.kp b_show_integers (fun σ => L2N.passAt tk σ) (qa_cons (qvar (i := 0) rfl (.inl rfl)) qa_nil))))
abbrev N_show_box : List Str := ["box"]
theorem sc_show_box : FnScope N_show_box ["box"] (defScope s_show_box) := ⟨rfl, rfl, rfl, by decide +kernel, rfl, by decide +kernel, by decide +kernel⟩
theorem ok_show_box (X0 : K.In h) (G : h.Ns mainGlobals mg) (c : He.SaysD fa fn K) : ∃ fd, FunD K "show_box" "show_box" (defArgs s_show_box) (defBody s_show_box) (defScope s_show_box) [] [] (He.ga K "show_box") fd ∧ FnOk P w K mg base (L2N.CX P w) 2 (He.ga K "show_box") fd ["box"] (spF K 1 m_show_box) := by
  obtain ⟨fd_show_integers, F_show_integers, O_show_integers⟩ := ok_show_integers (P := P) (w := w) (base := base) X0 G c
  have b_show_integers : Binds K fd_show_integers ["integers"] [] := F_show_integers.bindsN fun _ _ _ _ _ _ us hl => match us, hl with | [_], _ => rfl
  have g_show_integers : mg "show_integers" = some (.ref (He.ga K "show_integers")) := He.glo_ok X0 G (c.fact 30 rfl)
  obtain ⟨fd, F⟩ := c.def_ 33 (d := d_show_box) rfl
  refine ⟨fd, F, fn_ok (k := 1) F sc_show_box fun cdv A outer s H E hr B => ?_⟩
  have hp : PassesOwn (model P w) _ _ _ := passes_of (X := cxOf (L2N.CX P w) P w K mg base N_show_box "show_box" (defScope s_show_box) (He.ga K "show_box") cdv A outer s H E) (K := fun e s'' => L2N.CX P w outer H s E e s'') rfl
  have tk := L2N.takes_of (X := cxOf (L2N.CX P w) P w K mg base N_show_box "show_box" (defScope s_show_box) (He.ga K "show_box") cdv A outer s H E) (E := E) rfl rfl rfl rfl
  have nd := sc_show_box.nd
  exact (qone (qret (qcall O_show_integers (hr.mono (by decide)) rfl g_show_integers F_show_integers.kp b_show_integers (fun σ => L2N.passAt tk σ) (qa_cons (qvar (i := 0) rfl (.inl rfl)) qa_nil))))
abbrev N_show_spans : List Str := ["spans", "first", "behind"]
theorem sc_show_spans : FnScope N_show_spans ["spans"] (defScope s_show_spans) := ⟨rfl, rfl, rfl, by decide +kernel, rfl, by decide +kernel, by decide +kernel⟩
theorem ok_show_spans (X0 : K.In h) (G : h.Ns mainGlobals mg) (c : He.SaysD fa fn K) : ∃ fd, FunD K "show_spans" "show_spans" (defArgs s_show_spans) (defBody s_show_spans) (defScope s_show_spans) [] [] (He.ga K "show_spans") fd ∧ FnOk P w K mg base (L2N.CX P w) 1 (He.ga K "show_spans") fd ["spans"] (spF K 1 m_show_spans) := by
  obtain ⟨fd, F⟩ := c.def_ 34 (d := d_show_spans) rfl
  refine ⟨fd, F, fn_ok (k := 0) F sc_show_spans fun cdv A outer s H E hr B => ?_⟩
  have hp : PassesOwn (model P w) _ _ _ := passes_of (X := cxOf (L2N.CX P w) P w K mg base N_show_spans "show_spans" (defScope s_show_spans) (He.ga K "show_spans") cdv A outer s H E) (K := fun e s'' => L2N.CX P w outer H s E e s'') rfl
  have tk := L2N.takes_of (X := cxOf (L2N.CX P w) P w K mg base N_show_spans "show_spans" (defScope s_show_spans) (He.ga K "show_spans") cdv A outer s H E) (E := E) rfl rfl rfl rfl
  have nd := sc_show_spans.nd
  exact (qone (qret (qjoin qstr (qcomp (vs := [1, 2]) rfl nd (qiof (qvar (i := 0) rfl (.inl rfl))) (blkOk_by (own := [("first", 1), ("behind", 2)]) (N := N_show_spans) (sc := defScope s_show_spans) (by decide +kernel)) (gok_t (gsok_cons (gok_n (by decide)) (gsok_cons (gok_n (by decide)) gsok_nil))) rfl (fun _ _ _ _ _ B => (qgt rfl (qgscons (qgn (i := 1) nd rfl (.inl rfl) (by decide)) (qgscons (qgn (i := 2) nd rfl (.inl rfl) (by decide)) qgsnil)))) (fun _ _ _ _ _ => qtsnil) (fun _ _ _ _ _ => (qjoined (qjcons (qfmt (qvar (i := 1) rfl (.inl rfl))) (qjcons qstr (qjcons (qfmt (qvar (i := 2) rfl (.inl rfl))) qjnil)))))))))
abbrev N_show_field : List Str := ["field", "book", "squares"]
theorem sc_show_field : FnScope N_show_field ["field"] (defScope s_show_field) := ⟨rfl, rfl, rfl, by decide +kernel, rfl, by decide +kernel, by decide +kernel⟩
theorem ok_show_field (X0 : K.In h) (G : h.Ns mainGlobals mg) (c : He.SaysD fa fn K) : ∃ fd, FunD K "show_field" "show_field" (defArgs s_show_field) (defBody s_show_field) (defScope s_show_field) [] [] (He.ga K "show_field") fd ∧ FnOk P w K mg base (L2N.CX P w) 4 (He.ga K "show_field") fd ["field"] (spF K 1 m_show_field) := by
  obtain ⟨fd__show_rows, F__show_rows, O__show_rows⟩ := ok__show_rows (P := P) (w := w) (base := base) X0 G c
  have b__show_rows : Binds K fd__show_rows ["rows"] [] := F__show_rows.bindsN fun _ _ _ _ _ _ us hl => match us, hl with | [_], _ => rfl
  have g__show_rows : mg "_show_rows" = some (.ref (He.ga K "_show_rows")) := He.glo_ok X0 G (c.fact 31 rfl)
  obtain ⟨fd_show_book, F_show_book, O_show_book⟩ := ok_show_book (P := P) (w := w) (base := base) X0 G c
  have b_show_book : Binds K fd_show_book ["book"] [] := F_show_book.bindsN fun _ _ _ _ _ _ us hl => match us, hl with | [_], _ => rfl
  have g_show_book : mg "show_book" = some (.ref (He.ga K "show_book")) := He.glo_ok X0 G (c.fact 29 rfl)
  obtain ⟨fd, F⟩ := c.def_ 35 (d := d_show_field) rfl
  refine ⟨fd, F, fn_ok (k := 3) F sc_show_field fun cdv A outer s H E hr B => ?_⟩
  have hp : PassesOwn (model P w) _ _ _ := passes_of (X := cxOf (L2N.CX P w) P w K mg base N_show_field "show_field" (defScope s_show_field) (He.ga K "show_field") cdv A outer s H E) (K := fun e s'' => L2N.CX P w outer H s E e s'') rfl
  have tk := L2N.takes_of (X := cxOf (L2N.CX P w) P w K mg base N_show_field "show_field" (defScope s_show_field) (He.ga K "show_field") cdv A outer s H E) (E := E) rfl rfl rfl rfl
  have nd := sc_show_field.nd
  exact (qcons (qasg (ws := [1, 2]) (qvar (i := 0) rfl (.inl rfl)) (qgt rfl (qgscons (qgn (i := 1) nd rfl (.inl rfl) (by decide)) (qgscons (qgn (i := 2) nd rfl (.inl rfl) (by decide)) qgsnil)))) (qone (qret (qjoined (qjcons qstr (qjcons (qfmt (qcall O__show_rows (hr.mono (by decide)) rfl g__show_rows F__show_rows.kp b__show_rows (fun σ => L2N.passAt tk σ) (qa_cons (qvar (i := 2) rfl (.inl rfl)) qa_nil))) (qjcons qstr (qjcons (qfmt (qcall O_show_book (hr.mono (by decide)) rfl g_show_book F_show_book.kp b_show_book (fun σ => L2N.passAt tk σ) (qa_cons (qvar (i := 1) rfl (.inl rfl)) qa_nil))) qjnil))))))))
abbrev N_show_make : List Str := ["make"]
theorem sc_show_make : FnScope N_show_make ["make"] (defScope s_show_make) := ⟨rfl, rfl, rfl, by decide +kernel, rfl, by decide +kernel, by decide +kernel⟩
theorem ok_show_make (X0 : K.In h) (G : h.Ns mainGlobals mg) (c : He.SaysD fa fn K) : ∃ fd, FunD K "show_make" "show_make" (defArgs s_show_make) (defBody s_show_make) (defScope s_show_make) [] [] (He.ga K "show_make") fd ∧ FnOk P w K mg base (L2N.CX P w) 3 (He.ga K "show_make") fd ["make"] (spF K 1 m_show_make) := by
  obtain ⟨fd__show_rows, F__show_rows, O__show_rows⟩ := ok__show_rows (P := P) (w := w) (base := base) X0 G c
  have b__show_rows : Binds K fd__show_rows ["rows"] [] := F__show_rows.bindsN fun _ _ _ _ _ _ us hl => match us, hl with | [_], _ => rfl
  have g__show_rows : mg "_show_rows" = some (.ref (He.ga K "_show_rows")) := He.glo_ok X0 G (c.fact 31 rfl)
  obtain ⟨fd, F⟩ := c.def_ 36 (d := d_show_make) rfl
  refine ⟨fd, F, fn_ok (k := 2) F sc_show_make fun cdv A outer s H E hr B => ?_⟩
  have hp : PassesOwn (model P w) _ _ _ := passes_of (X := cxOf (L2N.CX P w) P w K mg base N_show_make "show_make" (defScope s_show_make) (He.ga K "show_make") cdv A outer s H E) (K := fun e s'' => L2N.CX P w outer H s E e s'') rfl
  have tk := L2N.takes_of (X := cxOf (L2N.CX P w) P w K mg base N_show_make "show_make" (defScope s_show_make) (He.ga K "show_make") cdv A outer s H E) (E := E) rfl rfl rfl rfl
  have nd := sc_show_make.nd
  exact (qone (qret (qcall O__show_rows (hr.mono (by decide)) rfl g__show_rows F__show_rows.kp b__show_rows (fun σ => L2N.passAt tk σ) (qa_cons (qvar (i := 0) rfl (.inl rfl)) qa_nil))))
abbrev N__law_well : List Str := ["script", "place", "cell"]
theorem sc__law_well : FnScope N__law_well ["script", "place"] (defScope s__law_well) := ⟨rfl, rfl, rfl, by decide +kernel, rfl, by decide +kernel, by decide +kernel⟩
theorem ok__law_well (X0 : K.In h) (G : h.Ns mainGlobals mg) (c : He.SaysD fa fn K) : ∃ fd, FunD K "_law_well" "_law_well" (defArgs s__law_well) (defBody s__law_well) (defScope s__law_well) [] [] (He.ga K "_law_well") fd ∧ FnOk P w K mg base (L2N.CX P w) 1 (He.ga K "_law_well") fd ["script", "place"] (spF K 2 m__law_well) := by
  have f_abs : mg "abs" = none := He.free_ok X0 G (c.fact 56 rfl)
  have f_int : mg "int" = none := He.free_ok X0 G (c.fact 59 rfl)
  have f_len : mg "len" = none := He.free_ok X0 G (c.fact 61 rfl)
  have f_max : mg "max" = none := He.free_ok X0 G (c.fact 63 rfl)
  obtain ⟨fd, F⟩ := c.def_ 37 (d := d__law_well) rfl
  refine ⟨fd, F, fn_ok (k := 0) F sc__law_well fun cdv A outer s H E hr B => ?_⟩
  have hp : PassesOwn (model P w) _ _ _ := passes_of (X := cxOf (L2N.CX P w) P w K mg base N__law_well "_law_well" (defScope s__law_well) (He.ga K "_law_well") cdv A outer s H E) (K := fun e s'' => L2N.CX P w outer H s E e s'') rfl
  have tk := L2N.takes_of (X := cxOf (L2N.CX P w) P w K mg base N__law_well "_law_well" (defScope s__law_well) (He.ga K "_law_well") cdv A outer s H E) (E := E) rfl rfl rfl rfl
  have nd := sc__law_well.nd
  exact (qcons (qset (i := 2) nd rfl (.inl rfl) (qifx (qtcmp op_lt does_lt (qvar (i := 1) rfl (.inl rfl)) (qfnB call_len_seq does_len rfl f_len boot_len (qa_cons (qvar (i := 0) rfl (.inl rfl)) qa_nil))) (qfnT call_int1 does_int rfl f_int boot_int (qa_cons (qix (qvar (i := 0) rfl (.inl rfl)) (qvar (i := 1) rfl (.inl rfl))) qa_nil)) (qop op_add4 does_add (qop op_mulX does_mulX (qvar (i := 1) rfl (.inl rfl)) qint) (qop op_mulX does_mulX (qfnB call_len_seq does_len rfl f_len boot_len (qa_cons (qvar (i := 0) rfl (.inl rfl)) qa_nil)) qint)))) (qone (qret (qlst (qa_cons (qfnB (call_max2 rfl) does_max2 rfl f_max boot_max (qa_cons qint (qa_cons (qop op_sub does_sub (qfnB call_abs does_abs rfl f_abs boot_abs (qa_cons (qvar (i := 2) rfl (.inl rfl)) qa_nil)) (qop op_pow does_pow qint qint)) qa_nil))) (qa_cons (qop op_mod does_mod (qfnT call_int1 does_int rfl f_int boot_int (qa_cons (qop op_add4 does_add (qop op_add4 does_add (qop op_mulX does_mulX (qvar (i := 2) rfl (.inl rfl)) qint) (qop op_mulX does_mulX (qvar (i := 1) rfl (.inl rfl)) qint)) qint) qa_nil)) (qop op_add4 does_add (qop op_pow does_pow qint qint) qint)) (qa_cons qint qa_nil)))))))
abbrev N__law_draw : List Str := ["well", "many", "found", "mixed"]
theorem sc__law_draw : FnScope N__law_draw ["well", "many"] (defScope s__law_draw) := ⟨rfl, rfl, rfl, by decide +kernel, rfl, by decide +kernel, by decide +kernel⟩
theorem ok__law_draw (X0 : K.In h) (G : h.Ns mainGlobals mg) (c : He.SaysD fa fn K) : ∃ fd, FunD K "_law_draw" "_law_draw" (defArgs s__law_draw) (defBody s__law_draw) (defScope s__law_draw) [] [] (He.ga K "_law_draw") fd ∧ FnOk P w K mg base (L2N.CX P w) 1 (He.ga K "_law_draw") fd ["well", "many"] (spF K 2 m__law_draw) := by
  have f_int : mg "int" = none := He.free_ok X0 G (c.fact 59 rfl)
  obtain ⟨fd, F⟩ := c.def_ 38 (d := d__law_draw) rfl
  refine ⟨fd, F, fn_ok (k := 0) F sc__law_draw fun cdv A outer s H E hr B => ?_⟩
  have hp : PassesOwn (model P w) _ _ _ := passes_of (X := cxOf (L2N.CX P w) P w K mg base N__law_draw "_law_draw" (defScope s__law_draw) (He.ga K "_law_draw") cdv A outer s H E) (K := fun e s'' => L2N.CX P w outer H s E e s'') rfl
  have tk := L2N.takes_of (X := cxOf (L2N.CX P w) P w K mg base N__law_draw "_law_draw" (defScope s__law_draw) (He.ga K "_law_draw") cdv A outer s H E) (E := E) rfl rfl rfl rfl
  have nd := sc__law_draw.nd
  exact (qcons (qif (qtcmp op_gt does_gt (qix (qvar (i := 0) rfl (.inl rfl)) qint) qint) (qcons (qset (i := 2) nd rfl (.inl rfl) (qop op_mod does_mod (qfnT call_int1 does_int rfl f_int boot_int (qa_cons (qix (qvar (i := 0) rfl (.inl rfl)) qint) qa_nil)) (qvar (i := 1) rfl (.inl rfl)))) (qcons (qsetix (i := 0) rfl (.inl rfl) qint (qop op_fdivW does_div (qix (qvar (i := 0) rfl (.inl rfl)) qint) (qvar (i := 1) rfl (.inl rfl)))) (qone (qret (qvar (i := 2) rfl (.inl rfl)))))) qnil) (qcons (qsetix (i := 0) rfl (.inl rfl) qint (qop op_add4 does_add (qix (qvar (i := 0) rfl (.inl rfl)) qint) qint)) (qcons (qset (i := 3) nd rfl (.inl rfl) (qop op_mod does_mod (qfnT call_int1 does_int rfl f_int boot_int (qa_cons (qop op_powW does_powW (qop op_add4 does_add (qix (qvar (i := 0) rfl (.inl rfl)) qint) (qop op_mulW does_mul qint (qix (qvar (i := 0) rfl (.inl rfl)) qint))) qint) qa_nil)) (qop op_add4 does_add (qop op_pow does_pow qint qint) qint))) (qcons (qset (i := 3) nd rfl (.inl rfl) (qop op_mod does_mod (qfnT call_int1 does_int rfl f_int boot_int (qa_cons (qop op_powW does_powW (qop op_add4 does_add (qvar (i := 3) rfl (.inl rfl)) qint) qint) qa_nil)) (qop op_add4 does_add (qop op_pow does_pow qint qint) qint))) (qone (qret (qop op_mod does_mod (qfnT call_int1 does_int rfl f_int boot_int (qa_cons (qop op_fdivW does_div (qvar (i := 3) rfl (.inl rfl)) (qop op_pow does_pow qint qint)) qa_nil)) (qvar (i := 1) rfl (.inl rfl)))))))))
abbrev N__law_same : List Str := ["told", "due", "k"]
theorem sc__law_same : FnScope N__law_same ["told", "due"] (defScope s__law_same) := ⟨rfl, rfl, rfl, by decide +kernel, rfl, by decide +kernel, by decide +kernel⟩
theorem ok__law_same (X0 : K.In h) (G : h.Ns mainGlobals mg) (c : He.SaysD fa fn K) : ∀ fuel : Nat, ∃ fd, FunD K "_law_same" "_law_same" (defArgs s__law_same) (defBody s__law_same) (defScope s__law_same) [] [] (He.ga K "_law_same") fd ∧ FnOk P w K mg base (L2N.CX P w) (1 + fuel) (He.ga K "_law_same") fd ["told", "due"] (spF K 2 (m__law_same fuel)) := by
  have f_all : mg "all" = none := He.free_ok X0 G (c.fact 57 rfl)
  have f_bool : mg "bool" = none := He.free_ok X0 G (c.fact 58 rfl)
  have f_int : mg "int" = none := He.free_ok X0 G (c.fact 59 rfl)
  have f_isinstance : mg "isinstance" = none := He.free_ok X0 G (c.fact 60 rfl)
  have f_len : mg "len" = none := He.free_ok X0 G (c.fact 61 rfl)
  have f_list : mg "list" = none := He.free_ok X0 G (c.fact 62 rfl)
  have f_range : mg "range" = none := He.free_ok X0 G (c.fact 65 rfl)
  have f_str : mg "str" = none := He.free_ok X0 G (c.fact 67 rfl)
  have f_tuple : mg "tuple" = none := He.free_ok X0 G (c.fact 68 rfl)
  have g__law_same : mg "_law_same" = some (.ref (He.ga K "_law_same")) := He.glo_ok X0 G (c.fact 39 rfl)
  obtain ⟨fd, F__law_same⟩ := c.def_ 39 (d := d__law_same) rfl
  have F__law_same : FunD K "_law_same" "_law_same" (defArgs s__law_same) (defBody s__law_same) (defScope s__law_same) [] [] (He.ga K "_law_same") fd := F__law_same
  have b__law_same : Binds K fd ["told", "due"] [] := F__law_same.bindsN fun _ _ _ _ _ _ us hl => match us, hl with | [_, _], _ => rfl
  intro fuel
  refine ⟨fd, F__law_same, ?_⟩
  induction fuel with
  | zero =>
    refine (fn_ok (k := 0) (b := sNever) F__law_same sc__law_same fun cdv A outer s H E hr B => qnevers).imp fun vs H Q E z => ⟨z.1, ?_⟩
    obtain ⟨e, F, R, z⟩ := z.2
    exact z.elim
  | succ fuel ih =>
    have O__law_same := ih
    refine fn_ok (k := 1 + fuel) F__law_same sc__law_same fun cdv A outer s H E hr B => ?_
    have hp : PassesOwn (model P w) _ _ _ := passes_of (X := cxOf (L2N.CX P w) P w K mg base N__law_same "_law_same" (defScope s__law_same) (He.ga K "_law_same") cdv A outer s H E) (K := fun e s'' => L2N.CX P w outer H s E e s'') rfl
    have tk := L2N.takes_of (X := cxOf (L2N.CX P w) P w K mg base N__law_same "_law_same" (defScope s__law_same) (He.ga K "_law_same") cdv A outer s H E) (E := E) rfl rfl rfl rfl
    have nd := sc__law_same.nd
    exact (qcons (qif (qtcmp op_isN does_isN (qvar (i := 1) rfl (.inr (.inl rfl))) qnon) (qone (qret (qcmp op_isN does_isN (qvar (i := 0) rfl (.inr (.inl rfl))) qnon))) qnil) (qcons (qif (qtval (qisi k_bool rfl f_isinstance rfl f_bool boot_bool (qvar (i := 1) rfl (.inr (.inl rfl))))) (qone (qret (qifx (qtval (qvar (i := 1) rfl (.inr (.inl rfl)))) (qcmp op_isN does_isN (qvar (i := 0) rfl (.inr (.inl rfl))) qbl) (qcmp op_isN does_isN (qvar (i := 0) rfl (.inr (.inl rfl))) qbl)))) qnil) (qcons (qif (qtval (qisi k_int rfl f_isinstance rfl f_int boot_int (qvar (i := 1) rfl (.inr (.inl rfl))))) (qone (qret (qand (qisi k_int rfl f_isinstance rfl f_int boot_int (qvar (i := 0) rfl (.inr (.inl rfl)))) (qand (qnot (qisi k_bool rfl f_isinstance rfl f_bool boot_bool (qvar (i := 0) rfl (.inr (.inl rfl))))) (qone_ (qcmp (op_eqD hr.units) does_eq (qvar (i := 0) rfl (.inr (.inl rfl))) (qvar (i := 1) rfl (.inr (.inl rfl))))))))) qnil) (qcons (qif (qtval (qisi k_str rfl f_isinstance rfl f_str boot_str (qvar (i := 1) rfl (.inr (.inl rfl))))) (qone (qret (qand (qisi k_str rfl f_isinstance rfl f_str boot_str (qvar (i := 0) rfl (.inr (.inl rfl)))) (qone_ (qcmp (op_eqD hr.units) does_eq (qvar (i := 0) rfl (.inr (.inl rfl))) (qvar (i := 1) rfl (.inr (.inl rfl)))))))) qnil) (qcons (qif (QW.t (qw_or (qtcmp (op_neD hr.units) does_ne (qisi k_tuple rfl f_isinstance rfl f_tuple boot_tuple (qvar (i := 1) rfl (.inr (.inl rfl)))) (qisi k_tuple rfl f_isinstance rfl f_tuple boot_tuple (qvar (i := 0) rfl (.inr (.inl rfl))))) (qw_or1 (qtcmp (op_neD hr.units) does_ne (qisi k_list rfl f_isinstance rfl f_list boot_list (qvar (i := 1) rfl (.inr (.inl rfl)))) (qisi k_list rfl f_isinstance rfl f_list boot_list (qvar (i := 0) rfl (.inr (.inl rfl)))))))) (qone (qret qbl)) qnil) (qone (qret (qand (qcmp (op_eqD hr.units) does_eq (qfnB call_len_seq does_len rfl f_len boot_len (qa_cons (qvar (i := 0) rfl (.inr (.inl rfl))) qa_nil)) (qfnB call_len_seq does_len rfl f_len boot_len (qa_cons (qvar (i := 1) rfl (.inr (.inl rfl))) qa_nil))) (qone_ (qfnB (cr_all rfl) does_all rfl f_all boot_all (qa_cons (qcomp (vs := [2]) rfl nd (qir1 rfl f_range (qa_cons (qfnB call_len_seq does_len rfl f_len boot_len (qa_cons (qvar (i := 1) rfl (.inr (.inl rfl))) qa_nil)) qa_nil)) (blkOk_by (own := [("k", 2)]) (N := N__law_same) (sc := defScope s__law_same) (by decide +kernel)) (gok_n (by decide)) rfl (fun _ _ _ _ _ B => (qgn (i := 2) nd rfl (.inl rfl) (by decide))) (fun _ _ _ _ _ => qtsnil) (fun _ _ _ _ _ => (qcall O__law_same (hr.mono (by omega)) rfl g__law_same F__law_same.kp b__law_same (fun σ => L2N.passAt takesN0 σ) (qa_cons (qix (qvar (i := 0) rfl (.inr (.inl rfl))) (qvar (i := 2) rfl (.inl rfl))) (qa_cons (qix (qvar (i := 1) rfl (.inr (.inl rfl))) (qvar (i := 2) rfl (.inl rfl))) qa_nil))))) qa_nil)))))))))))
abbrev N__law_power : List Str := ["b", "d", "found", "turn"]
theorem sc__law_power : FnScope N__law_power ["b", "d"] (defScope s__law_power) := ⟨rfl, rfl, rfl, by decide +kernel, rfl, by decide +kernel, by decide +kernel⟩
theorem ok__law_power (X0 : K.In h) (G : h.Ns mainGlobals mg) (c : He.SaysD fa fn K) : ∃ fd, FunD K "_law_power" "_law_power" (defArgs s__law_power) (defBody s__law_power) (defScope s__law_power) [] [] (He.ga K "_law_power") fd ∧ FnOk P w K mg base (L2N.CX P w) 1 (He.ga K "_law_power") fd ["b", "d"] (spF K 2 m__law_power) := by
  have f_range : mg "range" = none := He.free_ok X0 G (c.fact 65 rfl)
  obtain ⟨fd, F⟩ := c.def_ 40 (d := d__law_power) rfl
  refine ⟨fd, F, fn_ok (k := 0) F sc__law_power fun cdv A outer s H E hr B => ?_⟩
  have hp : PassesOwn (model P w) _ _ _ := passes_of (X := cxOf (L2N.CX P w) P w K mg base N__law_power "_law_power" (defScope s__law_power) (He.ga K "_law_power") cdv A outer s H E) (K := fun e s'' => L2N.CX P w outer H s E e s'') rfl
  have tk := L2N.takes_of (X := cxOf (L2N.CX P w) P w K mg base N__law_power "_law_power" (defScope s__law_power) (He.ga K "_law_power") cdv A outer s H E) (E := E) rfl rfl rfl rfl
  have nd := sc__law_power.nd
  exact (qcons (qset (i := 2) nd rfl (.inl rfl) qint) (qcons (qfor (ws := [3]) hp rfl (qir1 rfl f_range (qa_cons (qvar (i := 1) rfl (.inl rfl)) qa_nil)) (fun B => (qgn (i := 3) nd rfl (.inl rfl) (by decide))) (fun B => (qone (qset (i := 2) nd rfl (.inl rfl) (qop op_mulW does_mul (qvar (i := 2) rfl (.inl rfl)) (qvar (i := 0) rfl (.inl rfl))))))) (qone (qret (qvar (i := 2) rfl (.inl rfl))))))
abbrev N__law_order : List Str := ["well", "many", "left", "found", "turn"]
theorem sc__law_order : FnScope N__law_order ["well", "many"] (defScope s__law_order) := ⟨rfl, rfl, rfl, by decide +kernel, rfl, by decide +kernel, by decide +kernel⟩
theorem ok__law_order (X0 : K.In h) (G : h.Ns mainGlobals mg) (c : He.SaysD fa fn K) : ∃ fd, FunD K "_law_order" "_law_order" (defArgs s__law_order) (defBody s__law_order) (defScope s__law_order) [] [] (He.ga K "_law_order") fd ∧ FnOk P w K mg base (L2N.CX P w) 2 (He.ga K "_law_order") fd ["well", "many"] (spF K 2 m__law_order) := by
  obtain ⟨fd__law_draw, F__law_draw, O__law_draw⟩ := ok__law_draw (P := P) (w := w) (base := base) X0 G c
  have b__law_draw : Binds K fd__law_draw ["well", "many"] [] := F__law_draw.bindsN fun _ _ _ _ _ _ us hl => match us, hl with | [_, _], _ => rfl
  have g__law_draw : mg "_law_draw" = some (.ref (He.ga K "_law_draw")) := He.glo_ok X0 G (c.fact 38 rfl)
  have f_len : mg "len" = none := He.free_ok X0 G (c.fact 61 rfl)
  have f_list : mg "list" = none := He.free_ok X0 G (c.fact 62 rfl)
  have f_range : mg "range" = none := He.free_ok X0 G (c.fact 65 rfl)
  obtain ⟨fd, F⟩ := c.def_ 41 (d := d__law_order) rfl
  refine ⟨fd, F, fn_ok (k := 1) F sc__law_order fun cdv A outer s H E hr B => ?_⟩
  have hp : PassesOwn (model P w) _ _ _ := passes_of (X := cxOf (L2N.CX P w) P w K mg base N__law_order "_law_order" (defScope s__law_order) (He.ga K "_law_order") cdv A outer s H E) (K := fun e s'' => L2N.CX P w outer H s E e s'') rfl
  have tk := L2N.takes_of (X := cxOf (L2N.CX P w) P w K mg base N__law_order "_law_order" (defScope s__law_order) (He.ga K "_law_order") cdv A outer s H E) (E := E) rfl rfl rfl rfl
  have nd := sc__law_order.nd
  exact (qcons (qpar2 (i := 2) (j := 3) rfl nd rfl rfl (by decide) rfl rfl (qa_cons (qlistrng rfl rfl f_list rfl f_range (qvar (i := 1) rfl (.inl rfl))) (qa_cons (qlst qa_nil) qa_nil)) (by rfl)) (qcons (qfor (ws := [4]) hp rfl (qir1 rfl f_range (qa_cons (qvar (i := 1) rfl (.inl rfl)) qa_nil)) (fun B => (qgn (i := 4) nd rfl (.inl rfl) (by decide))) (fun B => (qone (qexpr (qmeth (i := 3) PySem.F.slot_list_append PySem.F.type_list_append mt_append does_append rfl (.inl rfl) (qa_cons (qmeth (i := 2) PySem.F.slot_list_pop PySem.F.type_list_pop mt_popAt does_pop rfl (.inl rfl) (qa_cons (qcall O__law_draw (hr.mono (by decide)) rfl g__law_draw F__law_draw.kp b__law_draw (fun σ => L2N.passAt tk σ) (qa_cons (qvar (i := 0) rfl (.inl rfl)) (qa_cons (qfnB call_len_seq does_len rfl f_len boot_len (qa_cons (qvar (i := 2) rfl (.inl rfl)) qa_nil)) qa_nil))) qa_nil)) qa_nil)))))) (qone (qret (qvar (i := 3) rfl (.inl rfl))))))
abbrev N__law_kind : List Str := ["well", "b", "many", "way", "places", "at", "turned", "x", "y"]
theorem sc__law_kind : FnScope N__law_kind ["well", "b", "many"] (defScope s__law_kind) := ⟨rfl, rfl, rfl, by decide +kernel, rfl, by decide +kernel, by decide +kernel⟩
theorem ok__law_kind (X0 : K.In h) (G : h.Ns mainGlobals mg) (c : He.SaysD fa fn K) : ∃ fd, FunD K "_law_kind" "_law_kind" (defArgs s__law_kind) (defBody s__law_kind) (defScope s__law_kind) [] [] (He.ga K "_law_kind") fd ∧ FnOk P w K mg base (L2N.CX P w) 3 (He.ga K "_law_kind") fd ["well", "b", "many"] (spF K 3 m__law_kind) := by
  obtain ⟨fd__law_draw, F__law_draw, O__law_draw⟩ := ok__law_draw (P := P) (w := w) (base := base) X0 G c
  have b__law_draw : Binds K fd__law_draw ["well", "many"] [] := F__law_draw.bindsN fun _ _ _ _ _ _ us hl => match us, hl with | [_, _], _ => rfl
  have g__law_draw : mg "_law_draw" = some (.ref (He.ga K "_law_draw")) := He.glo_ok X0 G (c.fact 38 rfl)
  obtain ⟨fd__law_order, F__law_order, O__law_order⟩ := ok__law_order (P := P) (w := w) (base := base) X0 G c
  have b__law_order : Binds K fd__law_order ["well", "many"] [] := F__law_order.bindsN fun _ _ _ _ _ _ us hl => match us, hl with | [_, _], _ => rfl
  have g__law_order : mg "_law_order" = some (.ref (He.ga K "_law_order")) := He.glo_ok X0 G (c.fact 41 rfl)
  have f_int : mg "int" = none := He.free_ok X0 G (c.fact 59 rfl)
  have f_range : mg "range" = none := He.free_ok X0 G (c.fact 65 rfl)
  have f_tuple : mg "tuple" = none := He.free_ok X0 G (c.fact 68 rfl)
  obtain ⟨fd, F⟩ := c.def_ 42 (d := d__law_kind) rfl
  refine ⟨fd, F, fn_ok (k := 2) F sc__law_kind fun cdv A outer s H E hr B => ?_⟩
  have hp : PassesOwn (model P w) _ _ _ := passes_of (X := cxOf (L2N.CX P w) P w K mg base N__law_kind "_law_kind" (defScope s__law_kind) (He.ga K "_law_kind") cdv A outer s H E) (K := fun e s'' => L2N.CX P w outer H s E e s'') rfl
  have tk := L2N.takes_of (X := cxOf (L2N.CX P w) P w K mg base N__law_kind "_law_kind" (defScope s__law_kind) (He.ga K "_law_kind") cdv A outer s H E) (E := E) rfl rfl rfl rfl
  have nd := sc__law_kind.nd
  exact (qcons (qparT (is := [3, 4]) (gs := gsNames [3, 4]) rfl (qa_cons (qcall O__law_draw (hr.mono (by decide)) rfl g__law_draw F__law_draw.kp b__law_draw (fun σ => L2N.passAt tk σ) (qa_cons (qvar (i := 0) rfl (.inr (.inl rfl))) (qa_cons qint qa_nil))) (qa_cons (qlst qa_nil) qa_nil)) (pgs_cons (pg_name (i := 3) nd rfl (.inl rfl)) (pgs_cons (pg_name (i := 4) nd rfl (.inr rfl)) pgs_nil)) (gsNames_ok [3, 4]) (by decide)) (qcons (qfor (ws := [5]) hp rfl (qir1 rfl f_range (qa_cons (qop op_mulW does_mul (qvar (i := 1) rfl (.inr (.inl rfl))) (qvar (i := 1) rfl (.inr (.inl rfl)))) qa_nil)) (fun B => (qgn (i := 5) nd rfl (.inl rfl) (by decide))) (fun B => (qone (qexpr (qmeth (i := 4) PySem.F.slot_list_append PySem.F.type_list_append mt_append does_append rfl (.inr (.inl rfl)) (qa_cons (qtup (qa_cons (qop op_mod does_mod (qfnT call_int1 does_int rfl f_int boot_int (qa_cons (qvar (i := 5) rfl (.inl rfl)) qa_nil)) (qvar (i := 1) rfl (.inr (.inl rfl)))) (qa_cons (qop op_fdivW does_div (qvar (i := 5) rfl (.inl rfl)) (qvar (i := 1) rfl (.inr (.inl rfl)))) qa_nil))) qa_nil)))))) (qcons (qif (qtcmp op_lt does_lt (qvar (i := 3) rfl (.inl rfl)) qint) (qone (qset (i := 4) nd rfl (.inr rfl) (qcomp (vs := [5]) rfl nd (qiof (qcall O__law_order (hr.mono (by decide)) rfl g__law_order F__law_order.kp b__law_order (fun σ => L2N.passAt tk σ) (qa_cons (qvar (i := 0) rfl (.inr (.inl rfl))) (qa_cons (qop op_mulW does_mul (qvar (i := 1) rfl (.inr (.inl rfl))) (qvar (i := 1) rfl (.inr (.inl rfl)))) qa_nil)))) (blkOk_by (own := [("at", 5)]) (N := N__law_kind) (sc := defScope s__law_kind) (by decide +kernel)) (gok_n (by decide)) rfl (fun _ _ _ _ _ B => (qgn (i := 5) nd rfl (.inl rfl) (by decide))) (fun _ _ _ _ _ => qtsnil) (fun _ _ _ _ _ => (qix (qvar (i := 4) rfl (.inr (.inl rfl))) (qvar (i := 5) rfl (.inl rfl))))))) qnil) (qcons (qif (qtcmp (op_eqD hr.units) does_eq (qvar (i := 3) rfl (.inl rfl)) qint) (qcons (qset (i := 4) nd rfl (.inr rfl) (qcomp (vs := [7, 8]) rfl nd (qiof (qvar (i := 4) rfl (.inr (.inl rfl)))) (blkOk_by (own := [("x", 7), ("y", 8)]) (N := N__law_kind) (sc := defScope s__law_kind) (by decide +kernel)) (gok_t (gsok_cons (gok_n (by decide)) (gsok_cons (gok_n (by decide)) gsok_nil))) rfl (fun _ _ _ _ _ B => (qgt rfl (qgscons (qgn (i := 7) nd rfl (.inl rfl) (by decide)) (qgscons (qgn (i := 8) nd rfl (.inl rfl) (by decide)) qgsnil)))) (fun _ _ _ _ _ => qtsnil) (fun _ _ _ _ _ => (qtup (qa_cons (qifx (qtcmp (op_eqD hr.units) does_eq (qop op_mod does_mod (qfnT call_int1 does_int rfl f_int boot_int (qa_cons (qvar (i := 8) rfl (.inl rfl)) qa_nil)) qint) qint) (qvar (i := 7) rfl (.inl rfl)) (qop op_sub does_sub (qop op_sub does_sub (qvar (i := 1) rfl (.inr (.inl rfl))) qint) (qvar (i := 7) rfl (.inl rfl)))) (qa_cons (qvar (i := 8) rfl (.inl rfl)) qa_nil)))))) (qcons (qset (i := 6) nd rfl (.inl rfl) (qcall O__law_draw (hr.mono (by decide)) rfl g__law_draw F__law_draw.kp b__law_draw (fun σ => L2N.passAt tk σ) (qa_cons (qvar (i := 0) rfl (.inr (.inl rfl))) (qa_cons qint qa_nil)))) (qone (qset (i := 4) nd rfl (.inr rfl) (qifx (qtcmp (op_eqD hr.units) does_eq (qvar (i := 6) rfl (.inl rfl)) qint) (qcomp (vs := [7, 8]) rfl nd (qiof (qvar (i := 4) rfl (.inr (.inl rfl)))) (blkOk_by (own := [("x", 7), ("y", 8)]) (N := N__law_kind) (sc := defScope s__law_kind) (by decide +kernel)) (gok_t (gsok_cons (gok_n (by decide)) (gsok_cons (gok_n (by decide)) gsok_nil))) rfl (fun _ _ _ _ _ B => (qgt rfl (qgscons (qgn (i := 7) nd rfl (.inl rfl) (by decide)) (qgscons (qgn (i := 8) nd rfl (.inl rfl) (by decide)) qgsnil)))) (fun _ _ _ _ _ => qtsnil) (fun _ _ _ _ _ => (qtup (qa_cons (qvar (i := 8) rfl (.inl rfl)) (qa_cons (qvar (i := 7) rfl (.inl rfl)) qa_nil))))) (qvar (i := 4) rfl (.inr (.inl rfl)))))))) qnil) (qone (qret (qfnT call_tuple_of does_tuple rfl f_tuple boot_tuple (qa_cons (qcomp (vs := [7, 8]) rfl nd (qiof (qvar (i := 4) rfl (.inr (.inl rfl)))) (blkOk_by (own := [("x", 7), ("y", 8)]) (N := N__law_kind) (sc := defScope s__law_kind) (by decide +kernel)) (gok_t (gsok_cons (gok_n (by decide)) (gsok_cons (gok_n (by decide)) gsok_nil))) rfl (fun _ _ _ _ _ B => (qgt rfl (qgscons (qgn (i := 7) nd rfl (.inl rfl) (by decide)) (qgscons (qgn (i := 8) nd rfl (.inl rfl) (by decide)) qgsnil)))) (fun _ _ _ _ _ => qtsnil) (fun _ _ _ _ _ => (qtup (qa_cons (qvar (i := 7) rfl (.inl rfl)) (qa_cons (qvar (i := 8) rfl (.inl rfl)) (qa_cons (qcall O__law_draw (hr.mono (by decide)) rfl g__law_draw F__law_draw.kp b__law_draw (fun σ => L2N.passAt takesN0 σ) (qa_cons (qvar (i := 0) rfl (.inr (.inl rfl))) (qa_cons (qvar (i := 2) rfl (.inr (.inl rfl))) qa_nil))) qa_nil)))))) qa_nil))))))))
abbrev N__law_book : List Str := ["well", "most", "b", "many", "kind"]
theorem sc__law_book : FnScope N__law_book ["well", "most"] (defScope s__law_book) := ⟨rfl, rfl, rfl, by decide +kernel, rfl, by decide +kernel, by decide +kernel⟩
theorem ok__law_book (X0 : K.In h) (G : h.Ns mainGlobals mg) (c : He.SaysD fa fn K) : ∃ fd, FunD K "_law_book" "_law_book" (defArgs s__law_book) (defBody s__law_book) (defScope s__law_book) [] [] (He.ga K "_law_book") fd ∧ FnOk P w K mg base (L2N.CX P w) 4 (He.ga K "_law_book") fd ["well", "most"] (spF K 2 m__law_book) := by
  obtain ⟨fd__law_draw, F__law_draw, O__law_draw⟩ := ok__law_draw (P := P) (w := w) (base := base) X0 G c
  have b__law_draw : Binds K fd__law_draw ["well", "many"] [] := F__law_draw.bindsN fun _ _ _ _ _ _ us hl => match us, hl with | [_, _], _ => rfl
  have g__law_draw : mg "_law_draw" = some (.ref (He.ga K "_law_draw")) := He.glo_ok X0 G (c.fact 38 rfl)
  obtain ⟨fd__law_kind, F__law_kind, O__law_kind⟩ := ok__law_kind (P := P) (w := w) (base := base) X0 G c
  have b__law_kind : Binds K fd__law_kind ["well", "b", "many"] [] := F__law_kind.bindsN fun _ _ _ _ _ _ us hl => match us, hl with | [_, _, _], _ => rfl
  have g__law_kind : mg "_law_kind" = some (.ref (He.ga K "_law_kind")) := He.glo_ok X0 G (c.fact 42 rfl)
  have f_range : mg "range" = none := He.free_ok X0 G (c.fact 65 rfl)
  have f_tuple : mg "tuple" = none := He.free_ok X0 G (c.fact 68 rfl)
  obtain ⟨fd, F⟩ := c.def_ 43 (d := d__law_book) rfl
  refine ⟨fd, F, fn_ok (k := 3) F sc__law_book fun cdv A outer s H E hr B => ?_⟩
  have hp : PassesOwn (model P w) _ _ _ := passes_of (X := cxOf (L2N.CX P w) P w K mg base N__law_book "_law_book" (defScope s__law_book) (He.ga K "_law_book") cdv A outer s H E) (K := fun e s'' => L2N.CX P w outer H s E e s'') rfl
  have tk := L2N.takes_of (X := cxOf (L2N.CX P w) P w K mg base N__law_book "_law_book" (defScope s__law_book) (He.ga K "_law_book") cdv A outer s H E) (E := E) rfl rfl rfl rfl
  have nd := sc__law_book.nd
  exact (qcons (qparT (is := [2, 3]) (gs := gsNames [2, 3]) rfl (qa_cons (qop op_add4 does_add qint (qcall O__law_draw (hr.mono (by decide)) rfl g__law_draw F__law_draw.kp b__law_draw (fun σ => L2N.passAt tk σ) (qa_cons (qvar (i := 0) rfl (.inr (.inl rfl))) (qa_cons qint qa_nil)))) (qa_cons (qop op_add4 does_add qint (qcall O__law_draw (hr.mono (by decide)) rfl g__law_draw F__law_draw.kp b__law_draw (fun σ => L2N.passAt tk σ) (qa_cons (qvar (i := 0) rfl (.inr (.inl rfl))) (qa_cons (qvar (i := 1) rfl (.inl rfl)) qa_nil)))) qa_nil)) (pgs_cons (pg_name (i := 2) nd rfl (.inr rfl)) (pgs_cons (pg_name (i := 3) nd rfl (.inr rfl)) pgs_nil)) (gsNames_ok [2, 3]) (by decide)) (qone (qret (qtup (qa_cons (qvar (i := 2) rfl (.inr (.inl rfl))) (qa_cons (qfnT call_tuple_of does_tuple rfl f_tuple boot_tuple (qa_cons (qcomp (vs := [4]) rfl nd (qir1 rfl f_range (qa_cons (qvar (i := 3) rfl (.inr (.inl rfl))) qa_nil)) (blkOk_by (own := [("kind", 4)]) (N := N__law_book) (sc := defScope s__law_book) (by decide +kernel)) (gok_n (by decide)) rfl (fun _ _ _ _ _ B => (qgn (i := 4) nd rfl (.inl rfl) (by decide))) (fun _ _ _ _ _ => qtsnil) (fun _ _ _ _ _ => (qcall O__law_kind (hr.mono (by decide)) rfl g__law_kind F__law_kind.kp b__law_kind (fun σ => L2N.passAt takesN0 σ) (qa_cons (qvar (i := 0) rfl (.inr (.inl rfl))) (qa_cons (qvar (i := 2) rfl (.inr (.inl rfl))) (qa_cons (qvar (i := 3) rfl (.inr (.inl rfl))) qa_nil)))))) qa_nil)) qa_nil))))))
abbrev N__law_integer : List Str := ["well", "digits", "kind"]
theorem sc__law_integer : FnScope N__law_integer ["well", "digits"] (defScope s__law_integer) := ⟨rfl, rfl, rfl, by decide +kernel, rfl, by decide +kernel, by decide +kernel⟩
theorem ok__law_integer (X0 : K.In h) (G : h.Ns mainGlobals mg) (c : He.SaysD fa fn K) : ∃ fd, FunD K "_law_integer" "_law_integer" (defArgs s__law_integer) (defBody s__law_integer) (defScope s__law_integer) [] [] (He.ga K "_law_integer") fd ∧ FnOk P w K mg base (L2N.CX P w) 2 (He.ga K "_law_integer") fd ["well", "digits"] (spF K 2 m__law_integer) := by
  obtain ⟨fd__law_draw, F__law_draw, O__law_draw⟩ := ok__law_draw (P := P) (w := w) (base := base) X0 G c
  have b__law_draw : Binds K fd__law_draw ["well", "many"] [] := F__law_draw.bindsN fun _ _ _ _ _ _ us hl => match us, hl with | [_, _], _ => rfl
  have g__law_draw : mg "_law_draw" = some (.ref (He.ga K "_law_draw")) := He.glo_ok X0 G (c.fact 38 rfl)
  obtain ⟨fd__law_power, F__law_power, O__law_power⟩ := ok__law_power (P := P) (w := w) (base := base) X0 G c
  have b__law_power : Binds K fd__law_power ["b", "d"] [] := F__law_power.bindsN fun _ _ _ _ _ _ us hl => match us, hl with | [_, _], _ => rfl
  have g__law_power : mg "_law_power" = some (.ref (He.ga K "_law_power")) := He.glo_ok X0 G (c.fact 40 rfl)
  obtain ⟨fd, F⟩ := c.def_ 44 (d := d__law_integer) rfl
  refine ⟨fd, F, fn_ok (k := 1) F sc__law_integer fun cdv A outer s H E hr B => ?_⟩
  have hp : PassesOwn (model P w) _ _ _ := passes_of (X := cxOf (L2N.CX P w) P w K mg base N__law_integer "_law_integer" (defScope s__law_integer) (He.ga K "_law_integer") cdv A outer s H E) (K := fun e s'' => L2N.CX P w outer H s E e s'') rfl
  have tk := L2N.takes_of (X := cxOf (L2N.CX P w) P w K mg base N__law_integer "_law_integer" (defScope s__law_integer) (He.ga K "_law_integer") cdv A outer s H E) (E := E) rfl rfl rfl rfl
  have nd := sc__law_integer.nd
  exact (qcons (qset (i := 2) nd rfl (.inl rfl) (qcall O__law_draw (hr.mono (by decide)) rfl g__law_draw F__law_draw.kp b__law_draw (fun σ => L2N.passAt tk σ) (qa_cons (qvar (i := 0) rfl (.inl rfl)) (qa_cons qint qa_nil)))) (qcons (qif (qtcmp op_lt does_lt (qvar (i := 2) rfl (.inl rfl)) qint) (qone (qret (qcall O__law_draw (hr.mono (by decide)) rfl g__law_draw F__law_draw.kp b__law_draw (fun σ => L2N.passAt tk σ) (qa_cons (qvar (i := 0) rfl (.inl rfl)) (qa_cons (qix (qlst (qa_cons qint (qa_cons qint (qa_cons qint qa_nil)))) (qvar (i := 2) rfl (.inl rfl))) qa_nil))))) qnil) (qcons (qif (qtcmp (op_eqD hr.units) does_eq (qvar (i := 2) rfl (.inl rfl)) qint) (qone (qret (qop op_sub does_sub (qop op_sub does_sub (qcall O__law_power (hr.mono (by decide)) rfl g__law_power F__law_power.kp b__law_power (fun σ => L2N.passAt tk σ) (qa_cons qint (qa_cons (qvar (i := 1) rfl (.inl rfl)) qa_nil))) qint) (qcall O__law_draw (hr.mono (by decide)) rfl g__law_draw F__law_draw.kp b__law_draw (fun σ => L2N.passAt tk σ) (qa_cons (qvar (i := 0) rfl (.inl rfl)) (qa_cons qint qa_nil)))))) qnil) (qone (qret (qcall O__law_draw (hr.mono (by decide)) rfl g__law_draw F__law_draw.kp b__law_draw (fun σ => L2N.passAt tk σ) (qa_cons (qvar (i := 0) rfl (.inl rfl)) (qa_cons (qcall O__law_power (hr.mono (by decide)) rfl g__law_power F__law_power.kp b__law_power (fun σ => L2N.passAt tk σ) (qa_cons qint (qa_cons (qop op_add4 does_add qint (qcall O__law_draw (hr.mono (by decide)) rfl g__law_draw F__law_draw.kp b__law_draw (fun σ => L2N.passAt tk σ) (qa_cons (qvar (i := 0) rfl (.inl rfl)) (qa_cons (qvar (i := 1) rfl (.inl rfl)) qa_nil)))) qa_nil))) qa_nil))))))))
abbrev N__law_above : List Str := ["well", "low", "digits", "far"]
theorem sc__law_above : FnScope N__law_above ["well", "low", "digits"] (defScope s__law_above) := ⟨rfl, rfl, rfl, by decide +kernel, rfl, by decide +kernel, by decide +kernel⟩
theorem ok__law_above (X0 : K.In h) (G : h.Ns mainGlobals mg) (c : He.SaysD fa fn K) : ∃ fd, FunD K "_law_above" "_law_above" (defArgs s__law_above) (defBody s__law_above) (defScope s__law_above) [] [] (He.ga K "_law_above") fd ∧ FnOk P w K mg base (L2N.CX P w) 3 (He.ga K "_law_above") fd ["well", "low", "digits"] (spF K 3 m__law_above) := by
  obtain ⟨fd__law_draw, F__law_draw, O__law_draw⟩ := ok__law_draw (P := P) (w := w) (base := base) X0 G c
  have b__law_draw : Binds K fd__law_draw ["well", "many"] [] := F__law_draw.bindsN fun _ _ _ _ _ _ us hl => match us, hl with | [_, _], _ => rfl
  have g__law_draw : mg "_law_draw" = some (.ref (He.ga K "_law_draw")) := He.glo_ok X0 G (c.fact 38 rfl)
  obtain ⟨fd__law_integer, F__law_integer, O__law_integer⟩ := ok__law_integer (P := P) (w := w) (base := base) X0 G c
  have b__law_integer : Binds K fd__law_integer ["well", "digits"] [] := F__law_integer.bindsN fun _ _ _ _ _ _ us hl => match us, hl with | [_, _], _ => rfl
  have g__law_integer : mg "_law_integer" = some (.ref (He.ga K "_law_integer")) := He.glo_ok X0 G (c.fact 44 rfl)
  obtain ⟨fd, F⟩ := c.def_ 45 (d := d__law_above) rfl
  refine ⟨fd, F, fn_ok (k := 2) F sc__law_above fun cdv A outer s H E hr B => ?_⟩
  have hp : PassesOwn (model P w) _ _ _ := passes_of (X := cxOf (L2N.CX P w) P w K mg base N__law_above "_law_above" (defScope s__law_above) (He.ga K "_law_above") cdv A outer s H E) (K := fun e s'' => L2N.CX P w outer H s E e s'') rfl
  have tk := L2N.takes_of (X := cxOf (L2N.CX P w) P w K mg base N__law_above "_law_above" (defScope s__law_above) (He.ga K "_law_above") cdv A outer s H E) (E := E) rfl rfl rfl rfl
  have nd := sc__law_above.nd
  exact (qcons (qset (i := 3) nd rfl (.inl rfl) (qix (qlst (qa_cons qint (qa_cons (qop op_add4 does_add qint (qcall O__law_draw (hr.mono (by decide)) rfl g__law_draw F__law_draw.kp b__law_draw (fun σ => L2N.passAt tk σ) (qa_cons (qvar (i := 0) rfl (.inl rfl)) (qa_cons qint qa_nil)))) (qa_cons (qop op_add4 does_add qint (qcall O__law_integer (hr.mono (by decide)) rfl g__law_integer F__law_integer.kp b__law_integer (fun σ => L2N.passAt tk σ) (qa_cons (qvar (i := 0) rfl (.inl rfl)) (qa_cons (qvar (i := 2) rfl (.inl rfl)) qa_nil)))) qa_nil)))) (qcall O__law_draw (hr.mono (by decide)) rfl g__law_draw F__law_draw.kp b__law_draw (fun σ => L2N.passAt tk σ) (qa_cons (qvar (i := 0) rfl (.inl rfl)) (qa_cons qint qa_nil))))) (qone (qret (qop op_add4 does_add (qvar (i := 1) rfl (.inl rfl)) (qvar (i := 3) rfl (.inl rfl))))))
abbrev N__law_squares : List Str := ["well", "kinds", "many", "found", "far", "x", "y", "place", "turn", "left", "low", "kind"]
theorem sc__law_squares : FnScope N__law_squares ["well", "kinds", "many"] (defScope s__law_squares) := ⟨rfl, rfl, rfl, by decide +kernel, rfl, by decide +kernel, by decide +kernel⟩
theorem ok__law_squares (X0 : K.In h) (G : h.Ns mainGlobals mg) (c : He.SaysD fa fn K) : ∃ fd, FunD K "_law_squares" "_law_squares" (defArgs s__law_squares) (defBody s__law_squares) (defScope s__law_squares) [] [] (He.ga K "_law_squares") fd ∧ FnOk P w K mg base (L2N.CX P w) 3 (He.ga K "_law_squares") fd ["well", "kinds", "many"] (spF K 3 m__law_squares) := by
  obtain ⟨fd__law_draw, F__law_draw, O__law_draw⟩ := ok__law_draw (P := P) (w := w) (base := base) X0 G c
  have b__law_draw : Binds K fd__law_draw ["well", "many"] [] := F__law_draw.bindsN fun _ _ _ _ _ _ us hl => match us, hl with | [_, _], _ => rfl
  have g__law_draw : mg "_law_draw" = some (.ref (He.ga K "_law_draw")) := He.glo_ok X0 G (c.fact 38 rfl)
  obtain ⟨fd__law_integer, F__law_integer, O__law_integer⟩ := ok__law_integer (P := P) (w := w) (base := base) X0 G c
  have b__law_integer : Binds K fd__law_integer ["well", "digits"] [] := F__law_integer.bindsN fun _ _ _ _ _ _ us hl => match us, hl with | [_, _], _ => rfl
  have g__law_integer : mg "_law_integer" = some (.ref (He.ga K "_law_integer")) := He.glo_ok X0 G (c.fact 44 rfl)
  have f_range : mg "range" = none := He.free_ok X0 G (c.fact 65 rfl)
  have f_tuple : mg "tuple" = none := He.free_ok X0 G (c.fact 68 rfl)
  obtain ⟨fd, F⟩ := c.def_ 46 (d := d__law_squares) rfl
  refine ⟨fd, F, fn_ok (k := 2) F sc__law_squares fun cdv A outer s H E hr B => ?_⟩
  have hp : PassesOwn (model P w) _ _ _ := passes_of (X := cxOf (L2N.CX P w) P w K mg base N__law_squares "_law_squares" (defScope s__law_squares) (He.ga K "_law_squares") cdv A outer s H E) (K := fun e s'' => L2N.CX P w outer H s E e s'') rfl
  have tk := L2N.takes_of (X := cxOf (L2N.CX P w) P w K mg base N__law_squares "_law_squares" (defScope s__law_squares) (He.ga K "_law_squares") cdv A outer s H E) (E := E) rfl rfl rfl rfl
  have nd := sc__law_squares.nd
  exact (qcons (qpar2 (i := 3) (j := 4) rfl nd rfl rfl (by decide) rfl rfl (qa_cons (qlst qa_nil) (qa_cons (qcall O__law_draw (hr.mono (by decide)) rfl g__law_draw F__law_draw.kp b__law_draw (fun σ => L2N.passAt tk σ) (qa_cons (qvar (i := 0) rfl (.inr (.inl rfl))) (qa_cons qint qa_nil))) qa_nil)) (by rfl)) (qcons (qfor (ws := [5, 6]) hp rfl (qiof (qcomp (vs := [8]) rfl nd (qir1 rfl f_range (qa_cons (qop op_add4 does_add qint (qcall O__law_draw (hr.mono (by decide)) rfl g__law_draw F__law_draw.kp b__law_draw (fun σ => L2N.passAt tk σ) (qa_cons (qvar (i := 0) rfl (.inr (.inl rfl))) (qa_cons (qvar (i := 2) rfl (.inl rfl)) qa_nil)))) qa_nil)) (blkOk_by (own := [("turn", 8)]) (N := N__law_squares) (sc := defScope s__law_squares) (by decide +kernel)) (gok_n (by decide)) rfl (fun _ _ _ _ _ B => (qgn (i := 8) nd rfl (.inl rfl) (by decide))) (fun _ _ _ _ _ => qtsnil) (fun _ _ _ _ _ => (qtup (qa_cons (qcall O__law_draw (hr.mono (by decide)) rfl g__law_draw F__law_draw.kp b__law_draw (fun σ => L2N.passAt takesN0 σ) (qa_cons (qvar (i := 0) rfl (.inr (.inl rfl))) (qa_cons qint qa_nil))) (qa_cons (qcall O__law_draw (hr.mono (by decide)) rfl g__law_draw F__law_draw.kp b__law_draw (fun σ => L2N.passAt takesN0 σ) (qa_cons (qvar (i := 0) rfl (.inr (.inl rfl))) (qa_cons qint qa_nil))) qa_nil)))))) (fun B => (qgt rfl (qgscons (qgn (i := 5) nd rfl (.inl rfl) (by decide)) (qgscons (qgn (i := 6) nd rfl (.inl rfl) (by decide)) qgsnil)))) (fun B => (qcons (qset (i := 7) nd rfl (.inl rfl) (qtup (qa_cons (qop op_add4 does_add (qvar (i := 5) rfl (.inl rfl)) (qop op_mulW does_mul (qop op_mulW does_mul qint (qvar (i := 4) rfl (.inl rfl))) (qcall O__law_integer (hr.mono (by decide)) rfl g__law_integer F__law_integer.kp b__law_integer (fun σ => L2N.passAt tk σ) (qa_cons (qvar (i := 0) rfl (.inr (.inl rfl))) (qa_cons qint qa_nil))))) (qa_cons (qop op_add4 does_add (qvar (i := 6) rfl (.inl rfl)) (qop op_mulW does_mul (qvar (i := 4) rfl (.inl rfl)) (qcall O__law_integer (hr.mono (by decide)) rfl g__law_integer F__law_integer.kp b__law_integer (fun σ => L2N.passAt tk σ) (qa_cons (qvar (i := 0) rfl (.inr (.inl rfl))) (qa_cons qint qa_nil))))) qa_nil)))) (qone (qif (qtcmp (op_notIn2 (room65 hr)) does_notIn (qvar (i := 7) rfl (.inl rfl)) (qcompG (vs := [9, 10, 11]) rfl nd (qinmG (i := 3) rfl (.inl rfl)) (blkOk_by (own := [("left", 9), ("low", 10), ("kind", 11)]) (N := N__law_squares) (sc := defScope s__law_squares) (by decide +kernel)) (gok_t (gsok_cons (gok_n (by decide)) (gsok_cons (gok_n (by decide)) (gsok_cons (gok_n (by decide)) gsok_nil)))) rfl (fun _ _ _ _ _ B => (qgt rfl (qgscons (qgn (i := 9) nd rfl (.inl rfl) (by decide)) (qgscons (qgn (i := 10) nd rfl (.inl rfl) (by decide)) (qgscons (qgn (i := 11) nd rfl (.inl rfl) (by decide)) qgsnil))))) (fun _ _ _ _ _ => qtsnil) (fun _ _ _ _ _ => (qtup (qa_cons (qvar (i := 9) rfl (.inl rfl)) (qa_cons (qvar (i := 10) rfl (.inl rfl)) qa_nil)))))) (qone (qexpr (qmeth (i := 3) PySem.F.slot_list_append PySem.F.type_list_append mt_append does_append rfl (.inl rfl) (qa_cons (qtup (qa_cons (qix (qvar (i := 7) rfl (.inl rfl)) qint) (qa_cons (qix (qvar (i := 7) rfl (.inl rfl)) qint) (qa_cons (qcall O__law_draw (hr.mono (by decide)) rfl g__law_draw F__law_draw.kp b__law_draw (fun σ => L2N.passAt tk σ) (qa_cons (qvar (i := 0) rfl (.inr (.inl rfl))) (qa_cons (qvar (i := 1) rfl (.inl rfl)) qa_nil))) qa_nil)))) qa_nil)))) qnil))))) (qone (qret (qfnT call_tuple_of does_tuple rfl f_tuple boot_tuple (qa_cons (qvar (i := 3) rfl (.inl rfl)) qa_nil))))))
abbrev N__law_said : List Str := ["some", "number"]
theorem sc__law_said : FnScope N__law_said ["some"] (defScope s__law_said) := ⟨rfl, rfl, rfl, by decide +kernel, rfl, by decide +kernel, by decide +kernel⟩
theorem ok__law_said (X0 : K.In h) (G : h.Ns mainGlobals mg) (c : He.SaysD fa fn K) : ∃ fd, FunD K "_law_said" "_law_said" (defArgs s__law_said) (defBody s__law_said) (defScope s__law_said) [] [] (He.ga K "_law_said") fd ∧ FnOk P w K mg base (L2N.CX P w) 1 (He.ga K "_law_said") fd ["some"] (spF K 1 m__law_said) := by
  have f_str : mg "str" = none := He.free_ok X0 G (c.fact 67 rfl)
  obtain ⟨fd, F⟩ := c.def_ 48 (d := d__law_said) rfl
  refine ⟨fd, F, fn_ok (k := 0) F sc__law_said fun cdv A outer s H E hr B => ?_⟩
  have hp : PassesOwn (model P w) _ _ _ := passes_of (X := cxOf (L2N.CX P w) P w K mg base N__law_said "_law_said" (defScope s__law_said) (He.ga K "_law_said") cdv A outer s H E) (K := fun e s'' => L2N.CX P w outer H s E e s'') rfl
  have tk := L2N.takes_of (X := cxOf (L2N.CX P w) P w K mg base N__law_said "_law_said" (defScope s__law_said) (He.ga K "_law_said") cdv A outer s H E) (E := E) rfl rfl rfl rfl
  have nd := sc__law_said.nd
  exact (qone (qret (qjoin qstr (qcomp (vs := [1]) rfl nd (qiof (qvar (i := 0) rfl (.inl rfl))) (blkOk_by (own := [("number", 1)]) (N := N__law_said) (sc := defScope s__law_said) (by decide +kernel)) (gok_n (by decide)) rfl (fun _ _ _ _ _ B => (qgn (i := 1) nd rfl (.inl rfl) (by decide))) (fun _ _ _ _ _ => qtsnil) (fun _ _ _ _ _ => (qfnT call_str_int does_str rfl f_str boot_str (qa_cons (qvar (i := 1) rfl (.inl rfl)) qa_nil)))))))
abbrev N__law_said_parts : List Str := ["parts", "part"]
theorem sc__law_said_parts : FnScope N__law_said_parts ["parts"] (defScope s__law_said_parts) := ⟨rfl, rfl, rfl, by decide +kernel, rfl, by decide +kernel, by decide +kernel⟩
theorem ok__law_said_parts (X0 : K.In h) (G : h.Ns mainGlobals mg) (c : He.SaysD fa fn K) : ∃ fd, FunD K "_law_said_parts" "_law_said_parts" (defArgs s__law_said_parts) (defBody s__law_said_parts) (defScope s__law_said_parts) [] [] (He.ga K "_law_said_parts") fd ∧ FnOk P w K mg base (L2N.CX P w) 2 (He.ga K "_law_said_parts") fd ["parts"] (spF K 1 m__law_said_parts) := by
  obtain ⟨fd__law_said, F__law_said, O__law_said⟩ := ok__law_said (P := P) (w := w) (base := base) X0 G c
  have b__law_said : Binds K fd__law_said ["some"] [] := F__law_said.bindsN fun _ _ _ _ _ _ us hl => match us, hl with | [_], _ => rfl
  have g__law_said : mg "_law_said" = some (.ref (He.ga K "_law_said")) := He.glo_ok X0 G (c.fact 48 rfl)
  obtain ⟨fd, F⟩ := c.def_ 49 (d := d__law_said_parts) rfl
  refine ⟨fd, F, fn_ok (k := 1) F sc__law_said_parts fun cdv A outer s H E hr B => ?_⟩
  have hp : PassesOwn (model P w) _ _ _ := passes_of (X := cxOf (L2N.CX P w) P w K mg base N__law_said_parts "_law_said_parts" (defScope s__law_said_parts) (He.ga K "_law_said_parts") cdv A outer s H E) (K := fun e s'' => L2N.CX P w outer H s E e s'') rfl
  have tk := L2N.takes_of (X := cxOf (L2N.CX P w) P w K mg base N__law_said_parts "_law_said_parts" (defScope s__law_said_parts) (He.ga K "_law_said_parts") cdv A outer s H E) (E := E) rfl rfl rfl rfl
  have nd := sc__law_said_parts.nd
  exact (qone (qret (qjoin qstr (qcomp (vs := [1]) rfl nd (qiof (qvar (i := 0) rfl (.inl rfl))) (blkOk_by (own := [("part", 1)]) (N := N__law_said_parts) (sc := defScope s__law_said_parts) (by decide +kernel)) (gok_n (by decide)) rfl (fun _ _ _ _ _ B => (qgn (i := 1) nd rfl (.inl rfl) (by decide))) (fun _ _ _ _ _ => qtsnil) (fun _ _ _ _ _ => (qcall O__law_said (hr.mono (by decide)) rfl g__law_said F__law_said.kp b__law_said (fun σ => L2N.passAt takesN0 σ) (qa_cons (qvar (i := 1) rfl (.inl rfl)) qa_nil)))))))
abbrev N__law_said_book : List Str := ["book", "kind"]
theorem sc__law_said_book : FnScope N__law_said_book ["book"] (defScope s__law_said_book) := ⟨rfl, rfl, rfl, by decide +kernel, rfl, by decide +kernel, by decide +kernel⟩
theorem ok__law_said_book (X0 : K.In h) (G : h.Ns mainGlobals mg) (c : He.SaysD fa fn K) : ∃ fd, FunD K "_law_said_book" "_law_said_book" (defArgs s__law_said_book) (defBody s__law_said_book) (defScope s__law_said_book) [] [] (He.ga K "_law_said_book") fd ∧ FnOk P w K mg base (L2N.CX P w) 3 (He.ga K "_law_said_book") fd ["book"] (spF K 1 m__law_said_book) := by
  obtain ⟨fd__law_said_parts, F__law_said_parts, O__law_said_parts⟩ := ok__law_said_parts (P := P) (w := w) (base := base) X0 G c
  have b__law_said_parts : Binds K fd__law_said_parts ["parts"] [] := F__law_said_parts.bindsN fun _ _ _ _ _ _ us hl => match us, hl with | [_], _ => rfl
  have g__law_said_parts : mg "_law_said_parts" = some (.ref (He.ga K "_law_said_parts")) := He.glo_ok X0 G (c.fact 49 rfl)
  have f_str : mg "str" = none := He.free_ok X0 G (c.fact 67 rfl)
  obtain ⟨fd, F⟩ := c.def_ 50 (d := d__law_said_book) rfl
  refine ⟨fd, F, fn_ok (k := 2) F sc__law_said_book fun cdv A outer s H E hr B => ?_⟩
  have hp : PassesOwn (model P w) _ _ _ := passes_of (X := cxOf (L2N.CX P w) P w K mg base N__law_said_book "_law_said_book" (defScope s__law_said_book) (He.ga K "_law_said_book") cdv A outer s H E) (K := fun e s'' => L2N.CX P w outer H s E e s'') rfl
  have tk := L2N.takes_of (X := cxOf (L2N.CX P w) P w K mg base N__law_said_book "_law_said_book" (defScope s__law_said_book) (He.ga K "_law_said_book") cdv A outer s H E) (E := E) rfl rfl rfl rfl
  have nd := sc__law_said_book.nd
  exact (qone (qret (qjoin qstr (qop op_add4 does_add (qlst (qa_cons (qop op_add4 does_add qstr (qfnT call_str_int does_str rfl f_str boot_str (qa_cons (qix (qvar (i := 0) rfl (.inl rfl)) qint) qa_nil))) qa_nil)) (qcomp (vs := [1]) rfl nd (qiof (qix (qvar (i := 0) rfl (.inl rfl)) qint)) (blkOk_by (own := [("kind", 1)]) (N := N__law_said_book) (sc := defScope s__law_said_book) (by decide +kernel)) (gok_n (by decide)) rfl (fun _ _ _ _ _ B => (qgn (i := 1) nd rfl (.inl rfl) (by decide))) (fun _ _ _ _ _ => qtsnil) (fun _ _ _ _ _ => (qcall O__law_said_parts (hr.mono (by decide)) rfl g__law_said_parts F__law_said_parts.kp b__law_said_parts (fun σ => L2N.passAt takesN0 σ) (qa_cons (qvar (i := 1) rfl (.inl rfl)) qa_nil))))))))
abbrev N__law_said_field : List Str := ["field"]
theorem sc__law_said_field : FnScope N__law_said_field ["field"] (defScope s__law_said_field) := ⟨rfl, rfl, rfl, by decide +kernel, rfl, by decide +kernel, by decide +kernel⟩
theorem ok__law_said_field (X0 : K.In h) (G : h.Ns mainGlobals mg) (c : He.SaysD fa fn K) : ∃ fd, FunD K "_law_said_field" "_law_said_field" (defArgs s__law_said_field) (defBody s__law_said_field) (defScope s__law_said_field) [] [] (He.ga K "_law_said_field") fd ∧ FnOk P w K mg base (L2N.CX P w) 4 (He.ga K "_law_said_field") fd ["field"] (spF K 1 m__law_said_field) := by
  obtain ⟨fd__law_said_book, F__law_said_book, O__law_said_book⟩ := ok__law_said_book (P := P) (w := w) (base := base) X0 G c
  have b__law_said_book : Binds K fd__law_said_book ["book"] [] := F__law_said_book.bindsN fun _ _ _ _ _ _ us hl => match us, hl with | [_], _ => rfl
  have g__law_said_book : mg "_law_said_book" = some (.ref (He.ga K "_law_said_book")) := He.glo_ok X0 G (c.fact 50 rfl)
  obtain ⟨fd__law_said_parts, F__law_said_parts, O__law_said_parts⟩ := ok__law_said_parts (P := P) (w := w) (base := base) X0 G c
  have b__law_said_parts : Binds K fd__law_said_parts ["parts"] [] := F__law_said_parts.bindsN fun _ _ _ _ _ _ us hl => match us, hl with | [_], _ => rfl
  have g__law_said_parts : mg "_law_said_parts" = some (.ref (He.ga K "_law_said_parts")) := He.glo_ok X0 G (c.fact 49 rfl)
  obtain ⟨fd, F⟩ := c.def_ 51 (d := d__law_said_field) rfl
  refine ⟨fd, F, fn_ok (k := 3) F sc__law_said_field fun cdv A outer s H E hr B => ?_⟩
  have hp : PassesOwn (model P w) _ _ _ := passes_of (X := cxOf (L2N.CX P w) P w K mg base N__law_said_field "_law_said_field" (defScope s__law_said_field) (He.ga K "_law_said_field") cdv A outer s H E) (K := fun e s'' => L2N.CX P w outer H s E e s'') rfl
  have tk := L2N.takes_of (X := cxOf (L2N.CX P w) P w K mg base N__law_said_field "_law_said_field" (defScope s__law_said_field) (He.ga K "_law_said_field") cdv A outer s H E) (E := E) rfl rfl rfl rfl
  have nd := sc__law_said_field.nd
  exact (qone (qret (qop op_add4 does_add (qop op_add4 does_add (qop op_add4 does_add qstr (qcall O__law_said_parts (hr.mono (by decide)) rfl g__law_said_parts F__law_said_parts.kp b__law_said_parts (fun σ => L2N.passAt tk σ) (qa_cons (qix (qvar (i := 0) rfl (.inl rfl)) qint) qa_nil))) qstr) (qcall O__law_said_book (hr.mono (by decide)) rfl g__law_said_book F__law_said_book.kp b__law_said_book (fun σ => L2N.passAt tk σ) (qa_cons (qix (qvar (i := 0) rfl (.inl rfl)) qint) qa_nil)))))
abbrev N__law_door : List Str := ["well", "door", "digits", "most", "thing", "low", "found", "at", "turn", "behind", "many", "book", "first"]
theorem sc__law_door : FnScope N__law_door ["well", "door", "digits", "most"] (defScope s__law_door) := ⟨rfl, rfl, rfl, by decide +kernel, rfl, by decide +kernel, by decide +kernel⟩
theorem ok__law_door (X0 : K.In h) (G : h.Ns mainGlobals mg) (c : He.SaysD fa fn K) : ∃ fd, FunD K "_law_door" "_law_door" (defArgs s__law_door) (defBody s__law_door) (defScope s__law_door) [] [] (He.ga K "_law_door") fd ∧ FnOk P w K mg base (L2N.CX P w) 5 (He.ga K "_law_door") fd ["well", "door", "digits", "most"] (spF K 4 m__law_door) := by
  obtain ⟨fd__law_book, F__law_book, O__law_book⟩ := ok__law_book (P := P) (w := w) (base := base) X0 G c
  have b__law_book : Binds K fd__law_book ["well", "most"] [] := F__law_book.bindsN fun _ _ _ _ _ _ us hl => match us, hl with | [_, _], _ => rfl
  have g__law_book : mg "_law_book" = some (.ref (He.ga K "_law_book")) := He.glo_ok X0 G (c.fact 43 rfl)
  obtain ⟨fd__law_squares, F__law_squares, O__law_squares⟩ := ok__law_squares (P := P) (w := w) (base := base) X0 G c
  have b__law_squares : Binds K fd__law_squares ["well", "kinds", "many"] [] := F__law_squares.bindsN fun _ _ _ _ _ _ us hl => match us, hl with | [_, _, _], _ => rfl
  have g__law_squares : mg "_law_squares" = some (.ref (He.ga K "_law_squares")) := He.glo_ok X0 G (c.fact 46 rfl)
  obtain ⟨fd__law_said_field, F__law_said_field, O__law_said_field⟩ := ok__law_said_field (P := P) (w := w) (base := base) X0 G c
  have b__law_said_field : Binds K fd__law_said_field ["field"] [] := F__law_said_field.bindsN fun _ _ _ _ _ _ us hl => match us, hl with | [_], _ => rfl
  have g__law_said_field : mg "_law_said_field" = some (.ref (He.ga K "_law_said_field")) := He.glo_ok X0 G (c.fact 51 rfl)
  obtain ⟨fd__law_integer, F__law_integer, O__law_integer⟩ := ok__law_integer (P := P) (w := w) (base := base) X0 G c
  have b__law_integer : Binds K fd__law_integer ["well", "digits"] [] := F__law_integer.bindsN fun _ _ _ _ _ _ us hl => match us, hl with | [_, _], _ => rfl
  have g__law_integer : mg "_law_integer" = some (.ref (He.ga K "_law_integer")) := He.glo_ok X0 G (c.fact 44 rfl)
  obtain ⟨fd__law_said, F__law_said, O__law_said⟩ := ok__law_said (P := P) (w := w) (base := base) X0 G c
  have b__law_said : Binds K fd__law_said ["some"] [] := F__law_said.bindsN fun _ _ _ _ _ _ us hl => match us, hl with | [_], _ => rfl
  have g__law_said : mg "_law_said" = some (.ref (He.ga K "_law_said")) := He.glo_ok X0 G (c.fact 48 rfl)
  obtain ⟨fd__law_above, F__law_above, O__law_above⟩ := ok__law_above (P := P) (w := w) (base := base) X0 G c
  have b__law_above : Binds K fd__law_above ["well", "low", "digits"] [] := F__law_above.bindsN fun _ _ _ _ _ _ us hl => match us, hl with | [_, _, _], _ => rfl
  have g__law_above : mg "_law_above" = some (.ref (He.ga K "_law_above")) := He.glo_ok X0 G (c.fact 45 rfl)
  obtain ⟨fd__law_draw, F__law_draw, O__law_draw⟩ := ok__law_draw (P := P) (w := w) (base := base) X0 G c
  have b__law_draw : Binds K fd__law_draw ["well", "many"] [] := F__law_draw.bindsN fun _ _ _ _ _ _ us hl => match us, hl with | [_, _], _ => rfl
  have g__law_draw : mg "_law_draw" = some (.ref (He.ga K "_law_draw")) := He.glo_ok X0 G (c.fact 38 rfl)
  obtain ⟨fd__law_said_parts, F__law_said_parts, O__law_said_parts⟩ := ok__law_said_parts (P := P) (w := w) (base := base) X0 G c
  have b__law_said_parts : Binds K fd__law_said_parts ["parts"] [] := F__law_said_parts.bindsN fun _ _ _ _ _ _ us hl => match us, hl with | [_], _ => rfl
  have g__law_said_parts : mg "_law_said_parts" = some (.ref (He.ga K "_law_said_parts")) := He.glo_ok X0 G (c.fact 49 rfl)
  obtain ⟨fd__law_said_book, F__law_said_book, O__law_said_book⟩ := ok__law_said_book (P := P) (w := w) (base := base) X0 G c
  have b__law_said_book : Binds K fd__law_said_book ["book"] [] := F__law_said_book.bindsN fun _ _ _ _ _ _ us hl => match us, hl with | [_], _ => rfl
  have g__law_said_book : mg "_law_said_book" = some (.ref (He.ga K "_law_said_book")) := He.glo_ok X0 G (c.fact 50 rfl)
  have f_len : mg "len" = none := He.free_ok X0 G (c.fact 61 rfl)
  have f_range : mg "range" = none := He.free_ok X0 G (c.fact 65 rfl)
  have f_str : mg "str" = none := He.free_ok X0 G (c.fact 67 rfl)
  have f_tuple : mg "tuple" = none := He.free_ok X0 G (c.fact 68 rfl)
  obtain ⟨fd, F⟩ := c.def_ 47 (d := d__law_door) rfl
  refine ⟨fd, F, fn_ok (k := 4) F sc__law_door fun cdv A outer s H E hr B => ?_⟩
  have hp : PassesOwn (model P w) _ _ _ := passes_of (X := cxOf (L2N.CX P w) P w K mg base N__law_door "_law_door" (defScope s__law_door) (He.ga K "_law_door") cdv A outer s H E) (K := fun e s'' => L2N.CX P w outer H s E e s'') rfl
  have tk := L2N.takes_of (X := cxOf (L2N.CX P w) P w K mg base N__law_door "_law_door" (defScope s__law_door) (He.ga K "_law_door") cdv A outer s H E) (E := E) rfl rfl rfl rfl
  have nd := sc__law_door.nd
  exact (qcons (qif (qtcmp (op_eqD hr.units) does_eq (qvar (i := 1) rfl (.inl rfl)) qint) (qcons (qset (i := 4) nd rfl (.inl rfl) (qtup (qa_cons (qcall O__law_integer (hr.mono (by decide)) rfl g__law_integer F__law_integer.kp b__law_integer (fun σ => L2N.passAt tk σ) (qa_cons (qvar (i := 0) rfl (.inr (.inl rfl))) (qa_cons (qvar (i := 2) rfl (.inl rfl)) qa_nil))) (qa_cons (qcall O__law_integer (hr.mono (by decide)) rfl g__law_integer F__law_integer.kp b__law_integer (fun σ => L2N.passAt tk σ) (qa_cons (qvar (i := 0) rfl (.inr (.inl rfl))) (qa_cons (qvar (i := 2) rfl (.inl rfl)) qa_nil))) qa_nil)))) (qone (qret (qtup (qa_cons (qvar (i := 4) rfl (.inl rfl)) (qa_cons (qcall O__law_said (hr.mono (by decide)) rfl g__law_said F__law_said.kp b__law_said (fun σ => L2N.passAt tk σ) (qa_cons (qvar (i := 4) rfl (.inl rfl)) qa_nil)) qa_nil)))))) qnil) (qcons (qif (qtcmp (op_eqD hr.units) does_eq (qvar (i := 1) rfl (.inl rfl)) qint) (qcons (qset (i := 5) nd rfl (.inl rfl) (qtup (qa_cons (qcall O__law_integer (hr.mono (by decide)) rfl g__law_integer F__law_integer.kp b__law_integer (fun σ => L2N.passAt tk σ) (qa_cons (qvar (i := 0) rfl (.inr (.inl rfl))) (qa_cons (qop op_sub does_sub (qvar (i := 2) rfl (.inl rfl)) qint) qa_nil))) (qa_cons (qcall O__law_integer (hr.mono (by decide)) rfl g__law_integer F__law_integer.kp b__law_integer (fun σ => L2N.passAt tk σ) (qa_cons (qvar (i := 0) rfl (.inr (.inl rfl))) (qa_cons (qop op_sub does_sub (qvar (i := 2) rfl (.inl rfl)) qint) qa_nil))) qa_nil)))) (qcons (qset (i := 4) nd rfl (.inl rfl) (qop op_add4 does_add (qvar (i := 5) rfl (.inl rfl)) (qtup (qa_cons (qcall O__law_above (hr.mono (by decide)) rfl g__law_above F__law_above.kp b__law_above (fun σ => L2N.passAt tk σ) (qa_cons (qvar (i := 0) rfl (.inr (.inl rfl))) (qa_cons (qix (qvar (i := 5) rfl (.inl rfl)) qint) (qa_cons (qop op_sub does_sub (qvar (i := 2) rfl (.inl rfl)) qint) qa_nil)))) (qa_cons (qcall O__law_above (hr.mono (by decide)) rfl g__law_above F__law_above.kp b__law_above (fun σ => L2N.passAt tk σ) (qa_cons (qvar (i := 0) rfl (.inr (.inl rfl))) (qa_cons (qix (qvar (i := 5) rfl (.inl rfl)) qint) (qa_cons (qop op_sub does_sub (qvar (i := 2) rfl (.inl rfl)) qint) qa_nil)))) qa_nil))))) (qone (qret (qtup (qa_cons (qvar (i := 4) rfl (.inl rfl)) (qa_cons (qcall O__law_said (hr.mono (by decide)) rfl g__law_said F__law_said.kp b__law_said (fun σ => L2N.passAt tk σ) (qa_cons (qvar (i := 4) rfl (.inl rfl)) qa_nil)) qa_nil))))))) qnil) (qcons (qif (qtcmp (op_eqD hr.units) does_eq (qvar (i := 1) rfl (.inl rfl)) qint) (qcons (qpar2 (i := 6) (j := 7) rfl nd rfl rfl (by decide) rfl rfl (qa_cons (qlst qa_nil) (qa_cons (qcall O__law_integer (hr.mono (by decide)) rfl g__law_integer F__law_integer.kp b__law_integer (fun σ => L2N.passAt tk σ) (qa_cons (qvar (i := 0) rfl (.inr (.inl rfl))) (qa_cons (qix (qlst (qa_cons qint (qa_cons (qop op_sub does_sub (qvar (i := 2) rfl (.inl rfl)) qint) qa_nil))) (qcall O__law_draw (hr.mono (by decide)) rfl g__law_draw F__law_draw.kp b__law_draw (fun σ => L2N.passAt tk σ) (qa_cons (qvar (i := 0) rfl (.inr (.inl rfl))) (qa_cons qint qa_nil)))) qa_nil))) qa_nil)) (by rfl)) (qcons (qfor (ws := [8]) hp rfl (qir1 rfl f_range (qa_cons (qop op_add4 does_add qint (qcall O__law_draw (hr.mono (by decide)) rfl g__law_draw F__law_draw.kp b__law_draw (fun σ => L2N.passAt tk σ) (qa_cons (qvar (i := 0) rfl (.inr (.inl rfl))) (qa_cons (qix (qlst (qa_cons qint (qa_cons qint (qa_cons (qvar (i := 3) rfl (.inl rfl)) (qa_cons qint qa_nil))))) (qcall O__law_draw (hr.mono (by decide)) rfl g__law_draw F__law_draw.kp b__law_draw (fun σ => L2N.passAt tk σ) (qa_cons (qvar (i := 0) rfl (.inr (.inl rfl))) (qa_cons qint qa_nil)))) qa_nil)))) qa_nil)) (fun B => (qgn (i := 8) nd rfl (.inl rfl) (by decide))) (fun B => (qcons (qset (i := 9) nd rfl (.inl rfl) (qcall O__law_above (hr.mono (by decide)) rfl g__law_above F__law_above.kp b__law_above (fun σ => L2N.passAt tk σ) (qa_cons (qvar (i := 0) rfl (.inr (.inl rfl))) (qa_cons (qvar (i := 7) rfl (.inl rfl)) (qa_cons (qix (qlst (qa_cons qint (qa_cons qint (qa_cons (qop op_sub does_sub (qvar (i := 2) rfl (.inl rfl)) qint) qa_nil)))) (qcall O__law_draw (hr.mono (by decide)) rfl g__law_draw F__law_draw.kp b__law_draw (fun σ => L2N.passAt tk σ) (qa_cons (qvar (i := 0) rfl (.inr (.inl rfl))) (qa_cons qint qa_nil)))) qa_nil))))) (qcons (qexpr (qmeth (i := 6) PySem.F.slot_list_append PySem.F.type_list_append mt_append does_append rfl (.inl rfl) (qa_cons (qtup (qa_cons (qvar (i := 7) rfl (.inl rfl)) (qa_cons (qvar (i := 9) rfl (.inl rfl)) qa_nil))) qa_nil))) (qone (qset (i := 7) nd rfl (.inl rfl) (qcall O__law_above (hr.mono (by decide)) rfl g__law_above F__law_above.kp b__law_above (fun σ => L2N.passAt tk σ) (qa_cons (qvar (i := 0) rfl (.inr (.inl rfl))) (qa_cons (qvar (i := 9) rfl (.inl rfl)) (qa_cons (qix (qlst (qa_cons qint (qa_cons qint (qa_cons (qop op_sub does_sub (qvar (i := 2) rfl (.inl rfl)) qint) qa_nil)))) (qcall O__law_draw (hr.mono (by decide)) rfl g__law_draw F__law_draw.kp b__law_draw (fun σ => L2N.passAt tk σ) (qa_cons (qvar (i := 0) rfl (.inr (.inl rfl))) (qa_cons qint qa_nil)))) qa_nil)))))))))) (qcons (qset (i := 4) nd rfl (.inl rfl) (qfnT call_tuple_of does_tuple rfl f_tuple boot_tuple (qa_cons (qvar (i := 6) rfl (.inl rfl)) qa_nil))) (qone (qret (qtup (qa_cons (qvar (i := 4) rfl (.inl rfl)) (qa_cons (qjoin qstr (qcomp (vs := [12, 9]) rfl nd (qiof (qvar (i := 4) rfl (.inl rfl))) (blkOk_by (own := [("first", 12), ("behind", 9)]) (N := N__law_door) (sc := defScope s__law_door) (by decide +kernel)) (gok_t (gsok_cons (gok_n (by decide)) (gsok_cons (gok_n (by decide)) gsok_nil))) rfl (fun _ _ _ _ _ B => (qgt rfl (qgscons (qgn (i := 12) nd rfl (.inl rfl) (by decide)) (qgscons (qgn (i := 9) nd rfl (.inl rfl) (by decide)) qgsnil)))) (fun _ _ _ _ _ => qtsnil) (fun _ _ _ _ _ => (qop op_add4 does_add (qop op_add4 does_add (qfnT call_str_int does_str rfl f_str boot_str (qa_cons (qvar (i := 12) rfl (.inl rfl)) qa_nil)) qstr) (qfnT call_str_int does_str rfl f_str boot_str (qa_cons (qvar (i := 9) rfl (.inl rfl)) qa_nil)))))) qa_nil)))))))) qnil) (qcons (qif (qtcmp (op_eqD hr.units) does_eq (qvar (i := 1) rfl (.inl rfl)) qint) (qcons (qset (i := 10) nd rfl (.inl rfl) (qix (qlst (qa_cons qint (qa_cons qint qa_nil))) (qcall O__law_draw (hr.mono (by decide)) rfl g__law_draw F__law_draw.kp b__law_draw (fun σ => L2N.passAt tk σ) (qa_cons (qvar (i := 0) rfl (.inr (.inl rfl))) (qa_cons qint qa_nil))))) (qcons (qset (i := 4) nd rfl (.inl rfl) (qfnT call_tuple_of does_tuple rfl f_tuple boot_tuple (qa_cons (qcomp (vs := [8]) rfl nd (qir1 rfl f_range (qa_cons (qvar (i := 10) rfl (.inl rfl)) qa_nil)) (blkOk_by (own := [("turn", 8)]) (N := N__law_door) (sc := defScope s__law_door) (by decide +kernel)) (gok_n (by decide)) rfl (fun _ _ _ _ _ B => (qgn (i := 8) nd rfl (.inl rfl) (by decide))) (fun _ _ _ _ _ => qtsnil) (fun _ _ _ _ _ => (qtup (qa_cons (qcall O__law_draw (hr.mono (by decide)) rfl g__law_draw F__law_draw.kp b__law_draw (fun σ => L2N.passAt takesN0 σ) (qa_cons (qvar (i := 0) rfl (.inr (.inl rfl))) (qa_cons qint qa_nil))) (qa_cons (qcall O__law_draw (hr.mono (by decide)) rfl g__law_draw F__law_draw.kp b__law_draw (fun σ => L2N.passAt takesN0 σ) (qa_cons (qvar (i := 0) rfl (.inr (.inl rfl))) (qa_cons qint qa_nil))) (qa_cons (qcall O__law_draw (hr.mono (by decide)) rfl g__law_draw F__law_draw.kp b__law_draw (fun σ => L2N.passAt takesN0 σ) (qa_cons (qvar (i := 0) rfl (.inr (.inl rfl))) (qa_cons qint qa_nil))) qa_nil)))))) qa_nil))) (qone (qret (qtup (qa_cons (qvar (i := 4) rfl (.inl rfl)) (qa_cons (qcall O__law_said_parts (hr.mono (by decide)) rfl g__law_said_parts F__law_said_parts.kp b__law_said_parts (fun σ => L2N.passAt tk σ) (qa_cons (qvar (i := 4) rfl (.inl rfl)) qa_nil)) qa_nil))))))) qnil) (qcons (qset (i := 11) nd rfl (.inl rfl) (qcall O__law_book (hr.mono (by decide)) rfl g__law_book F__law_book.kp b__law_book (fun σ => L2N.passAt tk σ) (qa_cons (qvar (i := 0) rfl (.inr (.inl rfl))) (qa_cons (qix (qlst (qa_cons qint (qa_cons qint (qa_cons (qvar (i := 3) rfl (.inl rfl)) qa_nil)))) (qcall O__law_draw (hr.mono (by decide)) rfl g__law_draw F__law_draw.kp b__law_draw (fun σ => L2N.passAt tk σ) (qa_cons (qvar (i := 0) rfl (.inr (.inl rfl))) (qa_cons qint qa_nil)))) qa_nil)))) (qcons (qif (qtcmp (op_eqD hr.units) does_eq (qvar (i := 1) rfl (.inl rfl)) qint) (qone (qret (qtup (qa_cons (qvar (i := 11) rfl (.inl rfl)) (qa_cons (qcall O__law_said_book (hr.mono (by decide)) rfl g__law_said_book F__law_said_book.kp b__law_said_book (fun σ => L2N.passAt tk σ) (qa_cons (qvar (i := 11) rfl (.inl rfl)) qa_nil)) qa_nil))))) qnil) (qcons (qset (i := 4) nd rfl (.inl rfl) (qtup (qa_cons (qvar (i := 11) rfl (.inl rfl)) (qa_cons (qcall O__law_squares (hr.mono (by decide)) rfl g__law_squares F__law_squares.kp b__law_squares (fun σ => L2N.passAt tk σ) (qa_cons (qvar (i := 0) rfl (.inr (.inl rfl))) (qa_cons (qfnB call_len_seq does_len rfl f_len boot_len (qa_cons (qix (qvar (i := 11) rfl (.inl rfl)) qint) qa_nil)) (qa_cons (qix (qlst (qa_cons qint (qa_cons (qvar (i := 3) rfl (.inl rfl)) qa_nil))) (qcall O__law_draw (hr.mono (by decide)) rfl g__law_draw F__law_draw.kp b__law_draw (fun σ => L2N.passAt tk σ) (qa_cons (qvar (i := 0) rfl (.inr (.inl rfl))) (qa_cons qint qa_nil)))) qa_nil)))) qa_nil)))) (qone (qret (qtup (qa_cons (qvar (i := 4) rfl (.inl rfl)) (qa_cons (qcall O__law_said_field (hr.mono (by decide)) rfl g__law_said_field F__law_said_field.kp b__law_said_field (fun σ => L2N.passAt tk σ) (qa_cons (qvar (i := 4) rfl (.inl rfl)) qa_nil)) qa_nil))))))))))))
abbrev N__law_read : List Str := ["door", "said", "named"]
theorem sc__law_read : FnScope N__law_read ["door", "said", "named"] (defScope s__law_read) := ⟨rfl, rfl, rfl, by decide +kernel, rfl, by decide +kernel, by decide +kernel⟩
theorem ok__law_read (X0 : K.In h) (G : h.Ns mainGlobals mg) (c : He.SaysD fa fn K) : ∃ fd, FunD K "_law_read" "_law_read" (defArgs s__law_read) (defBody s__law_read) (defScope s__law_read) [] [] (He.ga K "_law_read") fd ∧ FnOk P w K mg base (L2N.CX P w) 9 (He.ga K "_law_read") fd ["door", "said", "named"] (spF K 3 m__law_read) := by
  obtain ⟨fd_read_field, F_read_field, O_read_field⟩ := ok_read_field (P := P) (w := w) (base := base) X0 G c
  have b_read_field : Binds K fd_read_field ["text"] [] := F_read_field.bindsN fun _ _ _ _ _ _ us hl => match us, hl with | [_], _ => rfl
  have g_read_field : mg "read_field" = some (.ref (He.ga K "read_field")) := He.glo_ok X0 G (c.fact 25 rfl)
  obtain ⟨fd_read_cell, F_read_cell, O_read_cell⟩ := ok_read_cell (P := P) (w := w) (base := base) X0 G c
  have b_read_cell : Binds K fd_read_cell ["text"] [] := F_read_cell.bindsN fun _ _ _ _ _ _ us hl => match us, hl with | [_], _ => rfl
  have g_read_cell : mg "read_cell" = some (.ref (He.ga K "read_cell")) := He.glo_ok X0 G (c.fact 18 rfl)
  obtain ⟨fd_read_box, F_read_box, O_read_box⟩ := ok_read_box (P := P) (w := w) (base := base) X0 G c
  have b_read_box : Binds K fd_read_box ["text"] [] := F_read_box.bindsN fun _ _ _ _ _ _ us hl => match us, hl with | [_], _ => rfl
  have g_read_box : mg "read_box" = some (.ref (He.ga K "read_box")) := He.glo_ok X0 G (c.fact 21 rfl)
  obtain ⟨fd_read_spans, F_read_spans, O_read_spans⟩ := ok_read_spans (P := P) (w := w) (base := base) X0 G c
  have b_read_spans : Binds K fd_read_spans ["text"] [] := F_read_spans.bindsN fun _ _ _ _ _ _ us hl => match us, hl with | [_], _ => rfl
  have g_read_spans : mg "read_spans" = some (.ref (He.ga K "read_spans")) := He.glo_ok X0 G (c.fact 23 rfl)
  obtain ⟨fd_read_make, F_read_make, O_read_make⟩ := ok_read_make (P := P) (w := w) (base := base) X0 G c
  have b_read_make : Binds K fd_read_make ["text"] [] := F_read_make.bindsN fun _ _ _ _ _ _ us hl => match us, hl with | [_], _ => rfl
  have g_read_make : mg "read_make" = some (.ref (He.ga K "read_make")) := He.glo_ok X0 G (c.fact 27 rfl)
  obtain ⟨fd_read_book, F_read_book, O_read_book⟩ := ok_read_book (P := P) (w := w) (base := base) X0 G c
  have b_read_book : Binds K fd_read_book ["text"] [] := F_read_book.bindsN fun _ _ _ _ _ _ us hl => match us, hl with | [_], _ => rfl
  have g_read_book : mg "read_book" = some (.ref (He.ga K "read_book")) := He.glo_ok X0 G (c.fact 12 rfl)
  obtain ⟨fd, F⟩ := c.def_ 52 (d := d__law_read) rfl
  refine ⟨fd, F, fn_ok (k := 8) F sc__law_read fun cdv A outer s H E hr B => ?_⟩
  have hp : PassesOwn (model P w) _ _ _ := passes_of (X := cxOf (L2N.CX P w) P w K mg base N__law_read "_law_read" (defScope s__law_read) (He.ga K "_law_read") cdv A outer s H E) (K := fun e s'' => L2N.CX P w outer H s E e s'') rfl
  have tk := L2N.takes_of (X := cxOf (L2N.CX P w) P w K mg base N__law_read "_law_read" (defScope s__law_read) (He.ga K "_law_read") cdv A outer s H E) (E := E) rfl rfl rfl rfl
  have nd := sc__law_read.nd
  exact (qcons (qif (qtcmp (op_eqD hr.units) does_eq (qvar (i := 0) rfl (.inl rfl)) qint) (qone (qret (qifx (qtval (qvar (i := 2) rfl (.inl rfl))) (qcallk (ks := ["text"]) (perm := [0]) O_read_cell (hr.mono (by decide)) rfl g_read_cell F_read_cell.kp (kwBinds_of (ks := ["text"]) F_read_cell fun _ _ _ _ _ _ ws hl => match ws, hl with | [_], _ => rfl) (fun σ => L2N.passAt tk σ) (qk_cons (qvar (i := 1) rfl (.inl rfl)) qk_nil)) (qcall O_read_cell (hr.mono (by decide)) rfl g_read_cell F_read_cell.kp b_read_cell (fun σ => L2N.passAt tk σ) (qa_cons (qvar (i := 1) rfl (.inl rfl)) qa_nil))))) qnil) (qcons (qif (qtcmp (op_eqD hr.units) does_eq (qvar (i := 0) rfl (.inl rfl)) qint) (qone (qret (qifx (qtval (qvar (i := 2) rfl (.inl rfl))) (qcallk (ks := ["text"]) (perm := [0]) O_read_box (hr.mono (by decide)) rfl g_read_box F_read_box.kp (kwBinds_of (ks := ["text"]) F_read_box fun _ _ _ _ _ _ ws hl => match ws, hl with | [_], _ => rfl) (fun σ => L2N.passAt tk σ) (qk_cons (qvar (i := 1) rfl (.inl rfl)) qk_nil)) (qcall O_read_box (hr.mono (by decide)) rfl g_read_box F_read_box.kp b_read_box (fun σ => L2N.passAt tk σ) (qa_cons (qvar (i := 1) rfl (.inl rfl)) qa_nil))))) qnil) (qcons (qif (qtcmp (op_eqD hr.units) does_eq (qvar (i := 0) rfl (.inl rfl)) qint) (qone (qret (qifx (qtval (qvar (i := 2) rfl (.inl rfl))) (qcallk (ks := ["text"]) (perm := [0]) O_read_spans (hr.mono (by decide)) rfl g_read_spans F_read_spans.kp (kwBinds_of (ks := ["text"]) F_read_spans fun _ _ _ _ _ _ ws hl => match ws, hl with | [_], _ => rfl) (fun σ => L2N.passAt tk σ) (qk_cons (qvar (i := 1) rfl (.inl rfl)) qk_nil)) (qcall O_read_spans (hr.mono (by decide)) rfl g_read_spans F_read_spans.kp b_read_spans (fun σ => L2N.passAt tk σ) (qa_cons (qvar (i := 1) rfl (.inl rfl)) qa_nil))))) qnil) (qcons (qif (qtcmp (op_eqD hr.units) does_eq (qvar (i := 0) rfl (.inl rfl)) qint) (qone (qret (qifx (qtval (qvar (i := 2) rfl (.inl rfl))) (qcallk (ks := ["text"]) (perm := [0]) O_read_make (hr.mono (by decide)) rfl g_read_make F_read_make.kp (kwBinds_of (ks := ["text"]) F_read_make fun _ _ _ _ _ _ ws hl => match ws, hl with | [_], _ => rfl) (fun σ => L2N.passAt tk σ) (qk_cons (qvar (i := 1) rfl (.inl rfl)) qk_nil)) (qcall O_read_make (hr.mono (by decide)) rfl g_read_make F_read_make.kp b_read_make (fun σ => L2N.passAt tk σ) (qa_cons (qvar (i := 1) rfl (.inl rfl)) qa_nil))))) qnil) (qcons (qif (qtcmp (op_eqD hr.units) does_eq (qvar (i := 0) rfl (.inl rfl)) qint) (qone (qret (qifx (qtval (qvar (i := 2) rfl (.inl rfl))) (qcallk (ks := ["text"]) (perm := [0]) O_read_book (hr.mono (by decide)) rfl g_read_book F_read_book.kp (kwBinds_of (ks := ["text"]) F_read_book fun _ _ _ _ _ _ ws hl => match ws, hl with | [_], _ => rfl) (fun σ => L2N.passAt tk σ) (qk_cons (qvar (i := 1) rfl (.inl rfl)) qk_nil)) (qcall O_read_book (hr.mono (by decide)) rfl g_read_book F_read_book.kp b_read_book (fun σ => L2N.passAt tk σ) (qa_cons (qvar (i := 1) rfl (.inl rfl)) qa_nil))))) qnil) (qone (qret (qifx (qtval (qvar (i := 2) rfl (.inl rfl))) (qcallk (ks := ["text"]) (perm := [0]) O_read_field (hr.mono (by decide)) rfl g_read_field F_read_field.kp (kwBinds_of (ks := ["text"]) F_read_field fun _ _ _ _ _ _ ws hl => match ws, hl with | [_], _ => rfl) (fun σ => L2N.passAt tk σ) (qk_cons (qvar (i := 1) rfl (.inl rfl)) qk_nil)) (qcall O_read_field (hr.mono (by decide)) rfl g_read_field F_read_field.kp b_read_field (fun σ => L2N.passAt tk σ) (qa_cons (qvar (i := 1) rfl (.inl rfl)) qa_nil))))))))))
abbrev N__law_shown : List Str := ["door", "thing"]
theorem sc__law_shown : FnScope N__law_shown ["door", "thing"] (defScope s__law_shown) := ⟨rfl, rfl, rfl, by decide +kernel, rfl, by decide +kernel, by decide +kernel⟩
theorem ok__law_shown (X0 : K.In h) (G : h.Ns mainGlobals mg) (c : He.SaysD fa fn K) : ∃ fd, FunD K "_law_shown" "_law_shown" (defArgs s__law_shown) (defBody s__law_shown) (defScope s__law_shown) [] [] (He.ga K "_law_shown") fd ∧ FnOk P w K mg base (L2N.CX P w) 5 (He.ga K "_law_shown") fd ["door", "thing"] (spF K 2 m__law_shown) := by
  obtain ⟨fd_show_cell, F_show_cell, O_show_cell⟩ := ok_show_cell (P := P) (w := w) (base := base) X0 G c
  have b_show_cell : Binds K fd_show_cell ["cell"] [] := F_show_cell.bindsN fun _ _ _ _ _ _ us hl => match us, hl with | [_], _ => rfl
  have g_show_cell : mg "show_cell" = some (.ref (He.ga K "show_cell")) := He.glo_ok X0 G (c.fact 32 rfl)
  obtain ⟨fd_show_box, F_show_box, O_show_box⟩ := ok_show_box (P := P) (w := w) (base := base) X0 G c
  have b_show_box : Binds K fd_show_box ["box"] [] := F_show_box.bindsN fun _ _ _ _ _ _ us hl => match us, hl with | [_], _ => rfl
  have g_show_box : mg "show_box" = some (.ref (He.ga K "show_box")) := He.glo_ok X0 G (c.fact 33 rfl)
  obtain ⟨fd_show_spans, F_show_spans, O_show_spans⟩ := ok_show_spans (P := P) (w := w) (base := base) X0 G c
  have b_show_spans : Binds K fd_show_spans ["spans"] [] := F_show_spans.bindsN fun _ _ _ _ _ _ us hl => match us, hl with | [_], _ => rfl
  have g_show_spans : mg "show_spans" = some (.ref (He.ga K "show_spans")) := He.glo_ok X0 G (c.fact 34 rfl)
  obtain ⟨fd_show_make, F_show_make, O_show_make⟩ := ok_show_make (P := P) (w := w) (base := base) X0 G c
  have b_show_make : Binds K fd_show_make ["make"] [] := F_show_make.bindsN fun _ _ _ _ _ _ us hl => match us, hl with | [_], _ => rfl
  have g_show_make : mg "show_make" = some (.ref (He.ga K "show_make")) := He.glo_ok X0 G (c.fact 36 rfl)
  obtain ⟨fd_show_book, F_show_book, O_show_book⟩ := ok_show_book (P := P) (w := w) (base := base) X0 G c
  have b_show_book : Binds K fd_show_book ["book"] [] := F_show_book.bindsN fun _ _ _ _ _ _ us hl => match us, hl with | [_], _ => rfl
  have g_show_book : mg "show_book" = some (.ref (He.ga K "show_book")) := He.glo_ok X0 G (c.fact 29 rfl)
  obtain ⟨fd_show_field, F_show_field, O_show_field⟩ := ok_show_field (P := P) (w := w) (base := base) X0 G c
  have b_show_field : Binds K fd_show_field ["field"] [] := F_show_field.bindsN fun _ _ _ _ _ _ us hl => match us, hl with | [_], _ => rfl
  have g_show_field : mg "show_field" = some (.ref (He.ga K "show_field")) := He.glo_ok X0 G (c.fact 35 rfl)
  obtain ⟨fd, F⟩ := c.def_ 53 (d := d__law_shown) rfl
  refine ⟨fd, F, fn_ok (k := 4) F sc__law_shown fun cdv A outer s H E hr B => ?_⟩
  have hp : PassesOwn (model P w) _ _ _ := passes_of (X := cxOf (L2N.CX P w) P w K mg base N__law_shown "_law_shown" (defScope s__law_shown) (He.ga K "_law_shown") cdv A outer s H E) (K := fun e s'' => L2N.CX P w outer H s E e s'') rfl
  have tk := L2N.takes_of (X := cxOf (L2N.CX P w) P w K mg base N__law_shown "_law_shown" (defScope s__law_shown) (He.ga K "_law_shown") cdv A outer s H E) (E := E) rfl rfl rfl rfl
  have nd := sc__law_shown.nd
  exact (qcons (qif (qtcmp (op_eqD hr.units) does_eq (qvar (i := 0) rfl (.inl rfl)) qint) (qone (qret (qcall O_show_cell (hr.mono (by decide)) rfl g_show_cell F_show_cell.kp b_show_cell (fun σ => L2N.passAt tk σ) (qa_cons (qvar (i := 1) rfl (.inl rfl)) qa_nil)))) qnil) (qcons (qif (qtcmp (op_eqD hr.units) does_eq (qvar (i := 0) rfl (.inl rfl)) qint) (qone (qret (qcall O_show_box (hr.mono (by decide)) rfl g_show_box F_show_box.kp b_show_box (fun σ => L2N.passAt tk σ) (qa_cons (qvar (i := 1) rfl (.inl rfl)) qa_nil)))) qnil) (qcons (qif (qtcmp (op_eqD hr.units) does_eq (qvar (i := 0) rfl (.inl rfl)) qint) (qone (qret (qcall O_show_spans (hr.mono (by decide)) rfl g_show_spans F_show_spans.kp b_show_spans (fun σ => L2N.passAt tk σ) (qa_cons (qvar (i := 1) rfl (.inl rfl)) qa_nil)))) qnil) (qcons (qif (qtcmp (op_eqD hr.units) does_eq (qvar (i := 0) rfl (.inl rfl)) qint) (qone (qret (qcall O_show_make (hr.mono (by decide)) rfl g_show_make F_show_make.kp b_show_make (fun σ => L2N.passAt tk σ) (qa_cons (qvar (i := 1) rfl (.inl rfl)) qa_nil)))) qnil) (qone (qret (qifx (qtcmp (op_eqD hr.units) does_eq (qvar (i := 0) rfl (.inl rfl)) qint) (qcall O_show_book (hr.mono (by decide)) rfl g_show_book F_show_book.kp b_show_book (fun σ => L2N.passAt tk σ) (qa_cons (qvar (i := 1) rfl (.inl rfl)) qa_nil)) (qcall O_show_field (hr.mono (by decide)) rfl g_show_field F_show_field.kp b_show_field (fun σ => L2N.passAt tk σ) (qa_cons (qvar (i := 1) rfl (.inl rfl)) qa_nil)))))))))
abbrev N_law : List Str := ["script", "rows", "place", "well", "door", "thing", "said", "told"]
theorem sc_law : FnScope N_law ["script"] (defScope s_law) := ⟨rfl, rfl, rfl, by decide +kernel, rfl, by decide +kernel, by decide +kernel⟩
theorem ok_law (X0 : K.In h) (G : h.Ns mainGlobals mg) (c : He.SaysD fa fn K) : ∃ fd, FunD K "law" "law" (defArgs s_law) (defBody s_law) (defScope s_law) [] [] (He.ga K "law") fd ∧ FnOk P w K mg base (L2N.CX P w) 10 (He.ga K "law") fd ["script"] (spF K 1 m_law) := by
  obtain ⟨fd__law_well, F__law_well, O__law_well⟩ := ok__law_well (P := P) (w := w) (base := base) X0 G c
  have b__law_well : Binds K fd__law_well ["script", "place"] [] := F__law_well.bindsN fun _ _ _ _ _ _ us hl => match us, hl with | [_, _], _ => rfl
  have g__law_well : mg "_law_well" = some (.ref (He.ga K "_law_well")) := He.glo_ok X0 G (c.fact 37 rfl)
  obtain ⟨fd__law_door, F__law_door, O__law_door⟩ := ok__law_door (P := P) (w := w) (base := base) X0 G c
  have b__law_door : Binds K fd__law_door ["well", "door", "digits", "most"] [] := F__law_door.bindsN fun _ _ _ _ _ _ us hl => match us, hl with | [_, _, _, _], _ => rfl
  have g__law_door : mg "_law_door" = some (.ref (He.ga K "_law_door")) := He.glo_ok X0 G (c.fact 47 rfl)
  obtain ⟨fd__law_read, F__law_read, O__law_read⟩ := ok__law_read (P := P) (w := w) (base := base) X0 G c
  have b__law_read : Binds K fd__law_read ["door", "said", "named"] [] := F__law_read.bindsN fun _ _ _ _ _ _ us hl => match us, hl with | [_, _, _], _ => rfl
  have g__law_read : mg "_law_read" = some (.ref (He.ga K "_law_read")) := He.glo_ok X0 G (c.fact 52 rfl)
  obtain ⟨fd__law_same, F__law_same, O__law_same⟩ := ok__law_same (P := P) (w := w) (base := base) X0 G c 8
  have b__law_same : Binds K fd__law_same ["told", "due"] [] := F__law_same.bindsN fun _ _ _ _ _ _ us hl => match us, hl with | [_, _], _ => rfl
  have g__law_same : mg "_law_same" = some (.ref (He.ga K "_law_same")) := He.glo_ok X0 G (c.fact 39 rfl)
  obtain ⟨fd__law_draw, F__law_draw, O__law_draw⟩ := ok__law_draw (P := P) (w := w) (base := base) X0 G c
  have b__law_draw : Binds K fd__law_draw ["well", "many"] [] := F__law_draw.bindsN fun _ _ _ _ _ _ us hl => match us, hl with | [_, _], _ => rfl
  have g__law_draw : mg "_law_draw" = some (.ref (He.ga K "_law_draw")) := He.glo_ok X0 G (c.fact 38 rfl)
  obtain ⟨fd__law_shown, F__law_shown, O__law_shown⟩ := ok__law_shown (P := P) (w := w) (base := base) X0 G c
  have b__law_shown : Binds K fd__law_shown ["door", "thing"] [] := F__law_shown.bindsN fun _ _ _ _ _ _ us hl => match us, hl with | [_, _], _ => rfl
  have g__law_shown : mg "_law_shown" = some (.ref (He.ga K "_law_shown")) := He.glo_ok X0 G (c.fact 53 rfl)
  have f_len : mg "len" = none := He.free_ok X0 G (c.fact 61 rfl)
  have f_max : mg "max" = none := He.free_ok X0 G (c.fact 63 rfl)
  have f_min : mg "min" = none := He.free_ok X0 G (c.fact 64 rfl)
  have f_range : mg "range" = none := He.free_ok X0 G (c.fact 65 rfl)
  obtain ⟨fd, F⟩ := c.def_ 54 (d := d_law) rfl
  refine ⟨fd, F, fn_ok (k := 9) F sc_law fun cdv A outer s H E hr B => ?_⟩
  have hp : PassesOwn (model P w) _ _ _ := passes_of (X := cxOf (L2N.CX P w) P w K mg base N_law "law" (defScope s_law) (He.ga K "law") cdv A outer s H E) (K := fun e s'' => L2N.CX P w outer H s E e s'') rfl
  have tk := L2N.takes_of (X := cxOf (L2N.CX P w) P w K mg base N_law "law" (defScope s_law) (He.ga K "law") cdv A outer s H E) (E := E) rfl rfl rfl rfl
  have nd := sc_law.nd
  exact (qcons (qset (i := 1) nd rfl (.inl rfl) (qlst qa_nil)) (qcons (qfor (ws := [2]) hp rfl (qir1 rfl f_range (qa_cons (qfnB (call_max2 rfl) does_max2 rfl f_max boot_max (qa_cons qint (qa_cons (qfnB (call_min2 rfl) does_min2 rfl f_min boot_min (qa_cons qint (qa_cons (qfnB call_len_seq does_len rfl f_len boot_len (qa_cons (qvar (i := 0) rfl (.inl rfl)) qa_nil)) qa_nil))) qa_nil))) qa_nil)) (fun B => (qgn (i := 2) nd rfl (.inl rfl) (by decide))) (fun B => (qcons (qset (i := 3) nd rfl (.inl rfl) (qcall O__law_well (hr.mono (by decide)) rfl g__law_well F__law_well.kp b__law_well (fun σ => L2N.passAt tk σ) (qa_cons (qvar (i := 0) rfl (.inl rfl)) (qa_cons (qvar (i := 2) rfl (.inl rfl)) qa_nil)))) (qone (qfor (ws := [4]) hp rfl (qir1 rfl f_range (qa_cons qint qa_nil)) (fun B => (qgn (i := 4) nd rfl (.inl rfl) (by decide))) (fun B => (qcons (qasg (ws := [5, 6]) (qcall O__law_door (hr.mono (by decide)) rfl g__law_door F__law_door.kp b__law_door (fun σ => L2N.passAt tk σ) (qa_cons (qvar (i := 3) rfl (.inl rfl)) (qa_cons (qvar (i := 4) rfl (.inl rfl)) (qa_cons qint (qa_cons qint qa_nil))))) (qgt rfl (qgscons (qgn (i := 5) nd rfl (.inl rfl) (by decide)) (qgscons (qgn (i := 6) nd rfl (.inl rfl) (by decide)) qgsnil)))) (qcons (qset (i := 7) nd rfl (.inl rfl) (qcall O__law_read (hr.mono (by decide)) rfl g__law_read F__law_read.kp b__law_read (fun σ => L2N.passAt tk σ) (qa_cons (qvar (i := 4) rfl (.inl rfl)) (qa_cons (qvar (i := 6) rfl (.inl rfl)) (qa_cons (qcmp (op_eqD hr.units) does_eq (qcall O__law_draw (hr.mono (by decide)) rfl g__law_draw F__law_draw.kp b__law_draw (fun σ => L2N.passAt tk σ) (qa_cons (qvar (i := 3) rfl (.inl rfl)) (qa_cons qint qa_nil))) qint) qa_nil))))) (qcons (qif (QW.t (qw_or (qtnot (qtval (qcall O__law_same (hr.mono (by decide)) rfl g__law_same F__law_same.kp b__law_same (fun σ => L2N.passAt tk σ) (qa_cons (qvar (i := 7) rfl (.inl rfl)) (qa_cons (qvar (i := 5) rfl (.inl rfl)) qa_nil))))) (qw_or1 (qtnot (qtval (qcall O__law_same (hr.mono (by decide)) rfl g__law_same F__law_same.kp b__law_same (fun σ => L2N.passAt tk σ) (qa_cons (qcall O__law_shown (hr.mono (by decide)) rfl g__law_shown F__law_shown.kp b__law_shown (fun σ => L2N.passAt tk σ) (qa_cons (qvar (i := 4) rfl (.inl rfl)) (qa_cons (qvar (i := 7) rfl (.inl rfl)) qa_nil))) (qa_cons (qvar (i := 6) rfl (.inl rfl)) qa_nil)))))))) (qone (qret qbl)) qnil) (qone (qexpr (qmeth (i := 1) PySem.F.slot_list_append PySem.F.type_list_append mt_append does_append rfl (.inl rfl) (qa_cons (qtup (qa_cons (qvar (i := 4) rfl (.inl rfl)) (qa_cons (qvar (i := 5) rfl (.inl rfl)) (qa_cons (qvar (i := 6) rfl (.inl rfl)) qa_nil)))) qa_nil))))))))))))) (qcons (qfor (ws := [4, 5, 6]) hp rfl (qiof (qrev (qvar (i := 1) rfl (.inl rfl)))) (fun B => (qgt rfl (qgscons (qgn (i := 4) nd rfl (.inl rfl) (by decide)) (qgscons (qgn (i := 5) nd rfl (.inl rfl) (by decide)) (qgscons (qgn (i := 6) nd rfl (.inl rfl) (by decide)) qgsnil))))) (fun B => (qone (qif (qtnot (qtval (qcall O__law_same (hr.mono (by decide)) rfl g__law_same F__law_same.kp b__law_same (fun σ => L2N.passAt tk σ) (qa_cons (qcall O__law_read (hr.mono (by decide)) rfl g__law_read F__law_read.kp b__law_read (fun σ => L2N.passAt tk σ) (qa_cons (qvar (i := 4) rfl (.inl rfl)) (qa_cons (qvar (i := 6) rfl (.inl rfl)) (qa_cons (qcmp op_lt does_lt (qfnB call_len_str does_lenS rfl f_len boot_len (qa_cons (qvar (i := 6) rfl (.inl rfl)) qa_nil)) qint) qa_nil)))) (qa_cons (qvar (i := 5) rfl (.inl rfl)) qa_nil))))) (qone (qret qbl)) qnil)))) (qone (qret qbl)))))
end
end Lw
set_option linter.all false
set_option maxRecDepth 100000
namespace Pu
open PySem PySem.Spec Ev
inductive F2 {α β : Type} (P : α → β → Prop) : List α → List β → Prop
  | nil : F2 P [] []
  | cons {a b as bs} : P a b → F2 P as bs → F2 P (a :: as) (b :: bs)
theorem F2.len {α β : Type} {P : α → β → Prop} : ∀ {as : List α} {bs : List β}, F2 P as bs → as.length = bs.length
  | _, _, .nil => rfl
  | _, _, .cons _ h => by rw [List.length_cons, List.length_cons, h.len]
theorem F2.get {α β : Type} {P : α → β → Prop} : ∀ {as : List α} {bs : List β} {i : Nat} {a : α} {b : β}, F2 P as bs → as[i]? = some a → bs[i]? = some b → P a b
  | _, _, i, a, b, .nil, h, _ => by simp at h
  | _, _, 0, a, b, .cons p _, h, h' => by simp at h h'; rw [← h, ← h']; exact p
  | _, _, i + 1, a, b, .cons _ q, h, h' => q.get (by simpa using h) (by simpa using h')
theorem F2.right {α β : Type} {P : α → β → Prop} : ∀ {as : List α} {bs : List β}, F2 P as bs → ∀ b ∈ bs, ∃ a ∈ as, P a b
  | _, _, .nil, b, h => by simp at h
  | _, _, .cons p q, b, h => by
    rcases List.mem_cons.mp h with rfl | h
    · exact ⟨_, List.mem_cons_self, p⟩
    · obtain ⟨a, m, z⟩ := q.right b h; exact ⟨a, List.mem_cons_of_mem _ m, z⟩
/-! ### pure: what loops and comprehensions do -/
/-- a comprehension: each element is wanted -/
theorem comp_inv {g : SemG} {c : SemT} {m : SemE} {vs : List Nat} (I : En → Prop) (P : T → T → Prop) : ∀ (ts acc : List T) (e : En), I e → acc.length + ts.length ≤ sizeLine →
    (∀ t ∈ ts, ∀ e, I e → ∃ e1, g t (wipeE e vs) = some e1 ∧ ∃ e2, c e1 = .ok true e2 ∧ ∃ r e3, m e2 = .ok r e3 ∧ ∃ u e4, esc r e3 = some (u, e4) ∧ P t u ∧ I (restE e e4 vs)) →
    ∃ us e', compS g c m vs ts acc e = .ok (.b (.l (acc ++ us))) e' ∧ I e' ∧ F2 P ts us
  | [], acc, e, h, _, _ => ⟨[], e, by rw [compS, List.append_nil], h, .nil⟩
  | t :: ts, acc, e, h, hl, s => by
    obtain ⟨e1, h1, e2, h2, r, e3, h3, u, e4, h4, p, i⟩ := s t List.mem_cons_self e h
    rw [List.length_cons] at hl
    obtain ⟨us, e', h5, h6, h7⟩ := comp_inv (g := g) (c := c) (m := m) (vs := vs) I P ts (acc ++ [u]) (restE e e4 vs) i (by rw [List.length_append, List.length_singleton]; omega) fun t ht => s t (List.mem_cons_of_mem _ ht)
    refine ⟨u :: us, e', ?_, h6, .cons p h7⟩
    rw [compS, h1]
    simp only [h2, h3, h4, Out.nx, Out.bind]
    rw [if_pos trivial, if_pos (by omega), h5, List.append_assoc]
    rfl
/-- a comprehension of a function -/
theorem comp_map {g : SemG} {c : SemT} {m : SemE} {vs : List Nat} (f : T → T) (ts acc : List T) (e : En) (hl : acc.length + ts.length ≤ sizeLine)
    (s : ∀ t ∈ ts, ∃ e1, g t (wipeE e vs) = some e1 ∧ ∃ e2, c e1 = .ok true e2 ∧ ∃ r e3, m e2 = .ok r e3 ∧ ∃ e4, esc r e3 = some (f t, e4) ∧ restE e e4 vs = e) :
    compS g c m vs ts acc e = .ok (.b (.l (acc ++ ts.map f))) e := by
  obtain ⟨us, e', h1, rfl, h3⟩ := comp_inv (g := g) (c := c) (m := m) (vs := vs) (fun x => x = e) (fun t u => u = f t) ts acc e rfl hl fun t ht e' h => by
    subst h
    obtain ⟨e1, h1, e2, h2, r, e3, h3, e4, h4, h5⟩ := s t ht
    exact ⟨e1, h1, e2, h2, r, e3, h3, _, e4, h4, rfl, h5⟩
  have : us = ts.map f := by
    clear h1 s hl
    induction h3 with
    | nil => rfl
    | cons h _ ih => rw [h, ih]; rfl
  rw [h1, this]
/-! ### ranges -/
/-! ### numerals -/
theorem c0 : ((0 : Nat) : Int) = 0 := rfl
theorem c1 : ((1 : Nat) : Int) = 1 := rfl
theorem c2 : ((2 : Nat) : Int) = 2 := rfl
theorem c3 : ((3 : Nat) : Int) = 3 := rfl
theorem c4 : ((4 : Nat) : Int) = 4 := rfl
theorem c5 : ((5 : Nat) : Int) = 5 := rfl
theorem c6 : ((6 : Nat) : Int) = 6 := rfl
theorem c7 : ((7 : Nat) : Int) = 7 := rfl
theorem c8 : ((8 : Nat) : Int) = 8 := rfl
theorem c9 : ((9 : Nat) : Int) = 9 := rfl
theorem s1 : (1 ≤ sizeLine) = True := eq_true (by unfold sizeLine; omega)
theorem s2 : (2 ≤ sizeLine) = True := eq_true (by unfold sizeLine; omega)
theorem s3 : (3 ≤ sizeLine) = True := eq_true (by unfold sizeLine; omega)
theorem s4 : (4 ≤ sizeLine) = True := eq_true (by unfold sizeLine; omega)
theorem s5 : (5 ≤ sizeLine) = True := eq_true (by unfold sizeLine; omega)
theorem s6 : (6 ≤ sizeLine) = True := eq_true (by unfold sizeLine; omega)
theorem s7 : (7 ≤ sizeLine) = True := eq_true (by unfold sizeLine; omega)
theorem s8 : (8 ≤ sizeLine) = True := eq_true (by unfold sizeLine; omega)
theorem s9 : (9 ≤ sizeLine) = True := eq_true (by unfold sizeLine; omega)
/-! ### equality -/
theorem gEq_int (k : Bool → Bool) (i j : Int) : gEq k (.int i) (.int j) = some (.r (.bool (k (decide (i = j))))) := rfl
def lentS : Sl → Bool
  | .ow true _ => true
  | .fz _ => true
  | _ => false
theorem lentS_v (t : T) : lentS (.v t) = false := rfl
theorem lentS_un : lentS .un = false := rfl
theorem lentS_f (b : Bx) : lentS (.ow false b) = false := rfl
theorem lentS_t (b : Bx) : lentS (.ow true b) = true := rfl
theorem lentS_z (b : Bx) : lentS (.fz b) = true := rfl
def lentO : Option Sl → Bool
  | some s => lentS s
  | none => false
theorem isLent_eq (e : En) (i : Nat) : isLent e i = lentO e[i]? := by
  unfold isLent
  cases e[i]? with
  | none => rfl
  | some s => cases s with
    | ow l b => cases l <;> rfl
    | _ => rfl
theorem gAll_bools (bs : List Bool) : gAll [.list (bs.map .bool)] = some (.r (.bool (bs.all id))) := by
  have : bools (bs.map .bool) = some bs := by
    induction bs with
    | nil => rfl
    | cons b bs ih => rw [List.map_cons, bools, ih]; try rfl
  show Option.map _ (bools _) = _
  rw [this]
  rfl
end Pu

set_option Elab.async false
set_option linter.all false
set_option maxRecDepth 100000
namespace Wp
open PySem PySem.Spec Ev Pu
/-! ### what a run yields, and what is wanted of it -/
def W {α : Type} (o : Out α) (Q : α → En → Prop) : Prop := ∃ a e, o = .ok a e ∧ Q a e
theorem w_of {α : Type} {o : Out α} {a : α} {e : En} {Q : α → En → Prop} (h : o = .ok a e) (q : Q a e) : W o Q := ⟨a, e, h, q⟩
theorem w_imp {α : Type} {o : Out α} {P Q : α → En → Prop} (h : W o P) (q : ∀ a e, P a e → Q a e) : W o Q := by
  obtain ⟨a, e, h, p⟩ := h
  exact ⟨a, e, h, q a e p⟩
theorem w_bind {α β : Type} {o : Out α} {f : α → En → Out β} {Q : β → En → Prop} (h : W o fun a e => W (f a e) Q) : W (o.bind f) Q := by
  obtain ⟨a, e, h, b, e2, h2, q⟩ := h
  exact ⟨b, e2, by rw [h]; exact h2, q⟩
/-! ### statements -/
def KSeq (b : SemS) (Q : Fl → En → Prop) : Fl → En → Prop := fun fl e => match fl with
  | .nx => W (b e) Q
  | fl => Q fl e
theorem kseq_nx {b : SemS} {Q : Fl → En → Prop} {e : En} (h : W (b e) Q) : KSeq b Q .nx e := h
theorem kseq_rt {b : SemS} {Q : Fl → En → Prop} {e : En} {r : Od} (h : Q (.rt r) e) : KSeq b Q (.rt r) e := h
theorem kseq_bk {b : SemS} {Q : Fl → En → Prop} {e : En} (h : Q .bk e) : KSeq b Q .bk e := h
theorem kseq_ct {b : SemS} {Q : Fl → En → Prop} {e : En} (h : Q .ct e) : KSeq b Q .ct e := h
theorem w_seq {a b : SemS} {Q : Fl → En → Prop} {e : En} (h : W (a e) (KSeq b Q)) : W (sSeq a b e) Q := by
  obtain ⟨fl, e1, h, k⟩ := h
  unfold sSeq
  rw [h]
  cases fl with
  | nx => exact k
  | rt r => exact ⟨_, _, rfl, k⟩
  | bk => exact ⟨_, _, rfl, k⟩
  | ct => exact ⟨_, _, rfl, k⟩
theorem w_nil {Q : Fl → En → Prop} {e : En} (h : Q .nx e) : W (sNil e) Q := ⟨_, _, rfl, h⟩
theorem w_brk {Q : Fl → En → Prop} {e : En} (h : Q .bk e) : W (sBrk e) Q := ⟨_, _, rfl, h⟩
theorem w_cnt {Q : Fl → En → Prop} {e : En} (h : Q .ct e) : W (sCnt e) Q := ⟨_, _, rfl, h⟩
theorem w_drop {m : SemE} {Q : Fl → En → Prop} {e : En} (h : W (m e) fun _ e1 => Q .nx e1) : W (sDrop m e) Q :=
  w_bind (w_imp h fun _ _ q => ⟨_, _, rfl, q⟩)
def KIf (m1 m2 : SemS) (Q : Fl → En → Prop) : Bool → En → Prop := fun k e => (k = true → W (m1 e) Q) ∧ (k = false → W (m2 e) Q)
theorem w_if {c : SemT} {m1 m2 : SemS} {Q : Fl → En → Prop} {e : En} (h : W (c e) (KIf m1 m2 Q)) : W (sIf c m1 m2 e) Q :=
  w_bind (w_imp h fun k e1 q => by
    cases k with
    | true => exact q.1 rfl
    | false => exact q.2 rfl)
theorem kif_t {m1 m2 : SemS} {Q : Fl → En → Prop} {k : Bool} {e : En} (hk : k = true) (h : W (m1 e) Q) : KIf m1 m2 Q k e := ⟨fun _ => h, fun z => (by rw [hk] at z; cases z)⟩
theorem kif_f {m1 m2 : SemS} {Q : Fl → En → Prop} {k : Bool} {e : En} (hk : k = false) (h : W (m2 e) Q) : KIf m1 m2 Q k e := ⟨fun z => (by rw [hk] at z; cases z), fun _ => h⟩
theorem kif_d {m1 m2 : SemS} {Q : Fl → En → Prop} {p : Prop} [Decidable p] {e : En} (h1 : p → W (m1 e) Q) (h2 : ¬ p → W (m2 e) Q) : KIf m1 m2 Q (decide p) e := ⟨fun h => h1 (of_decide_eq_true h), fun h => h2 (of_decide_eq_false h)⟩
def KSet (i : Nat) (Q : Fl → En → Prop) : Od → En → Prop := fun r e => W (setO i r e) Q
theorem w_set {i : Nat} {m : SemE} {Q : Fl → En → Prop} {e : En} (h : W (m e) (KSet i Q)) : W (sSet i m e) Q := w_bind h
theorem isLent_of {e : En} {i : Nat} {l : Sl} (h : e[i]? = some l) (h2 : lentS l = false) : isLent e i = false := by rw [isLent_eq, h]; exact h2
theorem kset_r {i : Nat} {Q : Fl → En → Prop} {t : T} {e : En} (hl : isLent e i = false) (h : Q .nx (e.set i (.v t))) : KSet i Q (.r t) e := ⟨_, _, by unfold setO; rw [hl]; rfl, h⟩
theorem kset_b {i : Nat} {Q : Fl → En → Prop} {z : Bx} {e : En} (hl : isLent e i = false) (h : Q .nx (e.set i (.ow false z))) : KSet i Q (.b z) e := ⟨_, _, by unfold setO; rw [hl]; rfl, h⟩
theorem kset_s {i j : Nat} {Q : Fl → En → Prop} {t : T} {e e' : En} (hl : isLent e i = false) (he : esc (.s j) e = some (t, e')) (h : Q .nx (e'.set i (.v t))) : KSet i Q (.s j) e := ⟨_, _, by
  unfold setO; rw [hl]; simp only [he]; rfl, h⟩
def KRet (Q : Fl → En → Prop) : Od → En → Prop := fun r e => W (retO r e) Q
theorem w_ret {m : SemE} {Q : Fl → En → Prop} {e : En} (h : W (m e) (KRet Q)) : W (sRet m e) Q := w_bind h
theorem w_retN {Q : Fl → En → Prop} {e : En} (h : Q (.rt (.r .none)) e) : W (sRetN e) Q := ⟨_, _, rfl, h⟩
theorem kret_r {Q : Fl → En → Prop} {t : T} {e : En} (h : Q (.rt (.r t)) e) : KRet Q (.r t) e := ⟨_, _, rfl, h⟩
theorem kret_b {Q : Fl → En → Prop} {z : Bx} {e : En} (h : Q (.rt (.b z)) e) : KRet Q (.b z) e := ⟨_, _, rfl, h⟩
theorem kret_so {Q : Fl → En → Prop} {i : Nat} {z : Bx} {e : En} (hi : e[i]? = some (.ow false z)) (h : Q (.rt (.b z)) (e.set i .un)) : KRet Q (.s i) e := ⟨_, _, by unfold retO; simp only [hi], h⟩
def KAsg (g : SemG) (Q : Fl → En → Prop) : Od → En → Prop := fun r e => ∃ t e2, esc r e = some (t, e2) ∧ ∃ e3, g t e2 = some e3 ∧ Q .nx e3
theorem w_asg {g : SemG} {m : SemE} {Q : Fl → En → Prop} {e : En} (h : W (m e) (KAsg g Q)) : W (sAsg g m e) Q :=
  w_bind (w_imp h fun r e1 ⟨t, e2, h1, e3, h2, q⟩ => ⟨_, _, by simp only [h1, h2], q⟩)
theorem kasg {g : SemG} {Q : Fl → En → Prop} {r : Od} {e e2 e3 : En} {t : T} (h1 : esc r e = some (t, e2)) (h2 : g t e2 = some e3) (q : Q .nx e3) : KAsg g Q r e := ⟨t, e2, h1, e3, h2, q⟩
def KPar (is : List Nat) (Q : Fl → En → Prop) : List Od → En → Prop := fun rs e => ∃ rs' e2, presc rs e = some (rs', e2) ∧ ∃ e3, setOs is rs' e2 = some e3 ∧ Q .nx e3
theorem w_par {is : List Nat} {m : SemA} {Q : Fl → En → Prop} {e : En} (h : W (m e) (KPar is Q)) : W (sPar is m e) Q :=
  w_bind (w_imp h fun rs e1 ⟨rs', e2, h1, e3, h2, q⟩ => ⟨_, _, by simp only [h1, h2], q⟩)
theorem kpar {is : List Nat} {Q : Fl → En → Prop} {rs rs' : List Od} {e e2 e3 : En} (h1 : presc rs e = some (rs', e2)) (h2 : setOs is rs' e2 = some e3) (q : Q .nx e3) : KPar is Q rs e := ⟨rs', e2, h1, e3, h2, q⟩
theorem setOs_nil {e e' : En} (h : e' = e) : setOs [] [] e = some e' := by rw [h]; rfl
theorem setOs_r {i : Nat} {is : List Nat} {t : T} {rs : List Od} {e e' : En} (hl : isLent e i = false) (h : setOs is rs (e.set i (.v t)) = some e') : setOs (i :: is) (.r t :: rs) e = some e' := by
  unfold setOs setO; rw [hl]; exact h
theorem setOs_b {i : Nat} {is : List Nat} {z : Bx} {rs : List Od} {e e' : En} (hl : isLent e i = false) (h : setOs is rs (e.set i (.ow false z)) = some e') : setOs (i :: is) (.b z :: rs) e = some e' := by
  unfold setOs setO; rw [hl]; exact h
theorem gN_ok {i : Nat} {t : T} {e e' : En} (hl : isLent e i = false) (h : e' = e.set i (.v t)) : gN i t e = some e' := by unfold gN; rw [hl, h]; rfl
theorem gsNil_ok {e e' : En} (h : e' = e) : gsNil [] e = some e' := by rw [h]; rfl
theorem gsCons_ok {g : SemG} {gs : SemGs} {t : T} {ts : List T} {e e1 e' : En} (h1 : g t e = some e1) (h2 : gs ts e1 = some e') : gsCons g gs (t :: ts) e = some e' := by unfold gsCons; simp only [h1, h2]
theorem gT_ok {n : Nat} {gs : SemGs} {ts : List T} {e e' : En} (hn : ts.length = n) (h : gs ts e = some e') : gT n gs (.tuple ts) e = some e' := by unfold gT; simp only [hn, h, if_true]
def KAug (i : Nat) (t : T) (g : T → T → Option Od) (Q : Fl → En → Prop) : Od → En → Prop := fun r e => ∃ u k, r.val e = some u ∧ g t u = some (.r (.int k)) ∧ isLent e i = false ∧ Q .nx (e.set i (.v (.int k)))
theorem w_aug {i : Nat} {g : T → T → Option Od} {m : SemE} {Q : Fl → En → Prop} {e : En} {t : T} (hi : e[i]? = some (.v t)) (h : W (m e) (KAug i t g Q)) : W (sAug i g m e) Q := by
  unfold sAug
  simp only [hi]
  exact w_bind (w_imp h fun r e1 ⟨u, k, h1, h2, h3, q⟩ => ⟨_, _, by simp only [h1, h2, setO, h3]; rfl, q⟩)
theorem kaug {i : Nat} {t u : T} {g : T → T → Option Od} {Q : Fl → En → Prop} {r : Od} {e : En} {k : Int} (h1 : r.val e = some u) (h2 : g t u = some (.r (.int k))) (h3 : isLent e i = false) (q : Q .nx (e.set i (.v (.int k)))) : KAug i t g Q r e := ⟨u, k, h1, h2, h3, q⟩
def KSetIx2 (i : Nat) (r : Od) (Q : Fl → En → Prop) : Od → En → Prop := fun ri e2 => ∃ k t e3 l ts j, ri.val e2 = some (.int k) ∧ esc r e2 = some (t, e3) ∧ e3[i]? = some (.ow l (.l ts)) ∧ L2.ixN ts.length k = some j ∧ Q .nx (e3.set i (.ow l (.l (ts.set j t))))
def KSetIx1 (i : Nat) (mi : SemE) (Q : Fl → En → Prop) : Od → En → Prop := fun r e1 => ∃ l ts, e1[i]? = some (.ow l (.l ts)) ∧ W (mi e1) (KSetIx2 i r Q)
theorem w_setix {i : Nat} {mi mv : SemE} {Q : Fl → En → Prop} {e : En} (h : W (mv e) (KSetIx1 i mi Q)) : W (sSetIx i mi mv e) Q := by
  refine w_bind (w_imp h fun r e1 ⟨l, ts, h1, h2⟩ => ?_)
  simp only [h1]
  exact w_bind (w_imp h2 fun ri e2 ⟨k, t, e3, l, ts, j, q1, q2, q3, q4, q⟩ => ⟨_, _, by simp only [q1, q2, q3, q4], q⟩)
theorem ksetix1 {i : Nat} {mi : SemE} {Q : Fl → En → Prop} {r : Od} {e1 : En} {l : Bool} {ts : List T} (h1 : e1[i]? = some (.ow l (.l ts))) (h : W (mi e1) (KSetIx2 i r Q)) : KSetIx1 i mi Q r e1 := ⟨l, ts, h1, h⟩
theorem ksetix2 {i : Nat} {Q : Fl → En → Prop} {r ri : Od} {e2 e3 : En} {k : Int} {t : T} {l : Bool} {ts : List T} {j : Nat} (q1 : ri.val e2 = some (.int k)) (q2 : esc r e2 = some (t, e3)) (q3 : e3[i]? = some (.ow l (.l ts))) (q4 : L2.ixN ts.length k = some j) (q : Q .nx (e3.set i (.ow l (.l (ts.set j t))))) :
    KSetIx2 i r Q ri e2 := ⟨k, t, e3, l, ts, j, q1, q2, q3, q4, q⟩
theorem ixN_nat {n k : Nat} (h : k < n) : L2.ixN n (k : Int) = some k := by unfold L2.ixN; simp [h]
/-! ### tests -/
def KTb (Q : Bool → En → Prop) : Od → En → Prop := fun r e => ∃ k, r.val e = some (.bool k) ∧ Q k e
theorem w_tb {m : SemE} {Q : Bool → En → Prop} {e : En} (h : W (m e) (KTb Q)) : W (tb m e) Q := w_bind (w_imp h fun r e1 ⟨k, h1, q⟩ => ⟨_, _, by simp only [h1], q⟩)
theorem ktb {Q : Bool → En → Prop} {k : Bool} {e : En} (q : Q k e) : KTb Q (.r (.bool k)) e := ⟨k, rfl, q⟩
theorem ktb_s {Q : Bool → En → Prop} {r : Od} {k : Bool} {e : En} (h : r.val e = some (.bool k)) (q : Q k e) : KTb Q r e := ⟨k, h, q⟩
theorem w_tnot {t : SemT} {Q : Bool → En → Prop} {e : En} (h : W (t e) fun k e1 => Q (!k) e1) : W (Ev.tNot t e) Q := w_bind (w_imp h fun k e1 q => ⟨_, _, rfl, q⟩)
def KAnd (t : SemT) (Q : Bool → En → Prop) : Bool → En → Prop := fun k e => (k = true → W (t e) Q) ∧ (k = false → Q false e)
theorem w_tand {t1 t2 : SemT} {Q : Bool → En → Prop} {e : En} (h : W (t1 e) (KAnd t2 Q)) : W (Ev.tAnd t1 t2 e) Q := w_bind (w_imp h fun k e1 q => by
  cases k with
  | true => exact q.1 rfl
  | false => exact ⟨_, _, rfl, q.2 rfl⟩)
theorem kand_t {t : SemT} {Q : Bool → En → Prop} {k : Bool} {e : En} (hk : k = true) (h : W (t e) Q) : KAnd t Q k e := ⟨fun _ => h, fun z => (by rw [hk] at z; cases z)⟩
theorem kand_f {t : SemT} {Q : Bool → En → Prop} {k : Bool} {e : En} (hk : k = false) (h : Q false e) : KAnd t Q k e := ⟨fun z => (by rw [hk] at z; cases z), fun _ => h⟩
def KOr (t : SemT) (Q : Bool → En → Prop) : Bool → En → Prop := fun k e => (k = true → Q true e) ∧ (k = false → W (t e) Q)
theorem w_tor {t1 t2 : SemT} {Q : Bool → En → Prop} {e : En} (h : W (t1 e) (KOr t2 Q)) : W (Ev.tOr t1 t2 e) Q := w_bind (w_imp h fun k e1 q => by
  cases k with
  | true => exact ⟨_, _, rfl, q.1 rfl⟩
  | false => exact q.2 rfl)
theorem kor_t {t : SemT} {Q : Bool → En → Prop} {k : Bool} {e : En} (hk : k = true) (h : Q true e) : KOr t Q k e := ⟨fun _ => h, fun z => (by rw [hk] at z; cases z)⟩
theorem kor_f {t : SemT} {Q : Bool → En → Prop} {k : Bool} {e : En} (hk : k = false) (h : W (t e) Q) : KOr t Q k e := ⟨fun z => (by rw [hk] at z; cases z), fun _ => h⟩
theorem w_true {Q : Bool → En → Prop} {e : En} (h : Q true e) : W (tTrue e) Q := ⟨_, _, rfl, h⟩
/-! ### expressions -/
theorem w_var_v {i : Nat} {t : T} {e : En} {Q : Od → En → Prop} (hi : e[i]? = some (.v t)) (q : Q (.r t) e) : W (eVar i e) Q := ⟨_, _, by unfold eVar; rw [hi], q⟩
theorem w_var_f {i : Nat} {z : Bx} {e : En} {Q : Od → En → Prop} (hi : e[i]? = some (.fz z)) (q : Q (.r z.t) e) : W (eVar i e) Q := ⟨_, _, by unfold eVar; rw [hi], q⟩
theorem w_var_o {i : Nat} {l : Bool} {z : Bx} {e : En} {Q : Od → En → Prop} (hi : e[i]? = some (.ow l z)) (q : Q (.s i) e) : W (eVar i e) Q := ⟨_, _, by unfold eVar; rw [hi], q⟩
theorem w_k {t : T} {e : En} {Q : Od → En → Prop} (q : Q (.r t) e) : W (eK t e) Q := ⟨_, _, rfl, q⟩
def KTwo1 (mb : SemE) (g : T → T → Option Od) (Q : Od → En → Prop) : Od → En → Prop := fun r e1 => W (mb e1) fun r2 e2 => ∃ t u w, r.val e2 = some t ∧ r2.val e2 = some u ∧ g t u = some w ∧ Q w e2
def KTwo2 (r : Od) (g : T → T → Option Od) (Q : Od → En → Prop) : Od → En → Prop := fun r2 e2 => ∃ t u w, r.val e2 = some t ∧ r2.val e2 = some u ∧ g t u = some w ∧ Q w e2
theorem w_op2 {g : T → T → Option Od} {ma mb : SemE} {Q : Od → En → Prop} {e : En} (h : W (ma e) (KTwo1 mb g Q)) : W (eOp2 g ma mb e) Q :=
  w_bind (w_imp h fun r e1 h1 => w_bind (w_imp h1 fun r2 e2 ⟨t, u, w, q1, q2, q3, q⟩ => ⟨_, _, by unfold v2; simp only [q1, q2, q3], q⟩))
theorem ktwo1 {mb : SemE} {g : T → T → Option Od} {Q : Od → En → Prop} {r : Od} {e1 : En} (h : W (mb e1) (KTwo2 r g Q)) : KTwo1 mb g Q r e1 := h
theorem ktwo2 {r r2 : Od} {g : T → T → Option Od} {Q : Od → En → Prop} {e2 : En} {t u : T} {w : Od} (h1 : r.val e2 = some t) (h2 : r2.val e2 = some u) (h3 : g t u = some w) (q : Q w e2) : KTwo2 r g Q r2 e2 := ⟨t, u, w, h1, h2, h3, q⟩
theorem w_anil {e : En} {Q : List Od → En → Prop} (q : Q [] e) : W (aNil e) Q := ⟨_, _, rfl, q⟩
def KCons1 (r : SemA) (Q : List Od → En → Prop) : Od → En → Prop := fun x e1 => W (r e1) fun xs e2 => Q (x :: xs) e2
theorem w_acons {m : SemE} {r : SemA} {Q : List Od → En → Prop} {e : En} (h : W (m e) (KCons1 r Q)) : W (aCons m r e) Q :=
  w_bind (w_imp h fun x e1 h1 => w_bind (w_imp h1 fun xs e2 q => ⟨_, _, rfl, q⟩))
theorem kcons1 {r : SemA} {Q : List Od → En → Prop} {x : Od} {e1 : En} (h : W (r e1) fun xs e2 => Q (x :: xs) e2) : KCons1 r Q x e1 := h
def KFnG (g : List T → Option Od) (Q : Od → En → Prop) : List Od → En → Prop := fun rs e1 => ∃ ts w, vals e1 rs = some ts ∧ g ts = some w ∧ Q w e1
theorem w_fng {g : List T → Option Od} {ma : SemA} {Q : Od → En → Prop} {e : En} (h : W (ma e) (KFnG g Q)) : W (eFn g ma e) Q :=
  w_bind (w_imp h fun rs e1 ⟨ts, w, h1, h2, q⟩ => ⟨_, _, by simp only [h1, h2], q⟩)
theorem kfng {g : List T → Option Od} {Q : Od → En → Prop} {rs : List Od} {e1 : En} {ts : List T} {w : Od} (h1 : vals e1 rs = some ts) (h2 : g ts = some w) (q : Q w e1) : KFnG g Q rs e1 := ⟨ts, w, h1, h2, q⟩
def KDisp (k : List T → Od) (Q : Od → En → Prop) : List Od → En → Prop := fun rs e1 => ∃ ts e2, escs rs e1 = some (ts, e2) ∧ ts.length ≤ sizeLine ∧ Q (k ts) e2
theorem w_tup {m : SemA} {Q : Od → En → Prop} {e : En} (h : W (m e) (KDisp (fun ts => .r (.tuple ts)) Q)) : W (eTup m e) Q :=
  w_bind (w_imp h fun rs e1 ⟨ts, e2, h1, h2, q⟩ => ⟨_, _, by simp only [h1, h2, if_true], q⟩)
theorem w_lst {m : SemA} {Q : Od → En → Prop} {e : En} (h : W (m e) (KDisp (fun ts => .b (.l ts)) Q)) : W (eLst m e) Q :=
  w_bind (w_imp h fun rs e1 ⟨ts, e2, h1, h2, q⟩ => ⟨_, _, by simp only [h1, h2, if_true], q⟩)
theorem kdisp_t {Q : Od → En → Prop} {rs : List Od} {e1 e2 : En} {ts : List T} (h1 : escs rs e1 = some (ts, e2)) (h2 : Nat.ble ts.length 64 = true) (q : Q (.r (.tuple ts)) e2) : KDisp (fun ts => .r (.tuple ts)) Q rs e1 := ⟨ts, e2, h1, Nat.le_trans (Nat.le_of_ble_eq_true h2) (by unfold sizeLine; omega), q⟩
theorem kdisp_l {Q : Od → En → Prop} {rs : List Od} {e1 e2 : En} {ts : List T} (h1 : escs rs e1 = some (ts, e2)) (h2 : Nat.ble ts.length 64 = true) (q : Q (.b (.l ts)) e2) : KDisp (fun ts => .b (.l ts)) Q rs e1 := ⟨ts, e2, h1, Nat.le_trans (Nat.le_of_ble_eq_true h2) (by unfold sizeLine; omega), q⟩
def KCall (n : Nat) (m : FSem) (Q : Od → En → Prop) : List Od → En → Prop := fun rs e1 => rs.length = n ∧ ∃ ss, toSls e1 rs = some ss ∧ (sIdx rs).Nodup ∧ W (m ss) fun r ss' => (∀ i, r ≠ .s i) ∧ Q r (wb rs ss' e1)
theorem callR_w {m : FSem} {rs : List Od} {e1 : En} {ss : List Sl} {Q : Od → En → Prop} (h1 : toSls e1 rs = some ss) (h2 : (sIdx rs).Nodup) (h : W (m ss) fun r ss' => (∀ i, r ≠ .s i) ∧ Q r (wb rs ss' e1)) : W (eCallR m rs e1) Q := by
  obtain ⟨r, ss', h3, h4, q⟩ := h
  unfold eCallR
  simp only [h1, h2, h3, if_true]
  cases r with
  | s i => exact absurd rfl (h4 i)
  | r t => exact ⟨_, _, rfl, q⟩
  | b z => exact ⟨_, _, rfl, q⟩
theorem w_call {n : Nat} {m : FSem} {ma : SemA} {Q : Od → En → Prop} {e : En} (h : W (ma e) (KCall n m Q)) : W (eCall n m ma e) Q :=
  w_bind (w_imp h fun rs e1 ⟨h1, ss, h2, h3, h4⟩ => by rw [if_pos h1]; exact callR_w h2 h3 h4)
/-- what comes back of a call -/
def KBack (rs : List Od) (e1 : En) (Q : Od → En → Prop) : Od → En → Prop := fun r ss' => (∀ i, r ≠ .s i) ∧ Q r (wb rs ss' e1)
theorem kcall {n : Nat} {m : FSem} {Q : Od → En → Prop} {rs : List Od} {e1 : En} {ss : List Sl} (h1 : rs.length = n) (h2 : toSls e1 rs = some ss) (h3 : (sIdx rs).Nodup) (h : W (m ss) (KBack rs e1 Q)) : KCall n m Q rs e1 := ⟨h1, ss, h2, h3, h⟩
def KCallK (n : Nat) (perm : List Nat) (m : FSem) (Q : Od → En → Prop) : List Od → En → Prop := fun rs e1 => ((pick perm rs).length = n ∧ rs.length = n ∧ perm.Nodup) ∧ ∃ ss, toSls e1 (pick perm rs) = some ss ∧ (sIdx (pick perm rs)).Nodup ∧ W (m ss) (KBack (pick perm rs) e1 Q)
theorem w_callk {n : Nat} {perm : List Nat} {m : FSem} {ma : SemA} {Q : Od → En → Prop} {e : En} (h : W (ma e) (KCallK n perm m Q)) : W (eCallK n perm m ma e) Q :=
  w_bind (w_imp h fun rs e1 ⟨h1, ss, h2, h3, h4⟩ => by rw [if_pos h1]; exact callR_w h2 h3 h4)
theorem kcallk {n : Nat} {perm : List Nat} {m : FSem} {Q : Od → En → Prop} {rs : List Od} {e1 : En} {ss : List Sl} (h0 : perm.Nodup) (h1 : (pick perm rs).length = n ∧ rs.length = n) (h2 : toSls e1 (pick perm rs) = some ss) (h3 : (sIdx (pick perm rs)).Nodup) (h : W (m ss) (KBack (pick perm rs) e1 Q)) : KCallK n perm m Q rs e1 := ⟨⟨h1.1, h1.2, h0⟩, ss, h2, h3, h⟩
def KMut2 (i : Nat) (g : List T → List T → Option (List T × T)) (Q : Od → En → Prop) : List Od → En → Prop := fun rs e1 => ∃ us e2 l ts ts' w, escs rs e1 = some (us, e2) ∧ e2[i]? = some (.ow l (.l ts)) ∧ g ts us = some (ts', w) ∧ Q (.r w) (e2.set i (.ow l (.l ts')))
theorem w_mut {i : Nat} {g : List T → List T → Option (List T × T)} {ma : SemA} {Q : Od → En → Prop} {e : En} {l : Bool} {ts : List T} (hi : e[i]? = some (.ow l (.l ts))) (h : W (ma e) (KMut2 i g Q)) : W (eMut i g ma e) Q := by
  unfold eMut
  simp only [hi]
  exact w_bind (w_imp h fun rs e1 ⟨us, e2, l, ts, ts', w, h1, h2, h3, q⟩ => ⟨_, _, by simp only [h1, h2, h3], q⟩)
theorem kmut2 {i : Nat} {g : List T → List T → Option (List T × T)} {Q : Od → En → Prop} {rs : List Od} {e1 e2 : En} {us ts ts' : List T} {w : T} {l : Bool} (h1 : escs rs e1 = some (us, e2)) (h2 : e2[i]? = some (.ow l (.l ts))) (h3 : g ts us = some (ts', w)) (q : Q (.r w) (e2.set i (.ow l (.l ts')))) : KMut2 i g Q rs e1 := ⟨us, e2, l, ts, ts', w, h1, h2, h3, q⟩
theorem gAppend_ok {ts : List T} {u : T} (h : ts.length < sizeLine) : gAppend ts [u] = some (ts ++ [u], .none) := by unfold gAppend; simp only [h, if_true]
def KAndE (mb : SemE) (Q : Od → En → Prop) : Bool → En → Prop := fun k e => (k = true → W (mb e) Q) ∧ (k = false → Q (.r (.bool false)) e)
theorem w_eand {ma mb : SemE} {Q : Od → En → Prop} {e : En} (h : W (tb ma e) (KAndE mb Q)) : W (eAnd ma mb e) Q := w_bind (w_imp h fun k e1 q => by
  cases k with
  | true => exact q.1 rfl
  | false => exact ⟨_, _, rfl, q.2 rfl⟩)
theorem kande_t {mb : SemE} {Q : Od → En → Prop} {k : Bool} {e : En} (hk : k = true) (h : W (mb e) Q) : KAndE mb Q k e := ⟨fun _ => h, fun z => (by rw [hk] at z; cases z)⟩
theorem kande_f {mb : SemE} {Q : Od → En → Prop} {k : Bool} {e : En} (hk : k = false) (h : Q (.r (.bool false)) e) : KAndE mb Q k e := ⟨fun z => (by rw [hk] at z; cases z), fun _ => h⟩
def KOrE (mb : SemE) (Q : Od → En → Prop) : Bool → En → Prop := fun k e => (k = true → Q (.r (.bool true)) e) ∧ (k = false → W (mb e) Q)
theorem w_eor {ma mb : SemE} {Q : Od → En → Prop} {e : En} (h : W (tb ma e) (KOrE mb Q)) : W (eOr ma mb e) Q := w_bind (w_imp h fun k e1 q => by
  cases k with
  | true => exact ⟨_, _, rfl, q.1 rfl⟩
  | false => exact q.2 rfl)
theorem kore_t {mb : SemE} {Q : Od → En → Prop} {k : Bool} {e : En} (hk : k = true) (h : Q (.r (.bool true)) e) : KOrE mb Q k e := ⟨fun _ => h, fun z => (by rw [hk] at z; cases z)⟩
theorem kore_f {mb : SemE} {Q : Od → En → Prop} {k : Bool} {e : En} (hk : k = false) (h : W (mb e) Q) : KOrE mb Q k e := ⟨fun z => (by rw [hk] at z; cases z), fun _ => h⟩
theorem w_enot {ma : SemE} {Q : Od → En → Prop} {e : En} (h : W (tb ma e) fun k e1 => Q (.r (.bool !k)) e1) : W (eNot ma e) Q := w_bind (w_imp h fun k e1 q => ⟨_, _, rfl, q⟩)
def KIfE (ma mb : SemE) (Q : Od → En → Prop) : Bool → En → Prop := fun k e => (k = true → W (ma e) Q) ∧ (k = false → W (mb e) Q)
theorem w_eif {t : SemT} {ma mb : SemE} {Q : Od → En → Prop} {e : En} (h : W (t e) (KIfE ma mb Q)) : W (eIf t ma mb e) Q := w_bind (w_imp h fun k e1 q => by
  cases k with
  | true => exact q.1 rfl
  | false => exact q.2 rfl)
theorem kife_t {ma mb : SemE} {Q : Od → En → Prop} {k : Bool} {e : En} (hk : k = true) (h : W (ma e) Q) : KIfE ma mb Q k e := ⟨fun _ => h, fun z => (by rw [hk] at z; cases z)⟩
theorem kife_f {ma mb : SemE} {Q : Od → En → Prop} {k : Bool} {e : En} (hk : k = false) (h : W (mb e) Q) : KIfE ma mb Q k e := ⟨fun z => (by rw [hk] at z; cases z), fun _ => h⟩
theorem kife_d {ma mb : SemE} {Q : Od → En → Prop} {p : Prop} [Decidable p] {e : En} (h1 : p → W (ma e) Q) (h2 : ¬ p → W (mb e) Q) : KIfE ma mb Q (decide p) e := ⟨fun h => h1 (of_decide_eq_true h), fun h => h2 (of_decide_eq_false h)⟩
def KNeg (Q : Od → En → Prop) : Od → En → Prop := fun r e => ∃ i, r.val e = some (.int i) ∧ Q (.r (.int (-i))) e
theorem w_neg {m : SemE} {Q : Od → En → Prop} {e : En} (h : W (m e) (KNeg Q)) : W (eNeg m e) Q := w_bind (w_imp h fun r e1 ⟨i, h1, q⟩ => ⟨_, _, by simp only [h1], q⟩)
theorem kneg {Q : Od → En → Prop} {r : Od} {e : En} {i : Int} (h : r.val e = some (.int i)) (q : Q (.r (.int (-i))) e) : KNeg Q r e := ⟨i, h, q⟩
def KIsi (f : T → Bool) (Q : Od → En → Prop) : Od → En → Prop := fun r e => ∃ t, r.val e = some t ∧ Q (.r (.bool (f t))) e
theorem w_isi {f : T → Bool} {m : SemE} {Q : Od → En → Prop} {e : En} (h : W (m e) (KIsi f Q)) : W (eIsi f m e) Q := w_bind (w_imp h fun r e1 ⟨t, h1, q⟩ => ⟨_, _, by simp only [h1], q⟩)
theorem kisi {f : T → Bool} {Q : Od → En → Prop} {r : Od} {e : En} {t : T} (h : r.val e = some t) (q : Q (.r (.bool (f t))) e) : KIsi f Q r e := ⟨t, h, q⟩
/-- slices -/
def KSl (lo hi : SemP) (Q : Od → En → Prop) : Od → En → Prop := fun r e1 => W (lo e1) fun l e2 => W (hi e2) fun h e3 => (∃ ts, r.val e3 = some (.list ts) ∧ Q (.b (.l (cutT ts l h))) e3) ∨ (∃ ts, r.val e3 = some (.tuple ts) ∧ Q (.r (.tuple (cutT ts l h))) e3)
theorem w_sl {m : SemE} {lo hi : SemP} {Q : Od → En → Prop} {e : En} (h : W (m e) (KSl lo hi Q)) : W (eSl m lo hi e) Q :=
  w_bind (w_imp h fun r e1 h1 => w_bind (w_imp h1 fun l e2 h2 => w_bind (w_imp h2 fun x e3 h3 => by
    rcases h3 with ⟨ts, h4, q⟩ | ⟨ts, h4, q⟩
    · exact ⟨_, _, by simp only [h4], q⟩
    · exact ⟨_, _, by simp only [h4], q⟩)))
theorem w_pno {Q : Option Int → En → Prop} {e : En} (q : Q none e) : W (pNo e) Q := ⟨_, _, rfl, q⟩
def KPso (Q : Option Int → En → Prop) : Od → En → Prop := fun r e => ∃ i, r.val e = some (.int i) ∧ Q (some i) e
theorem w_pso {m : SemE} {Q : Option Int → En → Prop} {e : En} (h : W (m e) (KPso Q)) : W (pSo m e) Q := w_bind (w_imp h fun r e1 ⟨i, h1, q⟩ => ⟨_, _, by simp only [h1], q⟩)
theorem kpso {Q : Option Int → En → Prop} {r : Od} {e : En} {i : Int} (h : r.val e = some (.int i)) (q : Q (some i) e) : KPso Q r e := ⟨i, h, q⟩
def KRev (Q : Od → En → Prop) : Od → En → Prop := fun r e3 => (∃ ts, r.val e3 = some (.list ts) ∧ Q (.b (.l ts.reverse)) e3) ∨ (∃ ts, r.val e3 = some (.tuple ts) ∧ Q (.r (.tuple ts.reverse)) e3)
theorem w_rev {m : SemE} {Q : Od → En → Prop} {e : En} (h : W (m e) (KRev Q)) : W (eRev m e) Q :=
  w_bind (w_imp h fun r e1 h1 => by
    rcases h1 with ⟨ts, h4, q⟩ | ⟨ts, h4, q⟩
    · exact ⟨_, _, by simp only [h4], q⟩
    · exact ⟨_, _, by simp only [h4], q⟩)
theorem krev_l {Q : Od → En → Prop} {r : Od} {e : En} {ts : List T} (h : r.val e = some (.list ts)) (q : Q (.b (.l ts.reverse)) e) : KRev Q r e := .inl ⟨ts, h, q⟩
theorem krev_t {Q : Od → En → Prop} {r : Od} {e : En} {ts : List T} (h : r.val e = some (.tuple ts)) (q : Q (.r (.tuple ts.reverse)) e) : KRev Q r e := .inr ⟨ts, h, q⟩
def KIndex1 (ma : SemA) (Q : Od → En → Prop) : Od → En → Prop := fun r e1 => ∃ ts0, r.val e1 = some (.list ts0) ∧ W (ma e1) fun rs e2 => ∃ ts u j, r.val e2 = some (.list ts) ∧ vals e2 rs = some [u] ∧ SeqAt.shaped (.list ts) = true ∧ SeqAt.shaped u = true ∧ findT ts u = some j ∧ Q (.r (.int (j : Nat))) e2
theorem w_index {mo : SemE} {ma : SemA} {Q : Od → En → Prop} {e : En} (h : W (mo e) (KIndex1 ma Q)) : W (eIndex mo ma e) Q :=
  w_bind (w_imp h fun r e1 ⟨ts0, h1, h2⟩ => by
    simp only [h1]
    exact w_bind (w_imp h2 fun rs e2 ⟨ts, u, j, q1, q2, q3, q4, q5, q⟩ => ⟨_, _, by simp only [q1, q2, q3, q4, q5, Bool.and_self, if_true], q⟩))
/-! ### functions -/
def KFun (ss : List Sl) (Q : Od → En → Prop) : Fl → En → Prop := fun fl e' => match fl with
  | .nx => Q (.r .none) (finE ss e')
  | .rt r => Q r (finE ss e')
  | _ => False
theorem w_fun {n : Nat} {b : SemS} {ss : List Sl} {e0 : En} {Q : Od → En → Prop} (h0 : ss.all okArg = true) (he : e0 = ss ++ List.replicate (n - ss.length) .un) (h : W (b e0) (KFun ss Q)) : W (runFn n b ss) Q := by
  obtain ⟨fl, e', h1, q⟩ := h
  unfold runFn
  rw [if_pos h0, ← he, h1]
  cases fl with
  | nx => exact ⟨_, _, rfl, q⟩
  | rt r => exact ⟨_, _, rfl, q⟩
  | bk => exact q.elim
  | ct => exact q.elim
theorem kfun_rt {ss : List Sl} {Q : Od → En → Prop} {r : Od} {e' : En} (q : Q r (finE ss e')) : KFun ss Q (.rt r) e' := q
theorem kfun_nx {ss : List Sl} {Q : Od → En → Prop} {e' : En} (q : Q (.r .none) (finE ss e')) : KFun ss Q .nx e' := q
/-! ### loops -/
def KFor (g : SemG) (b : SemS) (Q : Fl → En → Prop) : List T → En → Prop := fun ts e => W (forS g b ts e) Q
theorem w_for {mi : SemI} {g : SemG} {b : SemS} {Q : Fl → En → Prop} {e : En} (h : W (mi e) (KFor g b Q)) : W (sFor mi g b e) Q := w_bind h
def KOf (Q : List T → En → Prop) : Od → En → Prop := fun r e => ∃ ts e2, (esc r e = some (.list ts, e2) ∨ esc r e = some (.tuple ts, e2)) ∧ Q ts e2
theorem w_iof {m : SemE} {Q : List T → En → Prop} {e : En} (h : W (m e) (KOf Q)) : W (iOf m e) Q := w_bind (w_imp h fun r e1 ⟨ts, e2, h1, q⟩ => by
  rcases h1 with h1 | h1 <;> exact ⟨_, _, by simp only [h1], q⟩)
theorem kof_l {Q : List T → En → Prop} {r : Od} {e e2 : En} {ts : List T} (h : esc r e = some (.list ts, e2)) (q : Q ts e2) : KOf Q r e := ⟨ts, e2, .inl h, q⟩
theorem kof_t {Q : List T → En → Prop} {r : Od} {e e2 : En} {ts : List T} (h : esc r e = some (.tuple ts, e2)) (q : Q ts e2) : KOf Q r e := ⟨ts, e2, .inr h, q⟩
/-- the numbers below n -/
def below (n : Nat) : List T := (List.range n).map fun (k : Nat) => PyData.int (k : Int)
theorem below_is (n : Nat) : intsT 0 n = below n := by
  unfold intsT below
  exact List.map_congr_left fun k _ => by rw [Int.zero_add]
def KR1 (Q : List T → En → Prop) : List Od → En → Prop := fun rs e => ∃ n : Nat, vals e rs = some [.int (n : Int)] ∧ n < 16777216 ∧ Q (below n) e
theorem w_r1 {m : SemA} {Q : List T → En → Prop} {e : En} (h : W (m e) (KR1 Q)) : W (iR1 m e) Q := w_bind (w_imp h fun rs e1 ⟨n, h1, h2, q⟩ => by
  simp only [h1]
  rw [if_pos ⟨by omega, by omega⟩]
  refine ⟨_, _, rfl, ?_⟩
  rw [Int.toNat_natCast, below_is]
  exact q)
theorem kr1 {Q : List T → En → Prop} {rs : List Od} {e : En} {n : Nat} (h1 : vals e rs = some [.int (n : Int)]) (h2 : n < 16777216) (q : Q (below n) e) : KR1 Q rs e := ⟨n, h1, h2, q⟩
theorem kr1_eq {Q : List T → En → Prop} {rs : List Od} {e : En} {j : Int} (n : Nat) (h1 : vals e rs = some [.int j]) (hj : j = (n : Int)) (h2 : n < 16777216) (q : Q (below n) e) : KR1 Q rs e := ⟨n, by rw [h1, hj], h2, q⟩
/-- the numbers from lo on -/
def above (lo : Int) (n : Nat) : List T := (List.range n).map fun (k : Nat) => PyData.int (lo + (k : Int))
def KR2 (Q : List T → En → Prop) : List Od → En → Prop := fun rs e => ∃ i j : Int, vals e rs = some [.int i, .int j] ∧ (-(2 ^ 62) ≤ i ∧ i < 2 ^ 62 ∧ -(2 ^ 62) ≤ j ∧ j < 2 ^ 62) ∧ Q (above i (j - i).toNat) e
theorem w_r2 {m : SemA} {Q : List T → En → Prop} {e : En} (h : W (m e) (KR2 Q)) : W (iR2 m e) Q := w_bind (w_imp h fun rs e1 ⟨i, j, h1, h2, q⟩ => by
  simp only [h1]
  rw [if_pos h2]
  exact ⟨_, _, rfl, q⟩)
def KZip (Q : List T → En → Prop) : List Od → En → Prop := fun rs e => ∃ ts us e2, escs rs e = some ([.list ts, .list us], e2) ∧ Q (pairs ts us) e2
theorem w_izip {m : SemA} {Q : List T → En → Prop} {e : En} (h : W (m e) (KZip Q)) : W (iZip m e) Q := w_bind (w_imp h fun rs e1 ⟨ts, us, e2, h1, q⟩ => ⟨_, _, by simp only [h1], q⟩)
def KEnu (Q : List T → En → Prop) : List Od → En → Prop := fun rs e => ∃ ts e2, escs rs e = some ([.list ts], e2) ∧ Q (enumT ts) e2
theorem w_ienu {m : SemA} {Q : List T → En → Prop} {e : En} (h : W (m e) (KEnu Q)) : W (iEnu m e) Q := w_bind (w_imp h fun rs e1 ⟨ts, e2, h1, q⟩ => ⟨_, _, by simp only [h1], q⟩)
/-- what a turn of a loop leaves -/
def KTurn (I : En → Prop) (R : Od → En → Prop) (X : En → Prop) : Fl → En → Prop := fun fl e => match fl with
  | .nx => I e
  | .ct => I e
  | .rt r => R r e
  | .bk => X e
theorem kturn_nx {I : En → Prop} {R : Od → En → Prop} {X : En → Prop} {e : En} (h : I e) : KTurn I R X .nx e := h
theorem kturn_ct {I : En → Prop} {R : Od → En → Prop} {X : En → Prop} {e : En} (h : I e) : KTurn I R X .ct e := h
theorem kturn_rt {I : En → Prop} {R : Od → En → Prop} {X : En → Prop} {r : Od} {e : En} (h : R r e) : KTurn I R X (.rt r) e := h
theorem kturn_bk {I : En → Prop} {R : Od → En → Prop} {X : En → Prop} {e : En} (h : X e) : KTurn I R X .bk e := h
/-- a loop by what is done -/
theorem for_w {α : Type} (inn : α → T) (I : List α → En → Prop) {g : SemG} {b : SemS} {Q : Fl → En → Prop} : ∀ (xs don : List α) (e : En), I don e →
    (∀ (d2 : List α) (x : α) (rest : List α), xs = d2 ++ x :: rest → ∀ e, I (don ++ d2) e → ∃ e1, g (inn x) e = some e1 ∧ W (b e1) (KTurn (I (don ++ d2 ++ [x])) (fun r e => Q (.rt r) e) (fun e => Q .nx e))) →
    (∀ e, I (don ++ xs) e → Q .nx e) → W (forS g b (xs.map inn) e) Q
  | [], don, e, h, _, q => ⟨_, _, rfl, q e (by rw [List.append_nil]; exact h)⟩
  | x :: xs, don, e, h, s, q => by
    obtain ⟨e1, h1, fl, e2, h2, h3⟩ := s [] x xs rfl e (by rw [List.append_nil]; exact h)
    rw [List.append_nil] at h3
    rw [List.map_cons, forS, h1]
    simp only [h2]
    have go : I (don ++ [x]) e2 → W (forS g b (xs.map inn) e2) Q := fun h3 =>
      for_w inn I xs (don ++ [x]) e2 h3 (fun d2 y rest hx e hi => by
        have := s (x :: d2) y rest (by rw [hx]; rfl) e (by rw [List.append_assoc] at hi; exact hi)
        rw [show don ++ x :: d2 = don ++ [x] ++ d2 by rw [List.append_assoc]; rfl] at this
        exact this) fun e hi => q e (by rw [List.append_assoc] at hi; exact hi)
    cases fl with
    | nx => exact go h3
    | ct => exact go h3
    | rt r => exact ⟨_, _, rfl, h3⟩
    | bk => exact ⟨_, _, rfl, h3⟩
theorem for_on_w {α : Type} (inn : α → T) (xs : List α) (I : List α → En → Prop) {g : SemG} {b : SemS} {Q : Fl → En → Prop} {e : En} (h0 : I [] e)
    (hs : ∀ (don : List α) (x : α) (rest : List α), xs = don ++ x :: rest → ∀ e, I don e → ∃ e1, g (inn x) e = some e1 ∧ W (b e1) (KTurn (I (don ++ [x])) (fun r e => Q (.rt r) e) (fun e => Q .nx e)))
    (hq : ∀ e, I xs e → Q .nx e) : W (forS g b (xs.map inn) e) Q :=
  for_w inn I xs [] e h0 (fun d2 x rest hx e hi => by rw [List.nil_append] at hi ⊢; exact hs d2 x rest hx e hi) hq
theorem range_cut {n : Nat} {don rest : List Nat} {k : Nat} (h : List.range n = don ++ k :: rest) : don = List.range k ∧ k < n := by
  have hk : don.length < n := by
    have := congrArg List.length h
    rw [List.length_range, List.length_append, List.length_cons] at this
    omega
  have e : (List.range n)[don.length]? = some k := by rw [h]; simp
  rw [List.getElem?_range hk] at e
  have e : don.length = k := by simpa using e
  subst e
  refine ⟨?_, hk⟩
  have := congrArg (List.take don.length) h
  rw [List.take_range, List.take_left, Nat.min_eq_left (Nat.le_of_lt hk)] at this
  exact this.symm
/-- a loop over the numbers below n -/
theorem for_below {n : Nat} (I : Nat → En → Prop) {g : SemG} {b : SemS} {Q : Fl → En → Prop} {e : En} (h0 : I 0 e)
    (hs : ∀ k, k < n → ∀ e, I k e → ∃ e1, g (.int (k : Int)) e = some e1 ∧ W (b e1) (KTurn (I (k + 1)) (fun r e => Q (.rt r) e) (fun e => Q .nx e)))
    (hq : ∀ e, I n e → Q .nx e) : W (forS g b (below n) e) Q :=
  for_on_w (fun (k : Nat) => PyData.int (k : Int)) (List.range n) (fun don e => I don.length e) h0 (fun don k rest hx e hi => by
    obtain ⟨h1, h2⟩ := range_cut hx
    have hl : don.length = k := by rw [h1, List.length_range]
    rw [hl] at hi
    obtain ⟨e1, q1, q2⟩ := hs k h2 e hi
    exact ⟨e1, q1, by rw [List.length_append, hl]; exact q2⟩) fun e hi => hq e (by rw [List.length_range] at hi; exact hi)
/-- a comprehension by what is done: each one wanted, some left out -/
theorem comp_w {α : Type} (inn : α → T) (I : List α → List T → En → Prop) {g : SemG} {c : SemT} {m : SemE} {vs : List Nat} {Q : Od → En → Prop} : ∀ (xs don : List α) (acc : List T) (e : En), I don acc e → acc.length + xs.length ≤ sizeLine →
    (∀ (d2 : List α) (x : α) (rest : List α), xs = d2 ++ x :: rest → ∀ acc e, I (don ++ d2) acc e → ∃ e1, g (inn x) (wipeE e vs) = some e1 ∧ W (c e1) fun k e2 => if k then W (m e2) fun r e3 => ∃ u e4, esc r e3 = some (u, e4) ∧ I (don ++ d2 ++ [x]) (acc ++ [u]) (restE e e4 vs) else I (don ++ d2 ++ [x]) acc (restE e e2 vs)) →
    (∀ acc e, I (don ++ xs) acc e → Q (.b (.l acc)) e) → W (compS g c m vs (xs.map inn) acc e) Q
  | [], don, acc, e, h, _, _, q => ⟨_, _, rfl, q acc e (by rw [List.append_nil]; exact h)⟩
  | x :: xs, don, acc, e, h, hl, s, q => by
    obtain ⟨e1, h1, k, e2, h2, h3⟩ := s [] x xs rfl acc e (by rw [List.append_nil]; exact h)
    rw [List.append_nil] at h3
    rw [List.length_cons] at hl
    have go : ∀ acc' e', acc'.length + xs.length ≤ sizeLine → I (don ++ [x]) acc' e' → W (compS g c m vs (xs.map inn) acc' e') Q := fun acc' e' hl' h3 =>
      comp_w inn I xs (don ++ [x]) acc' e' h3 hl' (fun d2 y rest hx acc e hi => by
        have := s (x :: d2) y rest (by rw [hx]; rfl) acc e (by rw [List.append_assoc] at hi; exact hi)
        rw [show don ++ x :: d2 = don ++ [x] ++ d2 by rw [List.append_assoc]; rfl] at this
        exact this) fun acc e hi => q acc e (by rw [List.append_assoc] at hi; exact hi)
    rw [List.map_cons, compS, h1]
    simp only [h2, Out.nx, Out.bind]
    cases k with
    | true =>
      rw [if_pos rfl] at h3
      obtain ⟨r, e3, q1, u, e4, q2, q3⟩ := h3
      simp only [q1, q2, if_true]
      rw [if_pos (show acc.length < sizeLine by omega)]
      exact go _ _ (by rw [List.length_append, List.length_singleton]; omega) q3
    | false =>
      rw [if_neg (by decide)] at h3 ⊢
      exact go _ _ (by omega) h3
def KComp (g : SemG) (c : SemT) (m : SemE) (vs : List Nat) (Q : Od → En → Prop) : List T → En → Prop := fun ts e => W (compS g c m vs ts [] e) Q
theorem w_comp {mi : SemI} {g : SemG} {c : SemT} {m : SemE} {vs : List Nat} {Q : Od → En → Prop} {e : En} (h : W (mi e) (KComp g c m vs Q)) : W (eComp mi g c m vs e) Q := w_bind h
/-- what an element of a comprehension leaves -/
def KElt (I : T → En → Prop) : Od → En → Prop := fun r e3 => ∃ u e4, esc r e3 = some (u, e4) ∧ I u e4
theorem kelt {I : T → En → Prop} {r : Od} {e3 e4 : En} {u : T} (h : esc r e3 = some (u, e4)) (q : I u e4) : KElt I r e3 := ⟨u, e4, h, q⟩
/-- all elements, each by a relation, with a state -/
theorem comp_all {α : Type} (inn : α → T) (xs : List α) (I : List α → List T → En → Prop) {g : SemG} {m : SemE} {vs : List Nat} {Q : Od → En → Prop} {e : En} (h0 : I [] [] e) (hl : xs.length ≤ sizeLine)
    (hs : ∀ (don : List α) (x : α) (rest : List α), xs = don ++ x :: rest → ∀ acc e, I don acc e → ∃ e1, g (inn x) (wipeE e vs) = some e1 ∧ W (m e1) (KElt fun u e4 => I (don ++ [x]) (acc ++ [u]) (restE e e4 vs)))
    (hq : ∀ acc e, I xs acc e → Q (.b (.l acc)) e) : KComp g tTrue m vs Q (xs.map inn) e :=
  comp_w inn I xs [] [] e h0 (by rw [List.length_nil]; omega) (fun d2 x rest hx acc e hi => by
    rw [List.nil_append] at hi ⊢
    obtain ⟨e1, h1, h2⟩ := hs d2 x rest hx acc e hi
    exact ⟨e1, h1, ⟨true, e1, rfl, h2⟩⟩) hq
/-- a comprehension of a function, the state stays -/
theorem comp_map_w {α : Type} (inn out : α → T) (xs : List α) {g : SemG} {m : SemE} {vs : List Nat} {Q : Od → En → Prop} {e : En} (hl : xs.length ≤ sizeLine)
    (hs : ∀ x ∈ xs, ∃ e1, g (inn x) (wipeE e vs) = some e1 ∧ W (m e1) (KElt fun u e4 => u = out x ∧ restE e e4 vs = e))
    (q : Q (.b (.l (xs.map out))) e) : KComp g tTrue m vs Q (xs.map inn) e :=
  comp_all inn xs (fun don acc e' => acc = don.map out ∧ e' = e) ⟨rfl, rfl⟩ hl (fun don x rest hx acc e' ⟨h1, h2⟩ => by
    subst h2
    obtain ⟨e1, q1, q2⟩ := hs x (by rw [hx]; simp)
    refine ⟨e1, q1, w_imp q2 fun r e3 ⟨u, e4, z1, z2, z3⟩ => ⟨u, e4, z1, ?_, z3⟩⟩
    rw [h1, z2, List.map_append]; rfl) fun acc e' ⟨h1, h2⟩ => by rw [h1, h2]; exact q
/-! ### whiles -/
/-! ### operations -/
theorem gMul_ok {i j : Int} (h : mulOk i j = true) : gMul (.int i) (.int j) = some (.r (.int (i * j))) := by simp only [gMul, h, if_true]
theorem gMod_ok {i j : Int} (h : 0 < j) : gMod (.int i) (.int j) = some (.r (.int (i % j))) := by unfold gMod gII; simp only [h, decide_true, if_true]
theorem gDiv_ok {i j : Int} (h : 0 < j) (h2 : j.natAbs.log2 < 9000) : gDiv (.int i) (.int j) = some (.r (.int (i / j))) := by unfold gDiv gII; simp only [h, h2, and_self, decide_true, if_true]
theorem gIx_l {ts : List T} {k : Nat} {x : T} (h : ts[k]? = some x) : gIx (.list ts) (.int (k : Int)) = some (.r x) := by
  have := (List.getElem?_eq_some_iff.mp h)
  unfold gIx L2.atI
  simp [ixN_nat this.1, h]
theorem gIx_t {ts : List T} {k : Nat} {x : T} (h : ts[k]? = some x) : gIx (.tuple ts) (.int (k : Int)) = some (.r x) := by
  have := (List.getElem?_eq_some_iff.mp h)
  unfold gIx L2.atI
  simp [ixN_nat this.1, h]
theorem gAdd_tt {xs ys : List T} (h : xs.length + ys.length ≤ sizeLine) : gAdd (.tuple xs) (.tuple ys) = some (.r (.tuple (xs ++ ys))) := by simp only [gAdd, h, if_true]
theorem gAdd_ll {xs ys : List T} (h : xs.length + ys.length ≤ sizeLine) : gAdd (.list xs) (.list ys) = some (.b (.l (xs ++ ys))) := by simp only [gAdd, h, if_true]
theorem gEq_i (k : Bool → Bool) (i j : Int) : gEq k (.int i) (.int j) = some (.r (.bool (k (decide (i = j))))) := rfl
theorem gEq_n (i j : Int) : gEq not (.int i) (.int j) = some (.r (.bool (decide (i ≠ j)))) := by
  show some (Od.r (.bool (!decide (i = j)))) = _
  congr 3
  by_cases h : i = j <;> simp [h]
theorem gEq_e (i j : Int) : gEq id (.int i) (.int j) = some (.r (.bool (decide (i = j)))) := rfl
theorem gAll_b (bs : List Bool) : gAll [.list (bs.map .bool)] = some (.r (.bool (bs.all id))) := gAll_bools bs
/-! ### repeating, slices again -/
def KRep1 (mb : SemE) (Q : Od → En → Prop) : Od → En → Prop := fun ra e1 => W (mb e1) fun rb e2 => ∃ (us : List T) (n : Nat), ra = .b (.l us) ∧ rb.val e2 = some (.int (n : Int)) ∧ (n ≤ 65536 ∧ us.length ≤ 16) ∧ Q (.b (.l (List.replicate n us).flatten)) e2
def KRep2 (ra : Od) (Q : Od → En → Prop) : Od → En → Prop := fun rb e2 => ∃ (us : List T) (n : Nat), ra = .b (.l us) ∧ rb.val e2 = some (.int (n : Int)) ∧ (n ≤ 65536 ∧ us.length ≤ 16) ∧ Q (.b (.l (List.replicate n us).flatten)) e2
theorem w_rep {ma mb : SemE} {Q : Od → En → Prop} {e : En} (h : W (ma e) (KRep1 mb Q)) : W (eRep ma mb e) Q :=
  w_bind (w_imp h fun ra e1 h1 => w_bind (w_imp h1 fun rb e2 ⟨us, n, q1, q2, ⟨q3, q4⟩, q⟩ => by
    subst q1
    simp only [q2]
    rw [if_pos ⟨by omega, by omega, q4⟩, Int.toNat_natCast]
    exact ⟨_, _, rfl, q⟩))
theorem krep1 {mb : SemE} {Q : Od → En → Prop} {ra : Od} {e1 : En} (h : W (mb e1) (KRep2 ra Q)) : KRep1 mb Q ra e1 := h
def KSl2 (r : Od) (l : Option Int) (Q : Od → En → Prop) : Option Int → En → Prop := fun h e3 => (∃ ts, r.val e3 = some (.list ts) ∧ Q (.b (.l (cutT ts l h))) e3) ∨ (∃ ts, r.val e3 = some (.tuple ts) ∧ Q (.r (.tuple (cutT ts l h))) e3)
def KSl1 (hi : SemP) (r : Od) (Q : Od → En → Prop) : Option Int → En → Prop := fun l e2 => W (hi e2) (KSl2 r l Q)
theorem ksl_ {lo hi : SemP} {Q : Od → En → Prop} {r : Od} {e1 : En} (h : W (lo e1) (KSl1 hi r Q)) : KSl lo hi Q r e1 := h
theorem ksl1 {hi : SemP} {Q : Od → En → Prop} {r : Od} {l : Option Int} {e2 : En} (h : W (hi e2) (KSl2 r l Q)) : KSl1 hi r Q l e2 := h
theorem ksl2_l {Q : Od → En → Prop} {r : Od} {l h : Option Int} {e3 : En} {ts : List T} (h1 : r.val e3 = some (.list ts)) (q : Q (.b (.l (cutT ts l h))) e3) : KSl2 r l Q h e3 := .inl ⟨ts, h1, q⟩
theorem ksl2_t {Q : Od → En → Prop} {r : Od} {l h : Option Int} {e3 : En} {ts : List T} (h1 : r.val e3 = some (.tuple ts)) (q : Q (.r (.tuple (cutT ts l h))) e3) : KSl2 r l Q h e3 := .inr ⟨ts, h1, q⟩
/-! ### index -/
def KIndex2 (r : Od) (Q : Od → En → Prop) : List Od → En → Prop := fun rs e2 => ∃ ts u j, r.val e2 = some (.list ts) ∧ vals e2 rs = some [u] ∧ SeqAt.shaped (.list ts) = true ∧ SeqAt.shaped u = true ∧ findT ts u = some j ∧ Q (.r (.int (j : Nat))) e2
theorem kindex1_ {ma : SemA} {Q : Od → En → Prop} {r : Od} {e1 : En} {ts0 : List T} (h0 : r.val e1 = some (.list ts0)) (h : W (ma e1) (KIndex2 r Q)) : KIndex1 ma Q r e1 := ⟨ts0, h0, h⟩
/-! ### dicts whose keys are tuples -/
def KMGet (i : Nat) (Q : Od → En → Prop) : Od → En → Prop := fun r e1 => ∃ t l kvs kk u, r.val e1 = some t ∧ e1[i]? = some (.ow l (.m kvs)) ∧ keyM t = some kk ∧ mLook kvs t = some u ∧ Q (.r u) e1
theorem w_mget {i : Nat} {mk : SemE} {Q : Od → En → Prop} {e : En} {l : Bool} {kvs : List (T × T)} (hi : e[i]? = some (.ow l (.m kvs))) (h : W (mk e) (KMGet i Q)) : W (eMGet i mk e) Q := by
  unfold eMGet
  simp only [hi]
  exact w_bind (w_imp h fun r e1 ⟨t, l, kvs, kk, u, q1, q2, q3, q4, q⟩ => ⟨_, _, by simp only [q1, q2, q3, q4], q⟩)
theorem kmget {i : Nat} {Q : Od → En → Prop} {r : Od} {e1 : En} {t : T} {l : Bool} {kvs : List (T × T)} {kk : List L2.Key} {u : T} (q1 : r.val e1 = some t) (q2 : e1[i]? = some (.ow l (.m kvs))) (q3 : keyM t = some kk) (q4 : mLook kvs t = some u) (q : Q (.r u) e1) : KMGet i Q r e1 := ⟨t, l, kvs, kk, u, q1, q2, q3, q4, q⟩
def KMIn (neg : Bool) (i : Nat) (Q : Od → En → Prop) : Od → En → Prop := fun r e1 => ∃ t l kvs kk c, r.val e1 = some t ∧ e1[i]? = some (.ow l (.m kvs)) ∧ keyM t = some kk ∧ (mLook kvs t).isSome = c ∧ Q (.r (.bool (if neg then !c else c))) e1
theorem w_min {neg : Bool} {i : Nat} {mk : SemE} {Q : Od → En → Prop} {e : En} (h : W (mk e) (KMIn neg i Q)) : W (eMIn neg i mk e) Q :=
  w_bind (w_imp h fun r e1 ⟨t, l, kvs, kk, c, q1, q2, q3, q4, q⟩ => ⟨_, _, by simp only [q1, q2, q3, q4], q⟩)
theorem kmin {neg : Bool} {i : Nat} {Q : Od → En → Prop} {r : Od} {e1 : En} {t : T} {l : Bool} {kvs : List (T × T)} {kk : List L2.Key} {c : Bool} (q1 : r.val e1 = some t) (q2 : e1[i]? = some (.ow l (.m kvs))) (q3 : keyM t = some kk) (q4 : (mLook kvs t).isSome = c) (q : Q (.r (.bool (if neg then !c else c))) e1) : KMIn neg i Q r e1 := ⟨t, l, kvs, kk, c, q1, q2, q3, q4, q⟩
def KMPut2 (i : Nat) (r : Od) (Q : Fl → En → Prop) : Od → En → Prop := fun rk e2 => ∃ t u e3 l kvs kk, rk.val e2 = some t ∧ esc r e2 = some (u, e3) ∧ e3[i]? = some (.ow l (.m kvs)) ∧ keyM t = some kk ∧ kvs.length < sizeLine ∧ Q .nx (e3.set i (.ow l (.m (mPut kvs t u))))
def KMPut1 (i : Nat) (mk : SemE) (Q : Fl → En → Prop) : Od → En → Prop := fun r e1 => ∃ l kvs, e1[i]? = some (.ow l (.m kvs)) ∧ W (mk e1) (KMPut2 i r Q)
theorem w_mput {i : Nat} {mk mv : SemE} {Q : Fl → En → Prop} {e : En} (h : W (mv e) (KMPut1 i mk Q)) : W (sMPut i mk mv e) Q := by
  refine w_bind (w_imp h fun r e1 ⟨l, kvs, h1, h2⟩ => ?_)
  simp only [h1]
  exact w_bind (w_imp h2 fun rk e2 ⟨t, u, e3, l, kvs, kk, q1, q2, q3, q4, q5, q⟩ => ⟨_, _, by simp only [q1, q2, q3, q4]; rw [if_pos q5], q⟩)
theorem kmput1 {i : Nat} {mk : SemE} {Q : Fl → En → Prop} {r : Od} {e1 : En} {l : Bool} {kvs : List (T × T)} (h1 : e1[i]? = some (.ow l (.m kvs))) (h : W (mk e1) (KMPut2 i r Q)) : KMPut1 i mk Q r e1 := ⟨l, kvs, h1, h⟩
theorem kmput2 {i : Nat} {r : Od} {Q : Fl → En → Prop} {rk : Od} {e2 e3 : En} {t u : T} {l : Bool} {kvs : List (T × T)} {kk : List L2.Key} (q1 : rk.val e2 = some t) (q2 : esc r e2 = some (u, e3)) (q3 : e3[i]? = some (.ow l (.m kvs))) (q4 : keyM t = some kk) (q5 : kvs.length < sizeLine) (q : Q .nx (e3.set i (.ow l (.m (mPut kvs t u))))) : KMPut2 i r Q rk e2 := ⟨t, u, e3, l, kvs, kk, q1, q2, q3, q4, q5, q⟩
theorem w_mnew {Q : Od → En → Prop} {e : En} (q : Q (.b (.m [])) e) : W (eMNew e) Q := ⟨_, _, rfl, q⟩
def KMD2 (rk : Od) (Q : Od → En → Prop) : Od → En → Prop := fun rv e2 => ∃ t u kk, rk.val e2 = some t ∧ rv = .r u ∧ keyM t = some kk ∧ Q (.b (.m [(t, u)])) e2
def KMD1 (mv : SemE) (Q : Od → En → Prop) : Od → En → Prop := fun rk e1 => W (mv e1) (KMD2 rk Q)
theorem w_mdict1 {mk mv : SemE} {Q : Od → En → Prop} {e : En} (h : W (mk e) (KMD1 mv Q)) : W (eMDict1 mk mv e) Q :=
  w_bind (w_imp h fun rk e1 h1 => w_bind (w_imp h1 fun rv e2 ⟨t, u, kk, q1, q2, q3, q⟩ => by subst q2; exact ⟨_, _, by simp only [q1, q3], q⟩))
theorem kmd1 {mv : SemE} {Q : Od → En → Prop} {rk : Od} {e1 : En} (h : W (mv e1) (KMD2 rk Q)) : KMD1 mv Q rk e1 := h
theorem kmd2 {rk : Od} {Q : Od → En → Prop} {u : T} {e2 : En} {t : T} {kk : List L2.Key} (q1 : rk.val e2 = some t) (q3 : keyM t = some kk) (q : Q (.b (.m [(t, u)])) e2) : KMD2 rk Q (.r u) e2 := ⟨t, u, kk, q1, rfl, q3, q⟩
/-! ### dicts whose keys are ints -/
def KDGet (i : Nat) (Q : Od → En → Prop) : Od → En → Prop := fun r e1 => ∃ t l kvs kk u, r.val e1 = some t ∧ e1[i]? = some (.ow l (.d kvs)) ∧ keyOf t = some kk ∧ dLook kvs t = some u ∧ Q (.r u) e1
theorem w_dget {i : Nat} {mk : SemE} {Q : Od → En → Prop} {e : En} {l : Bool} {kvs : List (T × T)} (hi : e[i]? = some (.ow l (.d kvs))) (h : W (mk e) (KDGet i Q)) : W (eDGet i mk e) Q := by
  unfold eDGet
  simp only [hi]
  exact w_bind (w_imp h fun r e1 ⟨t, l, kvs, kk, u, q1, q2, q3, q4, q⟩ => ⟨_, _, by simp only [q1, q2, q3, q4], q⟩)
theorem kdget {i : Nat} {Q : Od → En → Prop} {r : Od} {e1 : En} {t : T} {l : Bool} {kvs : List (T × T)} {kk : L2.Key} {u : T} (q1 : r.val e1 = some t) (q2 : e1[i]? = some (.ow l (.d kvs))) (q3 : keyOf t = some kk) (q4 : dLook kvs t = some u) (q : Q (.r u) e1) : KDGet i Q r e1 := ⟨t, l, kvs, kk, u, q1, q2, q3, q4, q⟩
def KDPut2 (i : Nat) (r : Od) (Q : Fl → En → Prop) : Od → En → Prop := fun rk e2 => ∃ t u e3 l kvs kk, rk.val e2 = some t ∧ esc r e2 = some (u, e3) ∧ e3[i]? = some (.ow l (.d kvs)) ∧ keyOf t = some kk ∧ kvs.length < sizeLine ∧ Q .nx (e3.set i (.ow l (.d (dPut kvs t u))))
def KDPut1 (i : Nat) (mk : SemE) (Q : Fl → En → Prop) : Od → En → Prop := fun r e1 => ∃ l kvs, e1[i]? = some (.ow l (.d kvs)) ∧ W (mk e1) (KDPut2 i r Q)
theorem w_dput {i : Nat} {mk mv : SemE} {Q : Fl → En → Prop} {e : En} (h : W (mv e) (KDPut1 i mk Q)) : W (sDPutV i mk mv e) Q := by
  refine w_bind (w_imp h fun r e1 ⟨l, kvs, h1, h2⟩ => ?_)
  simp only [h1]
  exact w_bind (w_imp h2 fun rk e2 ⟨t, u, e3, l, kvs, kk, q1, q2, q3, q4, q5, q⟩ => ⟨_, _, by simp only [q1, q2, q3, q4]; rw [if_pos q5], q⟩)
theorem kdput1 {i : Nat} {mk : SemE} {Q : Fl → En → Prop} {r : Od} {e1 : En} {l : Bool} {kvs : List (T × T)} (h1 : e1[i]? = some (.ow l (.d kvs))) (h : W (mk e1) (KDPut2 i r Q)) : KDPut1 i mk Q r e1 := ⟨l, kvs, h1, h⟩
theorem kdput2 {i : Nat} {r : Od} {Q : Fl → En → Prop} {rk : Od} {e2 e3 : En} {t u : T} {l : Bool} {kvs : List (T × T)} {kk : L2.Key} (q1 : rk.val e2 = some t) (q2 : esc r e2 = some (u, e3)) (q3 : e3[i]? = some (.ow l (.d kvs))) (q4 : keyOf t = some kk) (q5 : kvs.length < sizeLine) (q : Q .nx (e3.set i (.ow l (.d (dPut kvs t u))))) : KDPut2 i r Q rk e2 := ⟨t, u, e3, l, kvs, kk, q1, q2, q3, q4, q5, q⟩
theorem w_eq {α : Type} {o : Out α} {a : α} {b : En} (h : W o fun r e => r = a ∧ e = b) : o = .ok a b := by
  obtain ⟨r, e, h, rfl, rfl⟩ := h
  exact h
/-! ### dict(xs), xs[i], xs[j] = v, w -/
def KDictP (Q : Od → En → Prop) : List Od → En → Prop := fun rs e1 => ∃ ts e2 kvs, escs rs e1 = some ([.list ts], e2) ∧ pairsOf ts = some kvs ∧ Q (.b (.d (mergeT [] kvs))) e2
theorem w_dictp {m : SemA} {Q : Od → En → Prop} {e : En} (h : W (m e) (KDictP Q)) : W (eDictP m e) Q :=
  w_bind (w_imp h fun rs e1 ⟨ts, e2, kvs, h1, h2, q⟩ => ⟨_, _, by simp only [h1, h2], q⟩)
theorem kdictp {Q : Od → En → Prop} {rs : List Od} {e1 e2 : En} {ts : List T} {kvs : List (T × T)} (h1 : escs rs e1 = some ([.list ts], e2)) (h2 : pairsOf ts = some kvs) (q : Q (.b (.d (mergeT [] kvs))) e2) : KDictP Q rs e1 := ⟨ts, e2, kvs, h1, h2, q⟩
def KPutS (tgs : List (Nat × SemE)) (Q : Fl → En → Prop) : List Od → En → Prop := fun rs e1 => ∃ ts e2, escs rs e1 = some (ts, e2) ∧ (ts.length = tgs.length ∧ ts.length ≤ sizeLine) ∧ W (putS tgs ts e2) Q
theorem w_putS {tgs : List (Nat × SemE)} {m : SemA} {Q : Fl → En → Prop} {e : En} (h : W (m e) (KPutS tgs Q)) : W (sPutS tgs m e) Q :=
  w_bind (w_imp h fun rs e1 ⟨ts, e2, h1, h2, q⟩ => by simp only [h1]; rw [if_pos h2]; exact q)
theorem kputS {tgs : List (Nat × SemE)} {Q : Fl → En → Prop} {rs : List Od} {e1 e2 : En} {ts : List T} (h1 : escs rs e1 = some (ts, e2)) (h2 : ts.length = tgs.length) (h3 : Nat.ble ts.length 64 = true) (q : W (putS tgs ts e2) Q) : KPutS tgs Q rs e1 := ⟨ts, e2, h1, ⟨h2, Nat.le_trans (Nat.le_of_ble_eq_true h3) (by unfold sizeLine; omega)⟩, q⟩
theorem putS_nil {Q : Fl → En → Prop} {e : En} (q : Q .nx e) : W (putS [] [] e) Q := ⟨_, _, by unfold putS; rfl, q⟩
def KPutL (i : Nat) (t : T) (tgs : List (Nat × SemE)) (ts : List T) (Q : Fl → En → Prop) : Od → En → Prop := fun ri e2 => ∃ k l us j, ri.val e2 = some (.int k) ∧ e2[i]? = some (.ow l (.l us)) ∧ L2.ixN us.length k = some j ∧ W (putS tgs ts (e2.set i (.ow l (.l (us.set j t))))) Q
theorem putS_l {i : Nat} {mk : SemE} {tgs : List (Nat × SemE)} {t : T} {ts : List T} {Q : Fl → En → Prop} {e : En} {l : Bool} {us : List T} (hi : e[i]? = some (.ow l (.l us))) (h : W (mk e) (KPutL i t tgs ts Q)) : W (putS ((i, mk) :: tgs) (t :: ts) e) Q := by
  unfold putS
  simp only [hi]
  exact w_bind (w_imp h fun ri e2 ⟨k, l, us, j, q1, q2, q3, q⟩ => by simp only [q1, q2, q3]; exact q)
theorem kputL {i : Nat} {t : T} {tgs : List (Nat × SemE)} {ts : List T} {Q : Fl → En → Prop} {ri : Od} {e2 : En} {k : Int} {l : Bool} {us : List T} {j : Nat} (q1 : ri.val e2 = some (.int k)) (q2 : e2[i]? = some (.ow l (.l us))) (q3 : L2.ixN us.length k = some j) (q : W (putS tgs ts (e2.set i (.ow l (.l (us.set j t))))) Q) : KPutL i t tgs ts Q ri e2 := ⟨k, l, us, j, q1, q2, q3, q⟩
def KPutD (i : Nat) (t : T) (tgs : List (Nat × SemE)) (ts : List T) (Q : Fl → En → Prop) : Od → En → Prop := fun ri e2 => ∃ u l kvs kk, ri.val e2 = some u ∧ e2[i]? = some (.ow l (.d kvs)) ∧ keyOf u = some kk ∧ kvs.length < sizeLine ∧ W (putS tgs ts (e2.set i (.ow l (.d (dPut kvs u t))))) Q
theorem putS_d {i : Nat} {mk : SemE} {tgs : List (Nat × SemE)} {t : T} {ts : List T} {Q : Fl → En → Prop} {e : En} {l : Bool} {kvs : List (T × T)} (hi : e[i]? = some (.ow l (.d kvs))) (h : W (mk e) (KPutD i t tgs ts Q)) : W (putS ((i, mk) :: tgs) (t :: ts) e) Q := by
  unfold putS
  simp only [hi]
  exact w_bind (w_imp h fun ri e2 ⟨u, l, kvs, kk, q1, q2, q3, q4, q⟩ => by simp only [q1, q2, q3]; rw [if_pos q4]; exact q)
theorem kputD {i : Nat} {t : T} {tgs : List (Nat × SemE)} {ts : List T} {Q : Fl → En → Prop} {ri : Od} {e2 : En} {u : T} {l : Bool} {kvs : List (T × T)} {kk : L2.Key} (q1 : ri.val e2 = some u) (q2 : e2[i]? = some (.ow l (.d kvs))) (q3 : keyOf u = some kk) (q4 : kvs.length < sizeLine) (q : W (putS tgs ts (e2.set i (.ow l (.d (dPut kvs u t))))) Q) : KPutD i t tgs ts Q ri e2 := ⟨u, l, kvs, kk, q1, q2, q3, q4, q⟩
/-! ### range from, zip, enumerate, max -/
def KR2w (Q : List T → En → Prop) : List Od → En → Prop := fun rs e => ∃ i j : Int, vals e rs = some [.int i, .int j] ∧ Q (above i (j - i).toNat) e
theorem w_r2w {m : SemA} {Q : List T → En → Prop} {e : En} (h : W (m e) (KR2w Q)) : W (iR2w m e) Q := w_bind (w_imp h fun rs e1 ⟨i, j, h1, q⟩ => ⟨_, _, by simp only [h1]; rfl, q⟩)
theorem kr2w {Q : List T → En → Prop} {rs : List Od} {e : En} {i j : Int} (h1 : vals e rs = some [.int i, .int j]) (q : Q (above i (j - i).toNat) e) : KR2w Q rs e := ⟨i, j, h1, q⟩
theorem kzip {Q : List T → En → Prop} {rs : List Od} {e e2 : En} {ts us : List T} (h1 : escs rs e = some ([.list ts, .list us], e2)) (q : Q (pairs ts us) e2) : KZip Q rs e := ⟨ts, us, e2, h1, q⟩
theorem kenu {Q : List T → En → Prop} {rs : List Od} {e e2 : En} {ts : List T} (h1 : escs rs e = some ([.list ts], e2)) (q : Q (enumT ts) e2) : KEnu Q rs e := ⟨ts, e2, h1, q⟩
/-! ### the same, the state written out -/
theorem kseq_nx_n {b : SemS} {Q : Fl → En → Prop} {e e2 : En} (he : e2 = e) (h : W (b e2) Q) : KSeq b Q .nx e := by subst he; exact h
theorem kback_r_n {rs : List Od} {e1 e2 : En} {Q : Od → En → Prop} {t : T} {ss' : En} (he : e2 = wb rs ss' e1) (q : Q (.r t) e2) : KBack rs e1 Q (.r t) ss' := by subst he; exact ⟨fun _ z => (by cases z), q⟩
theorem kback_b_n {rs : List Od} {e1 e2 : En} {Q : Od → En → Prop} {z : Bx} {ss' : En} (he : e2 = wb rs ss' e1) (q : Q (.b z) e2) : KBack rs e1 Q (.b z) ss' := by subst he; exact ⟨fun _ z => (by cases z), q⟩
def KZip2 (Q : List T → En → Prop) : List Od → En → Prop := fun rs e => ∃ ts us e2, (escs rs e = some ([.list ts, .list us], e2) ∨ escs rs e = some ([.tuple ts, .tuple us], e2)) ∧ Q (pairs ts us) e2
theorem w_izip2 {m : SemA} {Q : List T → En → Prop} {e : En} (h : W (m e) (KZip2 Q)) : W (iZip2 m e) Q := w_bind (w_imp h fun rs e1 ⟨ts, us, e2, h1, q⟩ => by
  rcases h1 with h1 | h1 <;> exact ⟨_, _, by simp only [h1], q⟩)
theorem kzip2_l {Q : List T → En → Prop} {rs : List Od} {e e2 : En} {ts us : List T} (h1 : escs rs e = some ([.list ts, .list us], e2)) (q : Q (pairs ts us) e2) : KZip2 Q rs e := ⟨ts, us, e2, .inl h1, q⟩
theorem kzip2_t {Q : List T → En → Prop} {rs : List Od} {e e2 : En} {ts us : List T} (h1 : escs rs e = some ([.tuple ts, .tuple us], e2)) (q : Q (pairs ts us) e2) : KZip2 Q rs e := ⟨ts, us, e2, .inr h1, q⟩
/-! ### a walk over two names -/
def KCompG (g : SemG) (c : SemT) (m : SemE) (vs : List Nat) (Q : Od → En → Prop) : List T × (En → Prop) → En → Prop := fun p e => W (compSG p.2 g c m vs p.1 [] e) Q
theorem w_compG {mi : SemIG} {g : SemG} {c : SemT} {m : SemE} {vs : List Nat} {Q : Od → En → Prop} {e : En} (h : W (mi e) (KCompG g c m vs Q)) : W (eCompG mi g c m vs e) Q := w_bind h
theorem w_izipV_l {i j : Nat} {e : En} {Q : List T × (En → Prop) → En → Prop} {si sj : Sl} {ts us : List T} (h1 : e[i]? = some si) (h2 : e[j]? = some sj) (h3 : seqOf si = some (.inl ts)) (h4 : seqOf sj = some (.inl us)) (q : Q (pairs ts us, fun e' => e'[i]? = some si ∧ e'[j]? = some sj) e) : W (iZipV i j e) Q :=
  ⟨_, _, by unfold iZipV; simp only [h1, h2, h3, h4], q⟩
theorem w_izipV_r {i j : Nat} {e : En} {Q : List T × (En → Prop) → En → Prop} {si sj : Sl} {ts us : List T} (h1 : e[i]? = some si) (h2 : e[j]? = some sj) (h3 : seqOf si = some (.inr ts)) (h4 : seqOf sj = some (.inr us)) (q : Q (pairs ts us, fun e' => e'[i]? = some si ∧ e'[j]? = some sj) e) : W (iZipV i j e) Q :=
  ⟨_, _, by unfold iZipV; simp only [h1, h2, h3, h4], q⟩
theorem compSG_map {α : Type} (inn out : α → T) {gd : En → Prop} {g : SemG} {m : SemE} {vs : List Nat} {e : En} (hgd : gd e) : ∀ (xs : List α) (acc : List T), acc.length + xs.length ≤ sizeLine →
    (∀ x ∈ xs, ∃ e1, g (inn x) (wipeE e vs) = some e1 ∧ W (m e1) (KElt fun u e4 => u = out x ∧ restE e e4 vs = e)) → compSG gd g tTrue m vs (xs.map inn) acc e = .ok (.b (.l (acc ++ xs.map out))) e
  | [], acc, _, _ => by rw [List.map_nil, List.map_nil, List.append_nil]; exact if_pos hgd
  | x :: xs, acc, hl, s => by
    obtain ⟨e1, h1, r, e3, h2, u, e4, h3, h4, h5⟩ := s x List.mem_cons_self
    rw [List.length_cons] at hl
    rw [List.map_cons, compSG, if_pos hgd, h1]
    simp only [h2, h3, Out.nx, Out.bind]
    rw [if_pos trivial, if_pos (by omega), h5, compSG_map inn out hgd xs (acc ++ [u]) (by rw [List.length_append, List.length_singleton]; omega) fun t ht => s t (List.mem_cons_of_mem _ ht), h4, List.map_cons, List.append_assoc]
    rfl
theorem compG_map_w {α : Type} (inn out : α → T) (xs : List α) {gd : En → Prop} {g : SemG} {m : SemE} {vs : List Nat} {Q : Od → En → Prop} {e : En} (hgd : gd e) (hl : xs.length ≤ sizeLine)
    (hs : ∀ x ∈ xs, ∃ e1, g (inn x) (wipeE e vs) = some e1 ∧ W (m e1) (KElt fun u e4 => u = out x ∧ restE e e4 vs = e)) (q : Q (.b (.l (xs.map out))) e) : KCompG g tTrue m vs Q (xs.map inn, gd) e :=
  ⟨_, _, compSG_map inn out hgd xs [] (by rw [List.length_nil]; omega) hs, q⟩
/-! ### texts -/
theorem gStr_ok {i : Int} (h : i.natAbs.log2 < 1920) : gStr [.int i] = some (.r (.str (toString i))) := if_pos h
def KJoin1 (m : SemE) (Q : Od → En → Prop) : Od → En → Prop := fun ro e0 => ∃ sep, ro = .r (.str sep) ∧ W (m e0) fun r e1 => ∃ ts ys, (r.val e1 = some (.list ts) ∨ r.val e1 = some (.tuple ts)) ∧ strsOf ts = some ys ∧ (ys.map (·.length)).sum + ys.length * sep.length ≤ 16777216 ∧ Q (.r (.str (Txt.join sep ys))) e1
def KJoin2 (sep : Str) (Q : Od → En → Prop) : Od → En → Prop := fun r e1 => ∃ ts ys, (r.val e1 = some (.list ts) ∨ r.val e1 = some (.tuple ts)) ∧ strsOf ts = some ys ∧ (ys.map (·.length)).sum + ys.length * sep.length ≤ 16777216 ∧ Q (.r (.str (Txt.join sep ys))) e1
theorem w_join {mo m : SemE} {Q : Od → En → Prop} {e : En} (h : W (mo e) (KJoin1 m Q)) : W (eJoin mo m e) Q :=
  w_bind (w_imp h fun ro e0 ⟨sep, h0, h1⟩ => by
    subst h0
    exact w_bind (w_imp h1 fun r e1 ⟨ts, ys, q1, q2, q3, q⟩ => by
      rcases q1 with q1 | q1 <;> exact ⟨_, _, by simp only [q1, q2]; rw [if_pos q3], q⟩))
theorem kjoin1 {m : SemE} {Q : Od → En → Prop} {sep : Str} {e0 : En} (h : W (m e0) (KJoin2 sep Q)) : KJoin1 m Q (.r (.str sep)) e0 := ⟨sep, rfl, h⟩
theorem kjoin2 {sep : Str} {Q : Od → En → Prop} {r : Od} {e1 : En} {ts : List T} {ys : List Str} (q1 : r.val e1 = some (.list ts)) (q2 : strsOf ts = some ys) (q3 : (ys.map (·.length)).sum + ys.length * sep.length ≤ 16777216) (q : Q (.r (.str (Txt.join sep ys))) e1) : KJoin2 sep Q r e1 := ⟨ts, ys, .inl q1, q2, q3, q⟩
def KFmt (Q : Od → En → Prop) : Od → En → Prop := fun r e1 => (∃ y, r.val e1 = some (.str y) ∧ y.length ≤ sizeLine ∧ Q (.r (.str y)) e1) ∨ ∃ i, r.val e1 = some (.int i) ∧ i.natAbs.log2 < 1920 ∧ Q (.r (.str (toString i))) e1
theorem w_fmt {m : SemE} {Q : Od → En → Prop} {e : En} (h : W (m e) (KFmt Q)) : W (eFmt m e) Q :=
  w_bind (w_imp h fun r e1 h1 => by
    rcases h1 with ⟨y, q1, q2, q⟩ | ⟨i, q1, q2, q⟩
    · exact ⟨_, _, by simp only [q1]; rw [if_pos q2], q⟩
    · exact ⟨_, _, by simp only [q1]; rw [if_pos q2], q⟩)
theorem kfmt_s {Q : Od → En → Prop} {r : Od} {e1 : En} {y : Str} (q1 : r.val e1 = some (.str y)) (q2 : y.length ≤ sizeLine) (q : Q (.r (.str y)) e1) : KFmt Q r e1 := .inl ⟨y, q1, q2, q⟩
theorem kfmt_i {Q : Od → En → Prop} {r : Od} {e1 : En} {i : Int} (q1 : r.val e1 = some (.int i)) (q2 : i.natAbs.log2 < 1920) (q : Q (.r (.str (toString i))) e1) : KFmt Q r e1 := .inr ⟨i, q1, q2, q⟩
theorem w_js_nil {acc : Str} {Q : Od → En → Prop} {e : En} (q : Q (.r (.str acc)) e) : W (eJs [] acc e) Q := ⟨_, _, rfl, q⟩
def KJs (ms : List SemE) (acc : Str) (Q : Od → En → Prop) : Od → En → Prop := fun r e1 => ∃ y, r = .r (.str y) ∧ (acc ++ y).length ≤ sizeLine ∧ W (eJs ms (acc ++ y) e1) Q
theorem w_js {m : SemE} {ms : List SemE} {acc : Str} {Q : Od → En → Prop} {e : En} (h : W (m e) (KJs ms acc Q)) : W (eJs (m :: ms) acc e) Q :=
  w_bind (w_imp h fun r e1 ⟨y, q1, q2, q⟩ => by subst q1; simp only []; rw [if_pos q2]; exact q)
theorem kjs {ms : List SemE} {acc y : Str} {Q : Od → En → Prop} {e1 : En} (q2 : (acc ++ y).length ≤ sizeLine) (q : W (eJs ms (acc ++ y) e1) Q) : KJs ms acc Q (.r (.str y)) e1 := ⟨y, rfl, q2, q⟩
theorem gAdd_ss {x y : Str} (h : x.length + y.length ≤ sizeLine) : gAdd (.str x) (.str y) = some (.r (.str (x ++ y))) := by simp only [gAdd, h, if_true]
theorem w_inmG {i : Nat} {e : En} {Q : List T × (En → Prop) → En → Prop} {si : Sl} {ts : List T} (h1 : e[i]? = some si) (h3 : seqOf si = some (.inl ts)) (q : Q (ts, fun e' => e'[i]? = some si) e) : W (iNmG i e) Q :=
  ⟨_, _, by unfold iNmG; simp only [h1, h3], q⟩
end Wp

set_option Elab.async false
set_option linter.all false
namespace Wp
open PySem PySem.Spec PyProof.Rows L2 Ev
/-! ### texts -/
def KSM1b (f : Str → Str → Option Od) (a : Str) (Q : Od → En → Prop) : Od → En → Prop := fun r e => ∃ b w, r = .r (.str b) ∧ f a b = some w ∧ Q w e
def KSM1 (f : Str → Str → Option Od) (m : SemE) (Q : Od → En → Prop) : Od → En → Prop := fun r e => ∃ a, r = .r (.str a) ∧ W (m e) (KSM1b f a Q)
def KSM0 (f : Str → Option Od) (Q : Od → En → Prop) : Od → En → Prop := fun r e => ∃ a w, r = .r (.str a) ∧ f a = some w ∧ Q w e
theorem ksm1b {f : Str → Str → Option Od} {a b : Str} {Q : Od → En → Prop} {e : En} {w : Od} (h : f a b = some w) (q : Q w e) : KSM1b f a Q (.r (.str b)) e := ⟨b, w, rfl, h, q⟩
theorem ksm1 {f : Str → Str → Option Od} {m : SemE} {a : Str} {Q : Od → En → Prop} {e : En} (h : W (m e) (KSM1b f a Q)) : KSM1 f m Q (.r (.str a)) e := ⟨a, rfl, h⟩
theorem ksm0 {f : Str → Option Od} {a : Str} {Q : Od → En → Prop} {e : En} {w : Od} (h : f a = some w) (q : Q w e) : KSM0 f Q (.r (.str a)) e := ⟨a, w, rfl, h, q⟩
theorem w_sm1 {f : Str → Str → Option Od} {mo m : SemE} {Q : Od → En → Prop} {e : En} (h : W (mo e) (KSM1 f m Q)) : W (eSM1 f mo m e) Q := by
  unfold eSM1
  refine w_bind (w_imp h ?_)
  rintro _ e1 ⟨a, rfl, h2⟩
  refine w_bind (w_imp h2 ?_)
  rintro _ e2 ⟨b, w, rfl, h3, q⟩
  exact w_of (by simp only [h3]) q
theorem w_sm0 {f : Str → Option Od} {mo : SemE} {Q : Od → En → Prop} {e : En} (h : W (mo e) (KSM0 f Q)) : W (eSM0 f mo e) Q := by
  unfold eSM0
  refine w_bind (w_imp h ?_)
  rintro _ e1 ⟨a, w, rfl, h3, q⟩
  exact w_of (by simp only [h3]) q
def KSlS2 (z : Str) (l : Option Int) (Q : Od → En → Prop) : Option Int → En → Prop := fun h e => z.length ≤ sizeLine ∧ Q (.r (.str (cutS z l h))) e
def KSlS1 (z : Str) (hi : SemP) (Q : Od → En → Prop) : Option Int → En → Prop := fun l e => W (hi e) (KSlS2 z l Q)
def KSlS (lo hi : SemP) (Q : Od → En → Prop) : Od → En → Prop := fun r e => ∃ z, r = .r (.str z) ∧ W (lo e) (KSlS1 z hi Q)
theorem ksls3 {z : Str} {l h : Option Int} {Q : Od → En → Prop} {e : En} (hz : z.length ≤ sizeLine) (q : Q (.r (.str (cutS z l h))) e) : KSlS2 z l Q h e := ⟨hz, q⟩
theorem ksls2 {z : Str} {hi : SemP} {l : Option Int} {Q : Od → En → Prop} {e : En} (h : W (hi e) (KSlS2 z l Q)) : KSlS1 z hi Q l e := h
theorem ksls1 {z : Str} {lo hi : SemP} {Q : Od → En → Prop} {e : En} (h : W (lo e) (KSlS1 z hi Q)) : KSlS lo hi Q (.r (.str z)) e := ⟨z, rfl, h⟩
theorem w_slS {m : SemE} {lo hi : SemP} {Q : Od → En → Prop} {e : En} (h : W (m e) (KSlS lo hi Q)) : W (eSlS m lo hi e) Q := by
  unfold eSlS
  refine w_bind (w_imp h ?_)
  rintro _ e1 ⟨z, rfl, h2⟩
  refine w_bind (w_imp h2 ?_)
  intro l e2 h3
  refine w_bind (w_imp h3 ?_)
  intro u e3 ⟨hz, q⟩
  exact w_of (if_pos hz) q
end Wp

set_option linter.all false
namespace Mt
abbrev Pt := Int × Int × Nat
def part (ks : List (List Pt)) (k j : Nat) : Pt := (((ks[k]?).getD [])[j]?).getD (0, 0, 0)
structure Good (B : Nat) (ks : List (List Pt)) : Prop where
  hb : B = 2 ∨ B = 3
  pos : 0 < ks.length
  few : ks.length ≤ 20
  len : ∀ ps ∈ ks, ps.length = B * B
  rng : ∀ ps ∈ ks, ∀ p ∈ ps, (0 ≤ p.1 ∧ p.1 < (B : Int)) ∧ (0 ≤ p.2.1 ∧ p.2.1 < (B : Int)) ∧ p.2.2 < ks.length
  nod : ∀ ps ∈ ks, (ps.map fun p => (p.1, p.2.1)).Nodup
theorem Good.row {B : Nat} {ks : List (List Pt)} (g : Good B ks) {k : Nat} (hk : k < ks.length) : ∃ ps, ks[k]? = some ps ∧ ps ∈ ks ∧ ps.length = B * B :=
  ⟨ks[k], List.getElem?_eq_getElem hk, List.getElem_mem hk, g.len _ (List.getElem_mem hk)⟩
theorem Good.at_ {B : Nat} {ks : List (List Pt)} (g : Good B ks) {k j : Nat} (hk : k < ks.length) (hj : j < B * B) : ∃ ps, ks[k]? = some ps ∧ ps[j]? = some (part ks k j) ∧ part ks k j ∈ ps ∧ ps ∈ ks := by
  obtain ⟨ps, h1, h2, h3⟩ := g.row hk
  have h4 : ps[j]? = some (ps[j]'(by omega)) := List.getElem?_eq_getElem (by omega)
  have h5 : part ks k j = ps[j]'(by omega) := by unfold part; rw [h1, Option.getD_some, h4, Option.getD_some]
  exact ⟨ps, h1, by rw [h5]; exact h4, by rw [h5]; exact List.getElem_mem _, h2⟩
/-- figures, the greatest first -/
def digs (N n : Nat) : Nat → List Nat
  | 0 => []
  | d + 1 => (n / N ^ d % N) :: digs N n d
abbrev S3 := Nat × Int × Int
def stp (B : Nat) (ks : List (List Pt)) (s : S3) (j : Nat) : S3 := ((part ks s.1 j).2.2, s.2.1 * (B : Int) + (part ks s.1 j).1, s.2.2 * (B : Int) + (part ks s.1 j).2.1)
def run (B : Nat) (ks : List (List Pt)) (s : S3) (ds : List Nat) : S3 := ds.foldl (stp B ks) s
/-- the cell of a number -/
def cellF (B : Nat) (ks : List (List Pt)) (k d n : Nat) : Int × Int := (run B ks (k, 0, 0) (digs (B * B) n d)).2
def mv (B d : Nat) (p : Pt) (c : Int × Int) : Int × Int := (p.1 * (B : Int) ^ d + c.1, p.2.1 * (B : Int) ^ d + c.2)
end Mt

set_option linter.all false
namespace Mt
/-! ### from the cell back to the number -/
/-- a number of figures -/
def num (N : Nat) (ds : List Nat) : Nat := ds.foldl (fun a j => a * N + j) 0
/-! ### a book begun elsewhere -/
end Mt
namespace Mt
end Mt

set_option linter.all false
namespace Mt
/-! ### postures, and backward, at all depths -/
def qz1 (w : Int) (c : Int × Int) : Int × Int := (w - 1 - c.2, c.1)
def qz (w : Int) (way mir : Nat) (c : Int × Int) : Int × Int :=
  let d := (match way with | 0 => c | 1 => qz1 w c | 2 => qz1 w (qz1 w c) | _ => qz1 w (qz1 w (qz1 w c)))
  match mir with | 0 => d | _ => (d.2, d.1)
/-! #### backward -/
end Mt

set_option linter.all false
namespace Mt
/-! ### threads that are the same at all depths -/
theorem Good.B0 {B : Nat} {ks : List (List Pt)} (g : Good B ks) : 0 < B := by rcases g.hb with h | h <;> omega
theorem Good.N0 {B : Nat} {ks : List (List Pt)} (g : Good B ks) : 0 < B * B := Nat.mul_pos g.B0 g.B0
/-! ### postures of a thread -/
def rvn (N b d n : Nat) : Nat := if b = 1 then N ^ d - 1 - n else n
/-- the thread of kind 0 is the same in a posture, gone so -/
def Pos (B : Nat) (ks : List (List Pt)) (p : Nat × Nat) (b : Nat) : Prop := ∀ d n, n < (B * B) ^ d → qz ((B : Int) ^ d) p.1 p.2 (cellF B ks 0 d (rvn (B * B) b d n)) = cellF B ks 0 d n
end Mt

set_option linter.all false
set_option maxRecDepth 100000
set_option maxHeartbeats 4000000
namespace Lw
open PySem PySem.Spec Ev Pu Mt Wp
def isW : T → Bool
  | .int _ => true
  | _ => false
def isC : T → Bool
  | .int i => decide (0 ≤ i)
  | _ => false
def isI (n : Int) : T → Bool
  | .int i => decide (0 ≤ i ∧ i < n)
  | _ => false
theorem is_whole_ok (t : T) : m_is_whole [.v t] = .ok (.r (.bool (isW t))) [.v t] := by
  cases t <;> rfl
theorem is_count_ok (t : T) : m_is_count [.v t] = .ok (.r (.bool (isC t))) [.v t] := by
  cases t with
  | int i => simp only [m_is_count, b_is_count, is_whole_ok, eMLenE, eRep, eDLen, eNNew, eNLen, eListRng, gMax1, gSum, eMIn, eMInE, sMPut, eMNew, eMDict1, eMLen, eListZip, Option.isSome_none, Option.isSome_some, eMut, gAppend, gInsert, eRev, eIndex, eLenSet, gInt, gLen, gTuple, gList, gAbs, gMax2, gMin2, gDivmod, gEq_int, runFn, sSeq, sIf, sSet, sSetIx, sRet, sRetN, sNil, sDrop, sAsg, sFor, sPar, sNever, setO, retO, setOs, presc, eVar, eK, eTwo, v2, eFn, eDisp, eTup, eLst, eCall, eCallR, eCallK, pick, toSl, toSls, sIdx, wb, bk, esc, escs, vals, aNil, aCons, tb, Ev.tNot, Ev.tAnd, Ev.tOr, gGt, gLt, gGe, gLe, gSub, gMod, gDiv, gPow, gAdd, gMul, gInt, mulOk, g1, g2, fInt, fLen, fTuple, fList, fAbs, eAnd, eOr, eNot, eIf, eNeg, eIsi, gII, gIx, gIsN, gN, gT, gsNil, gsCons, isLent_eq, lentO, lentS_v, lentS_un, lentS_f, lentS_t, lentS_z, finE, okArg, Out.bind, Od.val, slVal, Bx.tr, Bx.t, isN, L2.ixN, L2.atI, isInt, isBool, isTuple, isList, isStr, isDict, isTL, Nat.zero_le, id_eq, eq_self, Pu.c0, Pu.c1, Pu.c2, Pu.c3, Pu.c4, Pu.c5, Pu.c6, Pu.c7, Pu.c8, Pu.c9, Pu.s1, Pu.s2, Pu.s3, Pu.s4, Pu.s5, Pu.s6, Pu.s7, Pu.s8, Pu.s9, Int.reduceEq, Nat.reduceMul, Int.ofNat_eq_natCast, wipeE, restE, exists_eq_left', Option.some.injEq, Out.ok.injEq, Prod.mk.injEq, Option.bind_some, Option.bind_none, Option.bind_eq_bind, List.getElem?_cons_zero, List.getElem?_cons_succ, List.getElem?_nil, List.set_cons_zero, List.set_cons_succ, List.set_nil, List.length_cons, List.length_nil, List.replicate_succ, List.replicate_zero, List.cons_append, List.nil_append, List.append_nil, List.all_cons, List.all_nil, Bool.and_true, Bool.true_and, Bool.and_false, Bool.false_and, if_true, if_false, ite_true, ite_false, List.nodup_cons, List.nodup_nil, List.not_mem_nil, List.mem_cons, not_false_eq_true, and_true, true_and, reduceIte, Nat.reduceAdd, Nat.reduceSub, Nat.reduceEqDiff, Nat.reduceLT, Nat.reduceLeDiff, Option.map_some, Option.map_none, Option.getD_some, reduceCtorEq, or_self, or_false, false_or, not_true_eq_false, decide_true, decide_false, Bool.not_true, Bool.not_false, Bool.false_eq_true, Nat.zero_add, Nat.add_zero, forall_const, Int.reduceLT, Int.reduceLE, Int.reduceNeg, Int.reduceToNat, Int.toNat_natCast, and_self, isW, isC]
  | _ => simp only [m_is_count, b_is_count, is_whole_ok, eMLenE, eRep, eDLen, eNNew, eNLen, eListRng, gMax1, gSum, eMIn, eMInE, sMPut, eMNew, eMDict1, eMLen, eListZip, Option.isSome_none, Option.isSome_some, eMut, gAppend, gInsert, eRev, eIndex, eLenSet, gInt, gLen, gTuple, gList, gAbs, gMax2, gMin2, gDivmod, gEq_int, runFn, sSeq, sIf, sSet, sSetIx, sRet, sRetN, sNil, sDrop, sAsg, sFor, sPar, sNever, setO, retO, setOs, presc, eVar, eK, eTwo, v2, eFn, eDisp, eTup, eLst, eCall, eCallR, eCallK, pick, toSl, toSls, sIdx, wb, bk, esc, escs, vals, aNil, aCons, tb, Ev.tNot, Ev.tAnd, Ev.tOr, gGt, gLt, gGe, gLe, gSub, gMod, gDiv, gPow, gAdd, gMul, gInt, mulOk, g1, g2, fInt, fLen, fTuple, fList, fAbs, eAnd, eOr, eNot, eIf, eNeg, eIsi, gII, gIx, gIsN, gN, gT, gsNil, gsCons, isLent_eq, lentO, lentS_v, lentS_un, lentS_f, lentS_t, lentS_z, finE, okArg, Out.bind, Od.val, slVal, Bx.tr, Bx.t, isN, L2.ixN, L2.atI, isInt, isBool, isTuple, isList, isStr, isDict, isTL, Nat.zero_le, id_eq, eq_self, Pu.c0, Pu.c1, Pu.c2, Pu.c3, Pu.c4, Pu.c5, Pu.c6, Pu.c7, Pu.c8, Pu.c9, Pu.s1, Pu.s2, Pu.s3, Pu.s4, Pu.s5, Pu.s6, Pu.s7, Pu.s8, Pu.s9, Int.reduceEq, Nat.reduceMul, Int.ofNat_eq_natCast, wipeE, restE, exists_eq_left', Option.some.injEq, Out.ok.injEq, Prod.mk.injEq, Option.bind_some, Option.bind_none, Option.bind_eq_bind, List.getElem?_cons_zero, List.getElem?_cons_succ, List.getElem?_nil, List.set_cons_zero, List.set_cons_succ, List.set_nil, List.length_cons, List.length_nil, List.replicate_succ, List.replicate_zero, List.cons_append, List.nil_append, List.append_nil, List.all_cons, List.all_nil, Bool.and_true, Bool.true_and, Bool.and_false, Bool.false_and, if_true, if_false, ite_true, ite_false, List.nodup_cons, List.nodup_nil, List.not_mem_nil, List.mem_cons, not_false_eq_true, and_true, true_and, reduceIte, Nat.reduceAdd, Nat.reduceSub, Nat.reduceEqDiff, Nat.reduceLT, Nat.reduceLeDiff, Option.map_some, Option.map_none, Option.getD_some, reduceCtorEq, or_self, or_false, false_or, not_true_eq_false, decide_true, decide_false, Bool.not_true, Bool.not_false, Bool.false_eq_true, Nat.zero_add, Nat.add_zero, forall_const, Int.reduceLT, Int.reduceLE, Int.reduceNeg, Int.reduceToNat, Int.toNat_natCast, and_self, isW, isC]
theorem is_index_ok (t : T) (n : Int) : m_is_index [.v t, .v (.int n)] = .ok (.r (.bool (isI n t))) [.v t, .v (.int n)] := by
  cases t with
  | int i => 
    by_cases h : 0 ≤ i
    · simp only [m_is_index, b_is_index, is_count_ok, eMLenE, eRep, eDLen, eNNew, eNLen, eListRng, gMax1, gSum, eMIn, eMInE, sMPut, eMNew, eMDict1, eMLen, eListZip, Option.isSome_none, Option.isSome_some, eMut, gAppend, gInsert, eRev, eIndex, eLenSet, gInt, gLen, gTuple, gList, gAbs, gMax2, gMin2, gDivmod, gEq_int, runFn, sSeq, sIf, sSet, sSetIx, sRet, sRetN, sNil, sDrop, sAsg, sFor, sPar, sNever, setO, retO, setOs, presc, eVar, eK, eTwo, v2, eFn, eDisp, eTup, eLst, eCall, eCallR, eCallK, pick, toSl, toSls, sIdx, wb, bk, esc, escs, vals, aNil, aCons, tb, Ev.tNot, Ev.tAnd, Ev.tOr, gGt, gLt, gGe, gLe, gSub, gMod, gDiv, gPow, gAdd, gMul, gInt, mulOk, g1, g2, fInt, fLen, fTuple, fList, fAbs, eAnd, eOr, eNot, eIf, eNeg, eIsi, gII, gIx, gIsN, gN, gT, gsNil, gsCons, isLent_eq, lentO, lentS_v, lentS_un, lentS_f, lentS_t, lentS_z, finE, okArg, Out.bind, Od.val, slVal, Bx.tr, Bx.t, isN, L2.ixN, L2.atI, isInt, isBool, isTuple, isList, isStr, isDict, isTL, Nat.zero_le, id_eq, eq_self, Pu.c0, Pu.c1, Pu.c2, Pu.c3, Pu.c4, Pu.c5, Pu.c6, Pu.c7, Pu.c8, Pu.c9, Pu.s1, Pu.s2, Pu.s3, Pu.s4, Pu.s5, Pu.s6, Pu.s7, Pu.s8, Pu.s9, Int.reduceEq, Nat.reduceMul, Int.ofNat_eq_natCast, wipeE, restE, exists_eq_left', Option.some.injEq, Out.ok.injEq, Prod.mk.injEq, Option.bind_some, Option.bind_none, Option.bind_eq_bind, List.getElem?_cons_zero, List.getElem?_cons_succ, List.getElem?_nil, List.set_cons_zero, List.set_cons_succ, List.set_nil, List.length_cons, List.length_nil, List.replicate_succ, List.replicate_zero, List.cons_append, List.nil_append, List.append_nil, List.all_cons, List.all_nil, Bool.and_true, Bool.true_and, Bool.and_false, Bool.false_and, if_true, if_false, ite_true, ite_false, List.nodup_cons, List.nodup_nil, List.not_mem_nil, List.mem_cons, not_false_eq_true, and_true, true_and, reduceIte, Nat.reduceAdd, Nat.reduceSub, Nat.reduceEqDiff, Nat.reduceLT, Nat.reduceLeDiff, Option.map_some, Option.map_none, Option.getD_some, reduceCtorEq, or_self, or_false, false_or, not_true_eq_false, decide_true, decide_false, Bool.not_true, Bool.not_false, Bool.false_eq_true, Nat.zero_add, Nat.add_zero, forall_const, Int.reduceLT, Int.reduceLE, Int.reduceNeg, Int.reduceToNat, Int.toNat_natCast, and_self, isC, isI, h]
    · simp only [m_is_index, b_is_index, is_count_ok, eMLenE, eRep, eDLen, eNNew, eNLen, eListRng, gMax1, gSum, eMIn, eMInE, sMPut, eMNew, eMDict1, eMLen, eListZip, Option.isSome_none, Option.isSome_some, eMut, gAppend, gInsert, eRev, eIndex, eLenSet, gInt, gLen, gTuple, gList, gAbs, gMax2, gMin2, gDivmod, gEq_int, runFn, sSeq, sIf, sSet, sSetIx, sRet, sRetN, sNil, sDrop, sAsg, sFor, sPar, sNever, setO, retO, setOs, presc, eVar, eK, eTwo, v2, eFn, eDisp, eTup, eLst, eCall, eCallR, eCallK, pick, toSl, toSls, sIdx, wb, bk, esc, escs, vals, aNil, aCons, tb, Ev.tNot, Ev.tAnd, Ev.tOr, gGt, gLt, gGe, gLe, gSub, gMod, gDiv, gPow, gAdd, gMul, gInt, mulOk, g1, g2, fInt, fLen, fTuple, fList, fAbs, eAnd, eOr, eNot, eIf, eNeg, eIsi, gII, gIx, gIsN, gN, gT, gsNil, gsCons, isLent_eq, lentO, lentS_v, lentS_un, lentS_f, lentS_t, lentS_z, finE, okArg, Out.bind, Od.val, slVal, Bx.tr, Bx.t, isN, L2.ixN, L2.atI, isInt, isBool, isTuple, isList, isStr, isDict, isTL, Nat.zero_le, id_eq, eq_self, Pu.c0, Pu.c1, Pu.c2, Pu.c3, Pu.c4, Pu.c5, Pu.c6, Pu.c7, Pu.c8, Pu.c9, Pu.s1, Pu.s2, Pu.s3, Pu.s4, Pu.s5, Pu.s6, Pu.s7, Pu.s8, Pu.s9, Int.reduceEq, Nat.reduceMul, Int.ofNat_eq_natCast, wipeE, restE, exists_eq_left', Option.some.injEq, Out.ok.injEq, Prod.mk.injEq, Option.bind_some, Option.bind_none, Option.bind_eq_bind, List.getElem?_cons_zero, List.getElem?_cons_succ, List.getElem?_nil, List.set_cons_zero, List.set_cons_succ, List.set_nil, List.length_cons, List.length_nil, List.replicate_succ, List.replicate_zero, List.cons_append, List.nil_append, List.append_nil, List.all_cons, List.all_nil, Bool.and_true, Bool.true_and, Bool.and_false, Bool.false_and, if_true, if_false, ite_true, ite_false, List.nodup_cons, List.nodup_nil, List.not_mem_nil, List.mem_cons, not_false_eq_true, and_true, true_and, reduceIte, Nat.reduceAdd, Nat.reduceSub, Nat.reduceEqDiff, Nat.reduceLT, Nat.reduceLeDiff, Option.map_some, Option.map_none, Option.getD_some, reduceCtorEq, or_self, or_false, false_or, not_true_eq_false, decide_true, decide_false, Bool.not_true, Bool.not_false, Bool.false_eq_true, Nat.zero_add, Nat.add_zero, forall_const, Int.reduceLT, Int.reduceLE, Int.reduceNeg, Int.reduceToNat, Int.toNat_natCast, and_self, isC, isI, h, false_and]
  | _ => simp only [m_is_index, b_is_index, is_count_ok, eMLenE, eRep, eDLen, eNNew, eNLen, eListRng, gMax1, gSum, eMIn, eMInE, sMPut, eMNew, eMDict1, eMLen, eListZip, Option.isSome_none, Option.isSome_some, eMut, gAppend, gInsert, eRev, eIndex, eLenSet, gInt, gLen, gTuple, gList, gAbs, gMax2, gMin2, gDivmod, gEq_int, runFn, sSeq, sIf, sSet, sSetIx, sRet, sRetN, sNil, sDrop, sAsg, sFor, sPar, sNever, setO, retO, setOs, presc, eVar, eK, eTwo, v2, eFn, eDisp, eTup, eLst, eCall, eCallR, eCallK, pick, toSl, toSls, sIdx, wb, bk, esc, escs, vals, aNil, aCons, tb, Ev.tNot, Ev.tAnd, Ev.tOr, gGt, gLt, gGe, gLe, gSub, gMod, gDiv, gPow, gAdd, gMul, gInt, mulOk, g1, g2, fInt, fLen, fTuple, fList, fAbs, eAnd, eOr, eNot, eIf, eNeg, eIsi, gII, gIx, gIsN, gN, gT, gsNil, gsCons, isLent_eq, lentO, lentS_v, lentS_un, lentS_f, lentS_t, lentS_z, finE, okArg, Out.bind, Od.val, slVal, Bx.tr, Bx.t, isN, L2.ixN, L2.atI, isInt, isBool, isTuple, isList, isStr, isDict, isTL, Nat.zero_le, id_eq, eq_self, Pu.c0, Pu.c1, Pu.c2, Pu.c3, Pu.c4, Pu.c5, Pu.c6, Pu.c7, Pu.c8, Pu.c9, Pu.s1, Pu.s2, Pu.s3, Pu.s4, Pu.s5, Pu.s6, Pu.s7, Pu.s8, Pu.s9, Int.reduceEq, Nat.reduceMul, Int.ofNat_eq_natCast, wipeE, restE, exists_eq_left', Option.some.injEq, Out.ok.injEq, Prod.mk.injEq, Option.bind_some, Option.bind_none, Option.bind_eq_bind, List.getElem?_cons_zero, List.getElem?_cons_succ, List.getElem?_nil, List.set_cons_zero, List.set_cons_succ, List.set_nil, List.length_cons, List.length_nil, List.replicate_succ, List.replicate_zero, List.cons_append, List.nil_append, List.append_nil, List.all_cons, List.all_nil, Bool.and_true, Bool.true_and, Bool.and_false, Bool.false_and, if_true, if_false, ite_true, ite_false, List.nodup_cons, List.nodup_nil, List.not_mem_nil, List.mem_cons, not_false_eq_true, and_true, true_and, reduceIte, Nat.reduceAdd, Nat.reduceSub, Nat.reduceEqDiff, Nat.reduceLT, Nat.reduceLeDiff, Option.map_some, Option.map_none, Option.getD_some, reduceCtorEq, or_self, or_false, false_or, not_true_eq_false, decide_true, decide_false, Bool.not_true, Bool.not_false, Bool.false_eq_true, Nat.zero_add, Nat.add_zero, forall_const, Int.reduceLT, Int.reduceLE, Int.reduceNeg, Int.reduceToNat, Int.toNat_natCast, and_self, isC, isI]
def isP (b n : Int) : T → Bool
  | .tuple [x, y, k] => isI b x && (isI b y && isI n k)
  | _ => false
theorem is_part_ok (b n : Int) (t : T) : m__is_part [.v (.int b), .v (.int n), .v t] = .ok (.r (.bool (isP b n t))) [.v (.int b), .v (.int n), .v t] := by
  cases t with
  | tuple ts =>
    match ts with
    | [x, y, k] =>
      cases hx : isI b x <;> cases hy : isI b y <;> simp only [m__is_part, b__is_part, is_index_ok, eMLenE, eRep, eDLen, eNNew, eNLen, eListRng, gMax1, gSum, eMIn, eMInE, sMPut, eMNew, eMDict1, eMLen, eListZip, Option.isSome_none, Option.isSome_some, eMut, gAppend, gInsert, eRev, eIndex, eLenSet, gInt, gLen, gTuple, gList, gAbs, gMax2, gMin2, gDivmod, gEq_int, runFn, sSeq, sIf, sSet, sSetIx, sRet, sRetN, sNil, sDrop, sAsg, sFor, sPar, sNever, setO, retO, setOs, presc, eVar, eK, eTwo, v2, eFn, eDisp, eTup, eLst, eCall, eCallR, eCallK, pick, toSl, toSls, sIdx, wb, bk, esc, escs, vals, aNil, aCons, tb, Ev.tNot, Ev.tAnd, Ev.tOr, gGt, gLt, gGe, gLe, gSub, gMod, gDiv, gPow, gAdd, gMul, gInt, mulOk, g1, g2, fInt, fLen, fTuple, fList, fAbs, eAnd, eOr, eNot, eIf, eNeg, eIsi, gII, gIx, gIsN, gN, gT, gsNil, gsCons, isLent_eq, lentO, lentS_v, lentS_un, lentS_f, lentS_t, lentS_z, finE, okArg, Out.bind, Od.val, slVal, Bx.tr, Bx.t, isN, L2.ixN, L2.atI, isInt, isBool, isTuple, isList, isStr, isDict, isTL, Nat.zero_le, id_eq, eq_self, Pu.c0, Pu.c1, Pu.c2, Pu.c3, Pu.c4, Pu.c5, Pu.c6, Pu.c7, Pu.c8, Pu.c9, Pu.s1, Pu.s2, Pu.s3, Pu.s4, Pu.s5, Pu.s6, Pu.s7, Pu.s8, Pu.s9, Int.reduceEq, Nat.reduceMul, Int.ofNat_eq_natCast, wipeE, restE, exists_eq_left', Option.some.injEq, Out.ok.injEq, Prod.mk.injEq, Option.bind_some, Option.bind_none, Option.bind_eq_bind, List.getElem?_cons_zero, List.getElem?_cons_succ, List.getElem?_nil, List.set_cons_zero, List.set_cons_succ, List.set_nil, List.length_cons, List.length_nil, List.replicate_succ, List.replicate_zero, List.cons_append, List.nil_append, List.append_nil, List.all_cons, List.all_nil, Bool.and_true, Bool.true_and, Bool.and_false, Bool.false_and, if_true, if_false, ite_true, ite_false, List.nodup_cons, List.nodup_nil, List.not_mem_nil, List.mem_cons, not_false_eq_true, and_true, true_and, reduceIte, Nat.reduceAdd, Nat.reduceSub, Nat.reduceEqDiff, Nat.reduceLT, Nat.reduceLeDiff, Option.map_some, Option.map_none, Option.getD_some, reduceCtorEq, or_self, or_false, false_or, not_true_eq_false, decide_true, decide_false, Bool.not_true, Bool.not_false, Bool.false_eq_true, Nat.zero_add, Nat.add_zero, forall_const, Int.reduceLT, Int.reduceLE, Int.reduceNeg, Int.reduceToNat, Int.toNat_natCast, and_self, isP, hx, hy]
    | [] => rfl
    | [_] => rfl
    | [_, _] => rfl
    | x :: y :: k :: z :: ts =>
      have h : decide (((ts.length + 1 + 1 + 1 + 1 : Nat) : Int) = 3) = false := by simp; omega
      simp only [m__is_part, b__is_part, is_index_ok, eMLenE, eRep, eDLen, eNNew, eNLen, eListRng, gMax1, gSum, eMIn, eMInE, sMPut, eMNew, eMDict1, eMLen, eListZip, Option.isSome_none, Option.isSome_some, eMut, gAppend, gInsert, eRev, eIndex, eLenSet, gInt, gLen, gTuple, gList, gAbs, gMax2, gMin2, gDivmod, gEq_int, runFn, sSeq, sIf, sSet, sSetIx, sRet, sRetN, sNil, sDrop, sAsg, sFor, sPar, sNever, setO, retO, setOs, presc, eVar, eK, eTwo, v2, eFn, eDisp, eTup, eLst, eCall, eCallR, eCallK, pick, toSl, toSls, sIdx, wb, bk, esc, escs, vals, aNil, aCons, tb, Ev.tNot, Ev.tAnd, Ev.tOr, gGt, gLt, gGe, gLe, gSub, gMod, gDiv, gPow, gAdd, gMul, gInt, mulOk, g1, g2, fInt, fLen, fTuple, fList, fAbs, eAnd, eOr, eNot, eIf, eNeg, eIsi, gII, gIx, gIsN, gN, gT, gsNil, gsCons, isLent_eq, lentO, lentS_v, lentS_un, lentS_f, lentS_t, lentS_z, finE, okArg, Out.bind, Od.val, slVal, Bx.tr, Bx.t, isN, L2.ixN, L2.atI, isInt, isBool, isTuple, isList, isStr, isDict, isTL, Nat.zero_le, id_eq, eq_self, Pu.c0, Pu.c1, Pu.c2, Pu.c3, Pu.c4, Pu.c5, Pu.c6, Pu.c7, Pu.c8, Pu.c9, Pu.s1, Pu.s2, Pu.s3, Pu.s4, Pu.s5, Pu.s6, Pu.s7, Pu.s8, Pu.s9, Int.reduceEq, Nat.reduceMul, Int.ofNat_eq_natCast, wipeE, restE, exists_eq_left', Option.some.injEq, Out.ok.injEq, Prod.mk.injEq, Option.bind_some, Option.bind_none, Option.bind_eq_bind, List.getElem?_cons_zero, List.getElem?_cons_succ, List.getElem?_nil, List.set_cons_zero, List.set_cons_succ, List.set_nil, List.length_cons, List.length_nil, List.replicate_succ, List.replicate_zero, List.cons_append, List.nil_append, List.append_nil, List.all_cons, List.all_nil, Bool.and_true, Bool.true_and, Bool.and_false, Bool.false_and, if_true, if_false, ite_true, ite_false, List.nodup_cons, List.nodup_nil, List.not_mem_nil, List.mem_cons, not_false_eq_true, and_true, true_and, reduceIte, Nat.reduceAdd, Nat.reduceSub, Nat.reduceEqDiff, Nat.reduceLT, Nat.reduceLeDiff, Option.map_some, Option.map_none, Option.getD_some, reduceCtorEq, or_self, or_false, false_or, not_true_eq_false, decide_true, decide_false, Bool.not_true, Bool.not_false, Bool.false_eq_true, Nat.zero_add, Nat.add_zero, forall_const, Int.reduceLT, Int.reduceLE, Int.reduceNeg, Int.reduceToNat, Int.toNat_natCast, and_self, isP, h]
  | _ => rfl
theorem isP_form {b n : Int} {t : T} (h : isP b n t = true) : ∃ x y k : Int, t = .tuple [.int x, .int y, .int k] ∧ (0 ≤ x ∧ x < b) ∧ (0 ≤ y ∧ y < b) ∧ 0 ≤ k ∧ k < n := by
  unfold isP at h
  split at h
  · rename_i x y k
    rw [Bool.and_eq_true, Bool.and_eq_true] at h
    obtain ⟨h1, h2, h3⟩ := h
    cases x <;> simp only [isI, Bool.false_eq_true] at h1
    cases y <;> simp only [isI, Bool.false_eq_true] at h2
    cases k <;> simp only [isI, Bool.false_eq_true] at h3
    exact ⟨_, _, _, rfl, of_decide_eq_true h1, of_decide_eq_true h2, of_decide_eq_true h3⟩
  · cases h
/-- places of parts -/
def pl : T → T
  | .tuple (x :: y :: _) => .tuple [x, y]
  | t => t
theorem places_x (ts : List T) (hl : ts.length ≤ sizeLine) (h : ∀ t ∈ ts, ∃ x y k, t = .tuple [x, y, k]) : x1_places_of [.v (.tuple ts), .un] = .ok (.b (.l (ts.map pl))) [.v (.tuple ts), .un] := by
  refine comp_map pl ts [] [.v (.tuple ts), .un] (by simpa using hl) fun t ht => ?_
  obtain ⟨x, y, k, rfl⟩ := h t ht
  exact ⟨_, rfl, _, rfl, _, _, rfl, _, rfl, rfl⟩
theorem places_ok (ts : List T) (hl : ts.length ≤ sizeLine) (h : ∀ t ∈ ts, ∃ x y k, t = .tuple [x, y, k]) : m_places_of [.v (.tuple ts)] = .ok (.b (.l (ts.map pl))) [.v (.tuple ts)] := by
  simp only [m_places_of, b_places_of, places_x ts hl h, eMLenE, eRep, eDLen, eNNew, eNLen, eListRng, gMax1, gSum, eMIn, eMInE, sMPut, eMNew, eMDict1, eMLen, eListZip, Option.isSome_none, Option.isSome_some, eMut, gAppend, gInsert, eRev, eIndex, eLenSet, gInt, gLen, gTuple, gList, gAbs, gMax2, gMin2, gDivmod, gEq_int, runFn, sSeq, sIf, sSet, sSetIx, sRet, sRetN, sNil, sDrop, sAsg, sFor, sPar, sNever, setO, retO, setOs, presc, eVar, eK, eTwo, v2, eFn, eDisp, eTup, eLst, eCall, eCallR, eCallK, pick, toSl, toSls, sIdx, wb, bk, esc, escs, vals, aNil, aCons, tb, Ev.tNot, Ev.tAnd, Ev.tOr, gGt, gLt, gGe, gLe, gSub, gMod, gDiv, gPow, gAdd, gMul, gInt, mulOk, g1, g2, fInt, fLen, fTuple, fList, fAbs, eAnd, eOr, eNot, eIf, eNeg, eIsi, gII, gIx, gIsN, gN, gT, gsNil, gsCons, isLent_eq, lentO, lentS_v, lentS_un, lentS_f, lentS_t, lentS_z, finE, okArg, Out.bind, Od.val, slVal, Bx.tr, Bx.t, isN, L2.ixN, L2.atI, isInt, isBool, isTuple, isList, isStr, isDict, isTL, Nat.zero_le, id_eq, eq_self, Pu.c0, Pu.c1, Pu.c2, Pu.c3, Pu.c4, Pu.c5, Pu.c6, Pu.c7, Pu.c8, Pu.c9, Pu.s1, Pu.s2, Pu.s3, Pu.s4, Pu.s5, Pu.s6, Pu.s7, Pu.s8, Pu.s9, Int.reduceEq, Nat.reduceMul, Int.ofNat_eq_natCast, wipeE, restE, exists_eq_left', Option.some.injEq, Out.ok.injEq, Prod.mk.injEq, Option.bind_some, Option.bind_none, Option.bind_eq_bind, List.getElem?_cons_zero, List.getElem?_cons_succ, List.getElem?_nil, List.set_cons_zero, List.set_cons_succ, List.set_nil, List.length_cons, List.length_nil, List.replicate_succ, List.replicate_zero, List.cons_append, List.nil_append, List.append_nil, List.all_cons, List.all_nil, Bool.and_true, Bool.true_and, Bool.and_false, Bool.false_and, if_true, if_false, ite_true, ite_false, List.nodup_cons, List.nodup_nil, List.not_mem_nil, List.mem_cons, not_false_eq_true, and_true, true_and, reduceIte, Nat.reduceAdd, Nat.reduceSub, Nat.reduceEqDiff, Nat.reduceLT, Nat.reduceLeDiff, Option.map_some, Option.map_none, Option.getD_some, reduceCtorEq, or_self, or_false, false_or, not_true_eq_false, decide_true, decide_false, Bool.not_true, Bool.not_false, Bool.false_eq_true, Nat.zero_add, Nat.add_zero, forall_const, Int.reduceLT, Int.reduceLE, Int.reduceNeg, Int.reduceToNat, Int.toNat_natCast, and_self]
theorem kind_x (b n : Int) (ts : List T) (hl : ts.length ≤ sizeLine) : x1__is_kind [.v (.int b), .v (.int n), .v (.tuple ts), .un] = .ok (.b (.l ((ts.map (isP b n)).map .bool))) [.v (.int b), .v (.int n), .v (.tuple ts), .un] := by
  rw [List.map_map]
  refine comp_map _ ts [] [.v (.int b), .v (.int n), .v (.tuple ts), .un] (by simpa using hl) fun t ht => ?_
  refine ⟨_, rfl, _, rfl, .r (.bool (isP b n t)), [.v (.int b), .v (.int n), .v (.tuple ts), .v t], ?_, _, rfl, rfl⟩
  simp only [is_part_ok, eMLenE, eRep, eDLen, eNNew, eNLen, eListRng, gMax1, gSum, eMIn, eMInE, sMPut, eMNew, eMDict1, eMLen, eListZip, Option.isSome_none, Option.isSome_some, eMut, gAppend, gInsert, eRev, eIndex, eLenSet, gInt, gLen, gTuple, gList, gAbs, gMax2, gMin2, gDivmod, gEq_int, runFn, sSeq, sIf, sSet, sSetIx, sRet, sRetN, sNil, sDrop, sAsg, sFor, sPar, sNever, setO, retO, setOs, presc, eVar, eK, eTwo, v2, eFn, eDisp, eTup, eLst, eCall, eCallR, eCallK, pick, toSl, toSls, sIdx, wb, bk, esc, escs, vals, aNil, aCons, tb, Ev.tNot, Ev.tAnd, Ev.tOr, gGt, gLt, gGe, gLe, gSub, gMod, gDiv, gPow, gAdd, gMul, gInt, mulOk, g1, g2, fInt, fLen, fTuple, fList, fAbs, eAnd, eOr, eNot, eIf, eNeg, eIsi, gII, gIx, gIsN, gN, gT, gsNil, gsCons, isLent_eq, lentO, lentS_v, lentS_un, lentS_f, lentS_t, lentS_z, finE, okArg, Out.bind, Od.val, slVal, Bx.tr, Bx.t, isN, L2.ixN, L2.atI, isInt, isBool, isTuple, isList, isStr, isDict, isTL, Nat.zero_le, id_eq, eq_self, Pu.c0, Pu.c1, Pu.c2, Pu.c3, Pu.c4, Pu.c5, Pu.c6, Pu.c7, Pu.c8, Pu.c9, Pu.s1, Pu.s2, Pu.s3, Pu.s4, Pu.s5, Pu.s6, Pu.s7, Pu.s8, Pu.s9, Int.reduceEq, Nat.reduceMul, Int.ofNat_eq_natCast, wipeE, restE, exists_eq_left', Option.some.injEq, Out.ok.injEq, Prod.mk.injEq, Option.bind_some, Option.bind_none, Option.bind_eq_bind, List.getElem?_cons_zero, List.getElem?_cons_succ, List.getElem?_nil, List.set_cons_zero, List.set_cons_succ, List.set_nil, List.length_cons, List.length_nil, List.replicate_succ, List.replicate_zero, List.cons_append, List.nil_append, List.append_nil, List.all_cons, List.all_nil, Bool.and_true, Bool.true_and, Bool.and_false, Bool.false_and, if_true, if_false, ite_true, ite_false, List.nodup_cons, List.nodup_nil, List.not_mem_nil, List.mem_cons, not_false_eq_true, and_true, true_and, reduceIte, Nat.reduceAdd, Nat.reduceSub, Nat.reduceEqDiff, Nat.reduceLT, Nat.reduceLeDiff, Option.map_some, Option.map_none, Option.getD_some, reduceCtorEq, or_self, or_false, false_or, not_true_eq_false, decide_true, decide_false, Bool.not_true, Bool.not_false, Bool.false_eq_true, Nat.zero_add, Nat.add_zero, forall_const, Int.reduceLT, Int.reduceLE, Int.reduceNeg, Int.reduceToNat, Int.toNat_natCast, and_self, wipeE]
def i3 : T → List Int
  | .tuple (.int x :: .int y :: _) => [x, y]
  | _ => []
theorem tups_places {b n : Int} : ∀ {ts : List T}, (∀ t ∈ ts, isP b n t = true) → tupsOf (ts.map pl) = some (ts.map i3)
  | [], _ => rfl
  | t :: ts, h => by
    obtain ⟨x, y, k, rfl, _⟩ := isP_form (h t List.mem_cons_self)
    have ih := tups_places fun t ht => h t (List.mem_cons_of_mem _ ht)
    show (match intsOf [.int x, .int y], tupsOf (ts.map pl) with | some a, some b => some (a :: b) | _, _ => none) = _
    rw [ih]
    rfl
/-- a kind -/
def isKd (b n : Int) : T → Bool
  | .tuple ts => decide ((ts.length : Int) = b * b) && ((ts.map (isP b n)).all id && decide (((dd (ts.map i3)).length : Int) = b * b))
  | _ => false
theorem is_kind_ok (b n : Int) (t : T) (hb : b = 2 ∨ b = 3) : m__is_kind [.v (.int b), .v (.int n), .v t] = .ok (.r (.bool (isKd b n t))) [.v (.int b), .v (.int n), .v t] := by
  have hm : b.natAbs.log2 + b.natAbs.log2 < 1000000 := by rcases hb with rfl | rfl <;> decide
  cases t with
  | tuple ts =>
    by_cases h1 : (ts.length : Int) = b * b
    · have h2 : ts.length < 64 := by rcases hb with rfl | rfl <;> omega
      have h3 : ts.length ≤ sizeLine := by unfold sizeLine; omega
      cases h4 : (ts.map (isP b n)).all id with
      | false => simp only [m__is_kind, b__is_kind, kind_x b n ts h3, eMLenE, eRep, eDLen, eNNew, eNLen, eListRng, gMax1, gSum, eMIn, eMInE, sMPut, eMNew, eMDict1, eMLen, eListZip, Option.isSome_none, Option.isSome_some, eMut, gAppend, gInsert, eRev, eIndex, eLenSet, gInt, gLen, gTuple, gList, gAbs, gMax2, gMin2, gDivmod, gEq_int, runFn, sSeq, sIf, sSet, sSetIx, sRet, sRetN, sNil, sDrop, sAsg, sFor, sPar, sNever, setO, retO, setOs, presc, eVar, eK, eTwo, v2, eFn, eDisp, eTup, eLst, eCall, eCallR, eCallK, pick, toSl, toSls, sIdx, wb, bk, esc, escs, vals, aNil, aCons, tb, Ev.tNot, Ev.tAnd, Ev.tOr, gGt, gLt, gGe, gLe, gSub, gMod, gDiv, gPow, gAdd, gMul, gInt, mulOk, g1, g2, fInt, fLen, fTuple, fList, fAbs, eAnd, eOr, eNot, eIf, eNeg, eIsi, gII, gIx, gIsN, gN, gT, gsNil, gsCons, isLent_eq, lentO, lentS_v, lentS_un, lentS_f, lentS_t, lentS_z, finE, okArg, Out.bind, Od.val, slVal, Bx.tr, Bx.t, isN, L2.ixN, L2.atI, isInt, isBool, isTuple, isList, isStr, isDict, isTL, Nat.zero_le, id_eq, eq_self, Pu.c0, Pu.c1, Pu.c2, Pu.c3, Pu.c4, Pu.c5, Pu.c6, Pu.c7, Pu.c8, Pu.c9, Pu.s1, Pu.s2, Pu.s3, Pu.s4, Pu.s5, Pu.s6, Pu.s7, Pu.s8, Pu.s9, Int.reduceEq, Nat.reduceMul, Int.ofNat_eq_natCast, wipeE, restE, exists_eq_left', Option.some.injEq, Out.ok.injEq, Prod.mk.injEq, Option.bind_some, Option.bind_none, Option.bind_eq_bind, List.getElem?_cons_zero, List.getElem?_cons_succ, List.getElem?_nil, List.set_cons_zero, List.set_cons_succ, List.set_nil, List.length_cons, List.length_nil, List.replicate_succ, List.replicate_zero, List.cons_append, List.nil_append, List.append_nil, List.all_cons, List.all_nil, Bool.and_true, Bool.true_and, Bool.and_false, Bool.false_and, if_true, if_false, ite_true, ite_false, List.nodup_cons, List.nodup_nil, List.not_mem_nil, List.mem_cons, not_false_eq_true, and_true, true_and, reduceIte, Nat.reduceAdd, Nat.reduceSub, Nat.reduceEqDiff, Nat.reduceLT, Nat.reduceLeDiff, Option.map_some, Option.map_none, Option.getD_some, reduceCtorEq, or_self, or_false, false_or, not_true_eq_false, decide_true, decide_false, Bool.not_true, Bool.not_false, Bool.false_eq_true, Nat.zero_add, Nat.add_zero, forall_const, Int.reduceLT, Int.reduceLE, Int.reduceNeg, Int.reduceToNat, Int.toNat_natCast, and_self, isKd, h1, h4, gAll_bools, hm]
      | true =>
        have h5 : ∀ t ∈ ts, isP b n t = true := fun t ht => by
          have := List.all_eq_true.mp h4 (isP b n t) (List.mem_map_of_mem ht)
          exact this
        have h6 := places_ok ts h3 fun t ht => by
          obtain ⟨x, y, k, rfl, _⟩ := isP_form (h5 t ht)
          exact ⟨_, _, _, rfl⟩
        have h7 := tups_places h5
        simp only [m__is_kind, b__is_kind, kind_x b n ts h3, eMLenE, eRep, eDLen, eNNew, eNLen, eListRng, gMax1, gSum, eMIn, eMInE, sMPut, eMNew, eMDict1, eMLen, eListZip, Option.isSome_none, Option.isSome_some, eMut, gAppend, gInsert, eRev, eIndex, eLenSet, gInt, gLen, gTuple, gList, gAbs, gMax2, gMin2, gDivmod, gEq_int, runFn, sSeq, sIf, sSet, sSetIx, sRet, sRetN, sNil, sDrop, sAsg, sFor, sPar, sNever, setO, retO, setOs, presc, eVar, eK, eTwo, v2, eFn, eDisp, eTup, eLst, eCall, eCallR, eCallK, pick, toSl, toSls, sIdx, wb, bk, esc, escs, vals, aNil, aCons, tb, Ev.tNot, Ev.tAnd, Ev.tOr, gGt, gLt, gGe, gLe, gSub, gMod, gDiv, gPow, gAdd, gMul, gInt, mulOk, g1, g2, fInt, fLen, fTuple, fList, fAbs, eAnd, eOr, eNot, eIf, eNeg, eIsi, gII, gIx, gIsN, gN, gT, gsNil, gsCons, isLent_eq, lentO, lentS_v, lentS_un, lentS_f, lentS_t, lentS_z, finE, okArg, Out.bind, Od.val, slVal, Bx.tr, Bx.t, isN, L2.ixN, L2.atI, isInt, isBool, isTuple, isList, isStr, isDict, isTL, Nat.zero_le, id_eq, eq_self, Pu.c0, Pu.c1, Pu.c2, Pu.c3, Pu.c4, Pu.c5, Pu.c6, Pu.c7, Pu.c8, Pu.c9, Pu.s1, Pu.s2, Pu.s3, Pu.s4, Pu.s5, Pu.s6, Pu.s7, Pu.s8, Pu.s9, Int.reduceEq, Nat.reduceMul, Int.ofNat_eq_natCast, wipeE, restE, exists_eq_left', Option.some.injEq, Out.ok.injEq, Prod.mk.injEq, Option.bind_some, Option.bind_none, Option.bind_eq_bind, List.getElem?_cons_zero, List.getElem?_cons_succ, List.getElem?_nil, List.set_cons_zero, List.set_cons_succ, List.set_nil, List.length_cons, List.length_nil, List.replicate_succ, List.replicate_zero, List.cons_append, List.nil_append, List.append_nil, List.all_cons, List.all_nil, Bool.and_true, Bool.true_and, Bool.and_false, Bool.false_and, if_true, if_false, ite_true, ite_false, List.nodup_cons, List.nodup_nil, List.not_mem_nil, List.mem_cons, not_false_eq_true, and_true, true_and, reduceIte, Nat.reduceAdd, Nat.reduceSub, Nat.reduceEqDiff, Nat.reduceLT, Nat.reduceLeDiff, Option.map_some, Option.map_none, Option.getD_some, reduceCtorEq, or_self, or_false, false_or, not_true_eq_false, decide_true, decide_false, Bool.not_true, Bool.not_false, Bool.false_eq_true, Nat.zero_add, Nat.add_zero, forall_const, Int.reduceLT, Int.reduceLE, Int.reduceNeg, Int.reduceToNat, Int.toNat_natCast, and_self, isKd, h1, h4, gAll_bools, hm, eLenSet, h6, h7, List.length_map, h2, id]
    · simp only [m__is_kind, b__is_kind, eMLenE, eRep, eDLen, eNNew, eNLen, eListRng, gMax1, gSum, eMIn, eMInE, sMPut, eMNew, eMDict1, eMLen, eListZip, Option.isSome_none, Option.isSome_some, eMut, gAppend, gInsert, eRev, eIndex, eLenSet, gInt, gLen, gTuple, gList, gAbs, gMax2, gMin2, gDivmod, gEq_int, runFn, sSeq, sIf, sSet, sSetIx, sRet, sRetN, sNil, sDrop, sAsg, sFor, sPar, sNever, setO, retO, setOs, presc, eVar, eK, eTwo, v2, eFn, eDisp, eTup, eLst, eCall, eCallR, eCallK, pick, toSl, toSls, sIdx, wb, bk, esc, escs, vals, aNil, aCons, tb, Ev.tNot, Ev.tAnd, Ev.tOr, gGt, gLt, gGe, gLe, gSub, gMod, gDiv, gPow, gAdd, gMul, gInt, mulOk, g1, g2, fInt, fLen, fTuple, fList, fAbs, eAnd, eOr, eNot, eIf, eNeg, eIsi, gII, gIx, gIsN, gN, gT, gsNil, gsCons, isLent_eq, lentO, lentS_v, lentS_un, lentS_f, lentS_t, lentS_z, finE, okArg, Out.bind, Od.val, slVal, Bx.tr, Bx.t, isN, L2.ixN, L2.atI, isInt, isBool, isTuple, isList, isStr, isDict, isTL, Nat.zero_le, id_eq, eq_self, Pu.c0, Pu.c1, Pu.c2, Pu.c3, Pu.c4, Pu.c5, Pu.c6, Pu.c7, Pu.c8, Pu.c9, Pu.s1, Pu.s2, Pu.s3, Pu.s4, Pu.s5, Pu.s6, Pu.s7, Pu.s8, Pu.s9, Int.reduceEq, Nat.reduceMul, Int.ofNat_eq_natCast, wipeE, restE, exists_eq_left', Option.some.injEq, Out.ok.injEq, Prod.mk.injEq, Option.bind_some, Option.bind_none, Option.bind_eq_bind, List.getElem?_cons_zero, List.getElem?_cons_succ, List.getElem?_nil, List.set_cons_zero, List.set_cons_succ, List.set_nil, List.length_cons, List.length_nil, List.replicate_succ, List.replicate_zero, List.cons_append, List.nil_append, List.append_nil, List.all_cons, List.all_nil, Bool.and_true, Bool.true_and, Bool.and_false, Bool.false_and, if_true, if_false, ite_true, ite_false, List.nodup_cons, List.nodup_nil, List.not_mem_nil, List.mem_cons, not_false_eq_true, and_true, true_and, reduceIte, Nat.reduceAdd, Nat.reduceSub, Nat.reduceEqDiff, Nat.reduceLT, Nat.reduceLeDiff, Option.map_some, Option.map_none, Option.getD_some, reduceCtorEq, or_self, or_false, false_or, not_true_eq_false, decide_true, decide_false, Bool.not_true, Bool.not_false, Bool.false_eq_true, Nat.zero_add, Nat.add_zero, forall_const, Int.reduceLT, Int.reduceLE, Int.reduceNeg, Int.reduceToNat, Int.toNat_natCast, and_self, isKd, h1, hm]
  | _ => rfl
theorem gIn2 (k : Bool → Bool) (i j b : Int) : gIn k (.int b) (.tuple [.int i, .int j]) = some (.r (.bool (k (decide (i = b) || decide (j = b))))) := by
  show some (Od.r (.bool (k (decide (i = b) || (decide (j = b) || false))))) = _
  rw [Bool.or_false]
theorem book_x (t : T) (b : Int) (hb : b = 2 ∨ b = 3) (ts : List T) (hl : ts.length ≤ sizeLine) : x1_is_book [.v t, .v (.int b), .v (.tuple ts), .un] = .ok (.b (.l ((ts.map (isKd b ts.length)).map .bool))) [.v t, .v (.int b), .v (.tuple ts), .un] := by
  rw [List.map_map]
  refine comp_map _ ts [] [.v t, .v (.int b), .v (.tuple ts), .un] (by simpa using hl) fun u ht => ?_
  refine ⟨_, rfl, _, rfl, .r (.bool (isKd b ts.length u)), [.v t, .v (.int b), .v (.tuple ts), .v u], ?_, _, rfl, rfl⟩
  simp only [is_kind_ok b _ _ hb, eMLenE, eRep, eDLen, eNNew, eNLen, eListRng, gMax1, gSum, eMIn, eMInE, sMPut, eMNew, eMDict1, eMLen, eListZip, Option.isSome_none, Option.isSome_some, eMut, gAppend, gInsert, eRev, eIndex, eLenSet, gInt, gLen, gTuple, gList, gAbs, gMax2, gMin2, gDivmod, gEq_int, runFn, sSeq, sIf, sSet, sSetIx, sRet, sRetN, sNil, sDrop, sAsg, sFor, sPar, sNever, setO, retO, setOs, presc, eVar, eK, eTwo, v2, eFn, eDisp, eTup, eLst, eCall, eCallR, eCallK, pick, toSl, toSls, sIdx, wb, bk, esc, escs, vals, aNil, aCons, tb, Ev.tNot, Ev.tAnd, Ev.tOr, gGt, gLt, gGe, gLe, gSub, gMod, gDiv, gPow, gAdd, gMul, gInt, mulOk, g1, g2, fInt, fLen, fTuple, fList, fAbs, eAnd, eOr, eNot, eIf, eNeg, eIsi, gII, gIx, gIsN, gN, gT, gsNil, gsCons, isLent_eq, lentO, lentS_v, lentS_un, lentS_f, lentS_t, lentS_z, finE, okArg, Out.bind, Od.val, slVal, Bx.tr, Bx.t, isN, L2.ixN, L2.atI, isInt, isBool, isTuple, isList, isStr, isDict, isTL, Nat.zero_le, id_eq, eq_self, Pu.c0, Pu.c1, Pu.c2, Pu.c3, Pu.c4, Pu.c5, Pu.c6, Pu.c7, Pu.c8, Pu.c9, Pu.s1, Pu.s2, Pu.s3, Pu.s4, Pu.s5, Pu.s6, Pu.s7, Pu.s8, Pu.s9, Int.reduceEq, Nat.reduceMul, Int.ofNat_eq_natCast, wipeE, restE, exists_eq_left', Option.some.injEq, Out.ok.injEq, Prod.mk.injEq, Option.bind_some, Option.bind_none, Option.bind_eq_bind, List.getElem?_cons_zero, List.getElem?_cons_succ, List.getElem?_nil, List.set_cons_zero, List.set_cons_succ, List.set_nil, List.length_cons, List.length_nil, List.replicate_succ, List.replicate_zero, List.cons_append, List.nil_append, List.append_nil, List.all_cons, List.all_nil, Bool.and_true, Bool.true_and, Bool.and_false, Bool.false_and, if_true, if_false, ite_true, ite_false, List.nodup_cons, List.nodup_nil, List.not_mem_nil, List.mem_cons, not_false_eq_true, and_true, true_and, reduceIte, Nat.reduceAdd, Nat.reduceSub, Nat.reduceEqDiff, Nat.reduceLT, Nat.reduceLeDiff, Option.map_some, Option.map_none, Option.getD_some, reduceCtorEq, or_self, or_false, false_or, not_true_eq_false, decide_true, decide_false, Bool.not_true, Bool.not_false, Bool.false_eq_true, Nat.zero_add, Nat.add_zero, forall_const, Int.reduceLT, Int.reduceLE, Int.reduceNeg, Int.reduceToNat, Int.toNat_natCast, and_self, wipeE]
/-- a book -/
def isBk : T → Bool
  | .tuple [.int b, .tuple ks] => (decide (2 = b) || decide (3 = b)) && (decide (0 < ks.length) && (ks.map (isKd b ks.length)).all id)
  | _ => false
/-- how many kinds -/
def fewK : T → Bool
  | .tuple [_, .tuple ks] => decide (ks.length ≤ sizeLine)
  | _ => true
theorem is_book_ok (t : T) (hf : fewK t = true) : m_is_book [.v t] = .ok (.r (.bool (isBk t))) [.v t] := by
  cases t with
  | tuple ts =>
    match ts with
    | [] => rfl
    | [x] => cases x <;> rfl
    | x :: y :: z :: ts =>
      have h : decide (((ts.length + 1 + 1 + 1 : Nat) : Int) = 2) = false := by simp; omega
      cases x <;> simp only [m_is_book, b_is_book, eMLenE, eRep, eDLen, eNNew, eNLen, eListRng, gMax1, gSum, eMIn, eMInE, sMPut, eMNew, eMDict1, eMLen, eListZip, Option.isSome_none, Option.isSome_some, eMut, gAppend, gInsert, eRev, eIndex, eLenSet, gInt, gLen, gTuple, gList, gAbs, gMax2, gMin2, gDivmod, gEq_int, runFn, sSeq, sIf, sSet, sSetIx, sRet, sRetN, sNil, sDrop, sAsg, sFor, sPar, sNever, setO, retO, setOs, presc, eVar, eK, eTwo, v2, eFn, eDisp, eTup, eLst, eCall, eCallR, eCallK, pick, toSl, toSls, sIdx, wb, bk, esc, escs, vals, aNil, aCons, tb, Ev.tNot, Ev.tAnd, Ev.tOr, gGt, gLt, gGe, gLe, gSub, gMod, gDiv, gPow, gAdd, gMul, gInt, mulOk, g1, g2, fInt, fLen, fTuple, fList, fAbs, eAnd, eOr, eNot, eIf, eNeg, eIsi, gII, gIx, gIsN, gN, gT, gsNil, gsCons, isLent_eq, lentO, lentS_v, lentS_un, lentS_f, lentS_t, lentS_z, finE, okArg, Out.bind, Od.val, slVal, Bx.tr, Bx.t, isN, L2.ixN, L2.atI, isInt, isBool, isTuple, isList, isStr, isDict, isTL, Nat.zero_le, id_eq, eq_self, Pu.c0, Pu.c1, Pu.c2, Pu.c3, Pu.c4, Pu.c5, Pu.c6, Pu.c7, Pu.c8, Pu.c9, Pu.s1, Pu.s2, Pu.s3, Pu.s4, Pu.s5, Pu.s6, Pu.s7, Pu.s8, Pu.s9, Int.reduceEq, Nat.reduceMul, Int.ofNat_eq_natCast, wipeE, restE, exists_eq_left', Option.some.injEq, Out.ok.injEq, Prod.mk.injEq, Option.bind_some, Option.bind_none, Option.bind_eq_bind, List.getElem?_cons_zero, List.getElem?_cons_succ, List.getElem?_nil, List.set_cons_zero, List.set_cons_succ, List.set_nil, List.length_cons, List.length_nil, List.replicate_succ, List.replicate_zero, List.cons_append, List.nil_append, List.append_nil, List.all_cons, List.all_nil, Bool.and_true, Bool.true_and, Bool.and_false, Bool.false_and, if_true, if_false, ite_true, ite_false, List.nodup_cons, List.nodup_nil, List.not_mem_nil, List.mem_cons, not_false_eq_true, and_true, true_and, reduceIte, Nat.reduceAdd, Nat.reduceSub, Nat.reduceEqDiff, Nat.reduceLT, Nat.reduceLeDiff, Option.map_some, Option.map_none, Option.getD_some, reduceCtorEq, or_self, or_false, false_or, not_true_eq_false, decide_true, decide_false, Bool.not_true, Bool.not_false, Bool.false_eq_true, Nat.zero_add, Nat.add_zero, forall_const, Int.reduceLT, Int.reduceLE, Int.reduceNeg, Int.reduceToNat, Int.toNat_natCast, and_self, isBk, h]
    | [bt, kt] =>
      cases bt with
      | int b =>
        cases h2 : (decide (2 = b) || decide (3 = b)) with
        | false => cases kt <;> simp only [m_is_book, b_is_book, is_whole_ok, isW, gIn2, eMLenE, eRep, eDLen, eNNew, eNLen, eListRng, gMax1, gSum, eMIn, eMInE, sMPut, eMNew, eMDict1, eMLen, eListZip, Option.isSome_none, Option.isSome_some, eMut, gAppend, gInsert, eRev, eIndex, eLenSet, gInt, gLen, gTuple, gList, gAbs, gMax2, gMin2, gDivmod, gEq_int, runFn, sSeq, sIf, sSet, sSetIx, sRet, sRetN, sNil, sDrop, sAsg, sFor, sPar, sNever, setO, retO, setOs, presc, eVar, eK, eTwo, v2, eFn, eDisp, eTup, eLst, eCall, eCallR, eCallK, pick, toSl, toSls, sIdx, wb, bk, esc, escs, vals, aNil, aCons, tb, Ev.tNot, Ev.tAnd, Ev.tOr, gGt, gLt, gGe, gLe, gSub, gMod, gDiv, gPow, gAdd, gMul, gInt, mulOk, g1, g2, fInt, fLen, fTuple, fList, fAbs, eAnd, eOr, eNot, eIf, eNeg, eIsi, gII, gIx, gIsN, gN, gT, gsNil, gsCons, isLent_eq, lentO, lentS_v, lentS_un, lentS_f, lentS_t, lentS_z, finE, okArg, Out.bind, Od.val, slVal, Bx.tr, Bx.t, isN, L2.ixN, L2.atI, isInt, isBool, isTuple, isList, isStr, isDict, isTL, Nat.zero_le, id_eq, eq_self, Pu.c0, Pu.c1, Pu.c2, Pu.c3, Pu.c4, Pu.c5, Pu.c6, Pu.c7, Pu.c8, Pu.c9, Pu.s1, Pu.s2, Pu.s3, Pu.s4, Pu.s5, Pu.s6, Pu.s7, Pu.s8, Pu.s9, Int.reduceEq, Nat.reduceMul, Int.ofNat_eq_natCast, wipeE, restE, exists_eq_left', Option.some.injEq, Out.ok.injEq, Prod.mk.injEq, Option.bind_some, Option.bind_none, Option.bind_eq_bind, List.getElem?_cons_zero, List.getElem?_cons_succ, List.getElem?_nil, List.set_cons_zero, List.set_cons_succ, List.set_nil, List.length_cons, List.length_nil, List.replicate_succ, List.replicate_zero, List.cons_append, List.nil_append, List.append_nil, List.all_cons, List.all_nil, Bool.and_true, Bool.true_and, Bool.and_false, Bool.false_and, if_true, if_false, ite_true, ite_false, List.nodup_cons, List.nodup_nil, List.not_mem_nil, List.mem_cons, not_false_eq_true, and_true, true_and, reduceIte, Nat.reduceAdd, Nat.reduceSub, Nat.reduceEqDiff, Nat.reduceLT, Nat.reduceLeDiff, Option.map_some, Option.map_none, Option.getD_some, reduceCtorEq, or_self, or_false, false_or, not_true_eq_false, decide_true, decide_false, Bool.not_true, Bool.not_false, Bool.false_eq_true, Nat.zero_add, Nat.add_zero, forall_const, Int.reduceLT, Int.reduceLE, Int.reduceNeg, Int.reduceToNat, Int.toNat_natCast, and_self, isBk, h2]
        | true =>
          have hb : b = 2 ∨ b = 3 := by
            rw [Bool.or_eq_true] at h2
            rcases h2 with h | h
            · exact .inl (of_decide_eq_true h).symm
            · exact .inr (of_decide_eq_true h).symm
          cases kt with
          | tuple ks =>
            cases ks with
            | nil => simp only [m_is_book, b_is_book, is_whole_ok, isW, gIn2, eMLenE, eRep, eDLen, eNNew, eNLen, eListRng, gMax1, gSum, eMIn, eMInE, sMPut, eMNew, eMDict1, eMLen, eListZip, Option.isSome_none, Option.isSome_some, eMut, gAppend, gInsert, eRev, eIndex, eLenSet, gInt, gLen, gTuple, gList, gAbs, gMax2, gMin2, gDivmod, gEq_int, runFn, sSeq, sIf, sSet, sSetIx, sRet, sRetN, sNil, sDrop, sAsg, sFor, sPar, sNever, setO, retO, setOs, presc, eVar, eK, eTwo, v2, eFn, eDisp, eTup, eLst, eCall, eCallR, eCallK, pick, toSl, toSls, sIdx, wb, bk, esc, escs, vals, aNil, aCons, tb, Ev.tNot, Ev.tAnd, Ev.tOr, gGt, gLt, gGe, gLe, gSub, gMod, gDiv, gPow, gAdd, gMul, gInt, mulOk, g1, g2, fInt, fLen, fTuple, fList, fAbs, eAnd, eOr, eNot, eIf, eNeg, eIsi, gII, gIx, gIsN, gN, gT, gsNil, gsCons, isLent_eq, lentO, lentS_v, lentS_un, lentS_f, lentS_t, lentS_z, finE, okArg, Out.bind, Od.val, slVal, Bx.tr, Bx.t, isN, L2.ixN, L2.atI, isInt, isBool, isTuple, isList, isStr, isDict, isTL, Nat.zero_le, id_eq, eq_self, Pu.c0, Pu.c1, Pu.c2, Pu.c3, Pu.c4, Pu.c5, Pu.c6, Pu.c7, Pu.c8, Pu.c9, Pu.s1, Pu.s2, Pu.s3, Pu.s4, Pu.s5, Pu.s6, Pu.s7, Pu.s8, Pu.s9, Int.reduceEq, Nat.reduceMul, Int.ofNat_eq_natCast, wipeE, restE, exists_eq_left', Option.some.injEq, Out.ok.injEq, Prod.mk.injEq, Option.bind_some, Option.bind_none, Option.bind_eq_bind, List.getElem?_cons_zero, List.getElem?_cons_succ, List.getElem?_nil, List.set_cons_zero, List.set_cons_succ, List.set_nil, List.length_cons, List.length_nil, List.replicate_succ, List.replicate_zero, List.cons_append, List.nil_append, List.append_nil, List.all_cons, List.all_nil, Bool.and_true, Bool.true_and, Bool.and_false, Bool.false_and, if_true, if_false, ite_true, ite_false, List.nodup_cons, List.nodup_nil, List.not_mem_nil, List.mem_cons, not_false_eq_true, and_true, true_and, reduceIte, Nat.reduceAdd, Nat.reduceSub, Nat.reduceEqDiff, Nat.reduceLT, Nat.reduceLeDiff, Option.map_some, Option.map_none, Option.getD_some, reduceCtorEq, or_self, or_false, false_or, not_true_eq_false, decide_true, decide_false, Bool.not_true, Bool.not_false, Bool.false_eq_true, Nat.zero_add, Nat.add_zero, forall_const, Int.reduceLT, Int.reduceLE, Int.reduceNeg, Int.reduceToNat, Int.toNat_natCast, and_self, isBk, h2]
            | cons k ks =>
              have hl : (k :: ks).length ≤ sizeLine := of_decide_eq_true hf
              have h3 := book_x (.tuple [.int b, .tuple (k :: ks)]) b hb (k :: ks) hl
              have h4 : decide (((ks.length + 1 : Nat) : Int) = 0) = false := by simp; omega
              have h5 : 0 < ks.length + 1 := by omega
              simp only [m_is_book, b_is_book, is_whole_ok, isW, gIn2, eMLenE, eRep, eDLen, eNNew, eNLen, eListRng, gMax1, gSum, eMIn, eMInE, sMPut, eMNew, eMDict1, eMLen, eListZip, Option.isSome_none, Option.isSome_some, eMut, gAppend, gInsert, eRev, eIndex, eLenSet, gInt, gLen, gTuple, gList, gAbs, gMax2, gMin2, gDivmod, gEq_int, runFn, sSeq, sIf, sSet, sSetIx, sRet, sRetN, sNil, sDrop, sAsg, sFor, sPar, sNever, setO, retO, setOs, presc, eVar, eK, eTwo, v2, eFn, eDisp, eTup, eLst, eCall, eCallR, eCallK, pick, toSl, toSls, sIdx, wb, bk, esc, escs, vals, aNil, aCons, tb, Ev.tNot, Ev.tAnd, Ev.tOr, gGt, gLt, gGe, gLe, gSub, gMod, gDiv, gPow, gAdd, gMul, gInt, mulOk, g1, g2, fInt, fLen, fTuple, fList, fAbs, eAnd, eOr, eNot, eIf, eNeg, eIsi, gII, gIx, gIsN, gN, gT, gsNil, gsCons, isLent_eq, lentO, lentS_v, lentS_un, lentS_f, lentS_t, lentS_z, finE, okArg, Out.bind, Od.val, slVal, Bx.tr, Bx.t, isN, L2.ixN, L2.atI, isInt, isBool, isTuple, isList, isStr, isDict, isTL, Nat.zero_le, id_eq, eq_self, Pu.c0, Pu.c1, Pu.c2, Pu.c3, Pu.c4, Pu.c5, Pu.c6, Pu.c7, Pu.c8, Pu.c9, Pu.s1, Pu.s2, Pu.s3, Pu.s4, Pu.s5, Pu.s6, Pu.s7, Pu.s8, Pu.s9, Int.reduceEq, Nat.reduceMul, Int.ofNat_eq_natCast, wipeE, restE, exists_eq_left', Option.some.injEq, Out.ok.injEq, Prod.mk.injEq, Option.bind_some, Option.bind_none, Option.bind_eq_bind, List.getElem?_cons_zero, List.getElem?_cons_succ, List.getElem?_nil, List.set_cons_zero, List.set_cons_succ, List.set_nil, List.length_cons, List.length_nil, List.replicate_succ, List.replicate_zero, List.cons_append, List.nil_append, List.append_nil, List.all_cons, List.all_nil, Bool.and_true, Bool.true_and, Bool.and_false, Bool.false_and, if_true, if_false, ite_true, ite_false, List.nodup_cons, List.nodup_nil, List.not_mem_nil, List.mem_cons, not_false_eq_true, and_true, true_and, reduceIte, Nat.reduceAdd, Nat.reduceSub, Nat.reduceEqDiff, Nat.reduceLT, Nat.reduceLeDiff, Option.map_some, Option.map_none, Option.getD_some, reduceCtorEq, or_self, or_false, false_or, not_true_eq_false, decide_true, decide_false, Bool.not_true, Bool.not_false, Bool.false_eq_true, Nat.zero_add, Nat.add_zero, forall_const, Int.reduceLT, Int.reduceLE, Int.reduceNeg, Int.reduceToNat, Int.toNat_natCast, and_self, isBk, h2, h3, gAll_bools, h4, h5]
          | _ => simp only [m_is_book, b_is_book, is_whole_ok, isW, gIn2, eMLenE, eRep, eDLen, eNNew, eNLen, eListRng, gMax1, gSum, eMIn, eMInE, sMPut, eMNew, eMDict1, eMLen, eListZip, Option.isSome_none, Option.isSome_some, eMut, gAppend, gInsert, eRev, eIndex, eLenSet, gInt, gLen, gTuple, gList, gAbs, gMax2, gMin2, gDivmod, gEq_int, runFn, sSeq, sIf, sSet, sSetIx, sRet, sRetN, sNil, sDrop, sAsg, sFor, sPar, sNever, setO, retO, setOs, presc, eVar, eK, eTwo, v2, eFn, eDisp, eTup, eLst, eCall, eCallR, eCallK, pick, toSl, toSls, sIdx, wb, bk, esc, escs, vals, aNil, aCons, tb, Ev.tNot, Ev.tAnd, Ev.tOr, gGt, gLt, gGe, gLe, gSub, gMod, gDiv, gPow, gAdd, gMul, gInt, mulOk, g1, g2, fInt, fLen, fTuple, fList, fAbs, eAnd, eOr, eNot, eIf, eNeg, eIsi, gII, gIx, gIsN, gN, gT, gsNil, gsCons, isLent_eq, lentO, lentS_v, lentS_un, lentS_f, lentS_t, lentS_z, finE, okArg, Out.bind, Od.val, slVal, Bx.tr, Bx.t, isN, L2.ixN, L2.atI, isInt, isBool, isTuple, isList, isStr, isDict, isTL, Nat.zero_le, id_eq, eq_self, Pu.c0, Pu.c1, Pu.c2, Pu.c3, Pu.c4, Pu.c5, Pu.c6, Pu.c7, Pu.c8, Pu.c9, Pu.s1, Pu.s2, Pu.s3, Pu.s4, Pu.s5, Pu.s6, Pu.s7, Pu.s8, Pu.s9, Int.reduceEq, Nat.reduceMul, Int.ofNat_eq_natCast, wipeE, restE, exists_eq_left', Option.some.injEq, Out.ok.injEq, Prod.mk.injEq, Option.bind_some, Option.bind_none, Option.bind_eq_bind, List.getElem?_cons_zero, List.getElem?_cons_succ, List.getElem?_nil, List.set_cons_zero, List.set_cons_succ, List.set_nil, List.length_cons, List.length_nil, List.replicate_succ, List.replicate_zero, List.cons_append, List.nil_append, List.append_nil, List.all_cons, List.all_nil, Bool.and_true, Bool.true_and, Bool.and_false, Bool.false_and, if_true, if_false, ite_true, ite_false, List.nodup_cons, List.nodup_nil, List.not_mem_nil, List.mem_cons, not_false_eq_true, and_true, true_and, reduceIte, Nat.reduceAdd, Nat.reduceSub, Nat.reduceEqDiff, Nat.reduceLT, Nat.reduceLeDiff, Option.map_some, Option.map_none, Option.getD_some, reduceCtorEq, or_self, or_false, false_or, not_true_eq_false, decide_true, decide_false, Bool.not_true, Bool.not_false, Bool.false_eq_true, Nat.zero_add, Nat.add_zero, forall_const, Int.reduceLT, Int.reduceLE, Int.reduceNeg, Int.reduceToNat, Int.toNat_natCast, and_self, isBk, h2]
      | _ => cases kt <;> simp only [m_is_book, b_is_book, is_whole_ok, isW, gIn2, eMLenE, eRep, eDLen, eNNew, eNLen, eListRng, gMax1, gSum, eMIn, eMInE, sMPut, eMNew, eMDict1, eMLen, eListZip, Option.isSome_none, Option.isSome_some, eMut, gAppend, gInsert, eRev, eIndex, eLenSet, gInt, gLen, gTuple, gList, gAbs, gMax2, gMin2, gDivmod, gEq_int, runFn, sSeq, sIf, sSet, sSetIx, sRet, sRetN, sNil, sDrop, sAsg, sFor, sPar, sNever, setO, retO, setOs, presc, eVar, eK, eTwo, v2, eFn, eDisp, eTup, eLst, eCall, eCallR, eCallK, pick, toSl, toSls, sIdx, wb, bk, esc, escs, vals, aNil, aCons, tb, Ev.tNot, Ev.tAnd, Ev.tOr, gGt, gLt, gGe, gLe, gSub, gMod, gDiv, gPow, gAdd, gMul, gInt, mulOk, g1, g2, fInt, fLen, fTuple, fList, fAbs, eAnd, eOr, eNot, eIf, eNeg, eIsi, gII, gIx, gIsN, gN, gT, gsNil, gsCons, isLent_eq, lentO, lentS_v, lentS_un, lentS_f, lentS_t, lentS_z, finE, okArg, Out.bind, Od.val, slVal, Bx.tr, Bx.t, isN, L2.ixN, L2.atI, isInt, isBool, isTuple, isList, isStr, isDict, isTL, Nat.zero_le, id_eq, eq_self, Pu.c0, Pu.c1, Pu.c2, Pu.c3, Pu.c4, Pu.c5, Pu.c6, Pu.c7, Pu.c8, Pu.c9, Pu.s1, Pu.s2, Pu.s3, Pu.s4, Pu.s5, Pu.s6, Pu.s7, Pu.s8, Pu.s9, Int.reduceEq, Nat.reduceMul, Int.ofNat_eq_natCast, wipeE, restE, exists_eq_left', Option.some.injEq, Out.ok.injEq, Prod.mk.injEq, Option.bind_some, Option.bind_none, Option.bind_eq_bind, List.getElem?_cons_zero, List.getElem?_cons_succ, List.getElem?_nil, List.set_cons_zero, List.set_cons_succ, List.set_nil, List.length_cons, List.length_nil, List.replicate_succ, List.replicate_zero, List.cons_append, List.nil_append, List.append_nil, List.all_cons, List.all_nil, Bool.and_true, Bool.true_and, Bool.and_false, Bool.false_and, if_true, if_false, ite_true, ite_false, List.nodup_cons, List.nodup_nil, List.not_mem_nil, List.mem_cons, not_false_eq_true, and_true, true_and, reduceIte, Nat.reduceAdd, Nat.reduceSub, Nat.reduceEqDiff, Nat.reduceLT, Nat.reduceLeDiff, Option.map_some, Option.map_none, Option.getD_some, reduceCtorEq, or_self, or_false, false_or, not_true_eq_false, decide_true, decide_false, Bool.not_true, Bool.not_false, Bool.false_eq_true, Nat.zero_add, Nat.add_zero, forall_const, Int.reduceLT, Int.reduceLE, Int.reduceNeg, Int.reduceToNat, Int.toNat_natCast, and_self, isBk]
  | _ => rfl
def cT (c : Int × Int) : T := .tuple [.int c.1, .int c.2]
theorem log2_small {i : Int} {k : Nat} (h : i.natAbs < 2 ^ k) (hk : 0 < k) : i.natAbs.log2 < k := by
  rcases Nat.eq_zero_or_pos i.natAbs with z | z
  · rw [z]; exact hk
  · exact (Nat.log2_lt (by omega)).mpr h
theorem pow_small {b : Int} (h0 : 0 ≤ b) (h1 : b ≤ 16) (k : Nat) (hk : k ≤ 200) : (b ^ k).natAbs.log2 < 801 := by
  refine log2_small ?_ (by omega)
  rw [Int.natAbs_pow]
  have : b.natAbs ^ k ≤ 16 ^ k := Nat.pow_le_pow_left (by omega) k
  have h2 : (16 : Nat) ^ k = 2 ^ (4 * k) := by rw [Nat.pow_mul]
  have h3 : 2 ^ (4 * k) < 2 ^ 801 := Nat.pow_lt_pow_right (by decide) (by omega)
  rw [h2] at this
  exact Nat.lt_of_le_of_lt this h3
def ptT (p : Pt) : T := .tuple [.int p.1, .int p.2.1, .int (p.2.2 : Int)]
def kT (ps : List Pt) : T := .tuple (ps.map ptT)
def bkT (B : Nat) (ks : List (List Pt)) : T := .tuple [.int (B : Int), .tuple (ks.map kT)]
abbrev nT (n : Nat) : T := .int (n : Int)
theorem dd_nodup {α : Type} [DecidableEq α] : ∀ {xs : List α}, xs.Nodup → dd xs = xs
  | [], _ => rfl
  | x :: xs, h => by rw [dd, if_neg (List.nodup_cons.mp h).1, dd_nodup (List.nodup_cons.mp h).2]
theorem good_kd {B : Nat} {ks : List (List Pt)} (g : Good B ks) {ps : List Pt} (h : ps ∈ ks) : isKd (B : Int) (ks.length : Int) (kT ps) = true := by
  have h1 := g.len ps h
  have h2 := g.nod ps h
  have h3 := g.rng ps h
  have e1 : ((ps.map ptT).map i3) = (ps.map fun p => (p.1, p.2.1)).map fun c => [c.1, c.2] := by
    rw [List.map_map, List.map_map]; rfl
  have e2 : ((ps.map ptT).map i3).Nodup := by
    rw [e1]
    refine List.Pairwise.map _ (fun a b hab z => hab ?_) h2
    have z1 : a.1 = b.1 := by injection z
    have z2 : a.2 = b.2 := by injection z with _ z; injection z
    exact Prod.ext z1 z2
  show (decide (((ps.map ptT).length : Int) = (B : Int) * (B : Int)) && (((ps.map ptT).map (isP (B : Int) (ks.length : Int))).all id && decide (((dd ((ps.map ptT).map i3)).length : Int) = (B : Int) * (B : Int)))) = true
  simp only [dd_nodup e2, List.length_map, h1, Int.natCast_mul, decide_true, Bool.true_and, Bool.and_true, List.all_eq_true]
  intro b hb
  rw [List.map_map] at hb
  obtain ⟨p, hp, rfl⟩ := List.mem_map.mp hb
  obtain ⟨⟨q1, q2⟩, ⟨q3, q4⟩, q5⟩ := h3 p hp
  show (isI (B : Int) (.int p.1) && (isI (B : Int) (.int p.2.1) && isI (ks.length : Int) (.int (p.2.2 : Int)))) = true
  simp only [isI, Bool.and_eq_true, decide_eq_true_eq]
  omega
theorem good_bk {B : Nat} {ks : List (List Pt)} (g : Good B ks) : isBk (bkT B ks) = true := by
  show ((decide ((2 : Int) = (B : Int)) || decide ((3 : Int) = (B : Int))) && (decide (0 < (ks.map kT).length) && ((ks.map kT).map (isKd (B : Int) ((ks.map kT).length : Int))).all id)) = true
  rw [List.length_map]
  have h1 : (decide ((2 : Int) = (B : Int)) || decide ((3 : Int) = (B : Int))) = true := by
    rcases g.hb with h | h <;> subst h <;> rfl
  rw [h1, decide_eq_true g.pos, Bool.true_and, Bool.true_and, List.all_eq_true]
  intro b hb
  rw [List.map_map] at hb
  obtain ⟨ps, hp, rfl⟩ := List.mem_map.mp hb
  exact good_kd g hp
theorem good_few {B : Nat} {ks : List (List Pt)} (g : Good B ks) : fewK (bkT B ks) = true := by
  show decide ((ks.map kT).length ≤ sizeLine) = true
  have := g.few
  rw [List.length_map]
  refine decide_eq_true ?_
  unfold sizeLine; omega
structure PlOk (B : Nat) (ps : List (Int × Int)) : Prop where
  len : ps.length = B * B
  nod : ps.Nodup
  rng : ∀ c ∈ ps, (0 ≤ c.1 ∧ c.1 < (B : Int)) ∧ (0 ≤ c.2 ∧ c.2 < (B : Int))
theorem PlOk.perm {B : Nat} {ps qs : List (Int × Int)} (h : PlOk B ps) (p : qs.Perm ps) : PlOk B qs :=
  ⟨p.length_eq.trans h.len, p.nodup_iff.mpr h.nod, fun c hc => h.rng c (p.mem_iff.mp hc)⟩
inductive Pl : Nat → T → Prop
  | int (n : Nat) (i : Int) : Pl n (.int i)
  | tup {n : Nat} {xs : List T} : (∀ x ∈ xs, Pl n x) → xs.length ≤ 100000 → Pl (n + 1) (.tuple xs)
  | lst {n : Nat} {xs : List T} : (∀ x ∈ xs, Pl n x) → xs.length ≤ 100000 → Pl (n + 1) (.list xs)
theorem layAll {xs : List T} (h : ∀ x ∈ xs, PyData.canLay0 x = true) : PyData.canLayAll0 xs = true := by
  induction xs with
  | nil => rfl
  | cons x xs ih => rw [PyData.canLayAll0, h x List.mem_cons_self, ih fun y hy => h y (List.mem_cons_of_mem _ hy)]; rfl
theorem depAll {n : Nat} {xs : List T} (h : ∀ x ∈ xs, PyData.depth x ≤ n) : PyData.depthAll xs ≤ n := by
  induction xs with
  | nil => exact Nat.zero_le _
  | cons x xs ih => rw [PyData.depthAll]; exact Nat.max_le.mpr ⟨h x List.mem_cons_self, ih fun y hy => h y (List.mem_cons_of_mem _ hy)⟩
theorem Pl.lay {n : Nat} {t : T} (h : Pl n t) : PyData.canLay0 t = true ∧ PyData.depth t ≤ n := by
  induction h with
  | int n i => exact ⟨rfl, Nat.zero_le _⟩
  | tup h hl ih => exact ⟨by rw [PyData.canLay0]; exact layAll fun x hx => (ih x hx).1, by rw [PyData.depth]; exact Nat.succ_le_succ (depAll fun x hx => (ih x hx).2)⟩
  | lst h hl ih => exact ⟨by rw [PyData.canLay0]; exact layAll fun x hx => (ih x hx).1, by rw [PyData.depth]; exact Nat.succ_le_succ (depAll fun x hx => (ih x hx).2)⟩
theorem Pl.shaped {n : Nat} {t : T} (h : Pl n t) (hn : n ≤ 64) : SeqAt.shaped t = true := by
  unfold SeqAt.shaped
  rw [h.lay.1, Bool.true_and]
  exact decide_eq_true (Nat.le_trans h.lay.2 hn)
theorem ix_list (xs : List T) (k : Nat) (x : T) (h : xs[k]? = some x) : gIx (.list xs) (.int (k : Int)) = some (.r x) := by
  obtain ⟨hk, e⟩ := List.getElem?_eq_some_iff.mp h
  simp [gIx, L2.atI, L2.ixN, hk, e]
theorem ix_tup (xs : List T) (k : Nat) (x : T) (h : xs[k]? = some x) : gIx (.tuple xs) (.int (k : Int)) = some (.r x) := by
  obtain ⟨hk, e⟩ := List.getElem?_eq_some_iff.mp h
  simp [gIx, L2.atI, L2.ixN, hk, e]
theorem pl_cT (c : Int × Int) : Pl 1 (cT c) := .tup (fun x hx => by
  rcases List.mem_cons.mp hx with rfl | hx
  · exact .int _ _
  · rcases List.mem_cons.mp hx with rfl | hx
    · exact .int _ _
    · cases hx) (by simp)
theorem pl_map {α : Type} {n : Nat} (f : α → T) (h : ∀ a, Pl n (f a)) (l : List α) (hl : l.length ≤ 100000) : Pl (n + 1) (.list (l.map f)) := .lst (fun x hx => by obtain ⟨a, _, rfl⟩ := List.mem_map.mp hx; exact h a) (by rw [List.length_map]; exact hl)
structure RowOk (B n : Nat) (ps : List Pt) : Prop where
  len : ps.length = B * B
  rng : ∀ p ∈ ps, (0 ≤ p.1 ∧ p.1 < (B : Int)) ∧ (0 ≤ p.2.1 ∧ p.2.1 < (B : Int)) ∧ p.2.2 < n
  nod : (ps.map fun p => (p.1, p.2.1)).Nodup
theorem row_of {B n : Nat} {cs : List (Int × Int)} {ps : List Pt} (h : PlOk B cs) (e : (ps.map fun p => (p.1, p.2.1)) = cs) (hn : ∀ p ∈ ps, p.2.2 < n) : RowOk B n ps := by
  refine ⟨?_, fun p hp => ?_, by rw [e]; exact h.nod⟩
  · rw [← h.len, ← e, List.length_map]
  · have := h.rng (p.1, p.2.1) (by rw [← e]; exact List.mem_map_of_mem (f := fun p : Pt => (p.1, p.2.1)) hp)
    exact ⟨this.1, this.2, hn p hp⟩
theorem good_of {B : Nat} {ks : List (List Pt)} (hb : B = 2 ∨ B = 3) (h0 : 0 < ks.length) (h1 : ks.length ≤ 20) (h : ∀ ps ∈ ks, RowOk B ks.length ps) : Good B ks :=
  ⟨hb, h0, h1, fun ps hp => (h ps hp).len, fun ps hp => (h ps hp).rng, fun ps hp => (h ps hp).nod⟩
theorem pl_mono {n : Nat} {t : T} (h : Pl n t) : ∀ m, n ≤ m → Pl m t := by
  induction h with
  | int n i => exact fun m _ => .int m i
  | tup h hl ih => intro m hm; obtain ⟨k, rfl⟩ : ∃ k, m = k + 1 := ⟨m - 1, by omega⟩; exact .tup (fun x hx => ih x hx k (by omega)) hl
  | lst h hl ih => intro m hm; obtain ⟨k, rfl⟩ : ∃ k, m = k + 1 := ⟨m - 1, by omega⟩; exact .lst (fun x hx => ih x hx k (by omega)) hl
theorem all_refl {xs : List T} (h : ∀ x ∈ xs, PyData.eqv x x = true) : PyData.eqvAll xs xs = true := by
  induction xs with
  | nil => rfl
  | cons x xs ih => rw [PyData.eqvAll, h x List.mem_cons_self, ih fun y hy => h y (List.mem_cons_of_mem _ hy)]; rfl
theorem Pl.eqv {n : Nat} {t : T} (h : Pl n t) : PyData.eqv t t = true := by
  induction h with
  | int n i => rw [PyData.eqv]; simp
  | tup h hl ih => rw [PyData.eqv]; exact all_refl ih
  | lst h hl ih => rw [PyData.eqv]; exact all_refl ih
/-- books are trees -/
theorem pl_ptT (p : Pt) : Pl 1 (ptT p) := .tup (fun x hx => by
  simp only [List.mem_cons, List.not_mem_nil, or_false] at hx
  rcases hx with rfl | rfl | rfl <;> exact .int _ _) (by simp)
theorem pl_bkT {B : Nat} {ks : List (List Pt)} (g : Good B ks) : Pl 4 (bkT B ks) := by
  have hB : B * B ≤ 9 := by rcases g.hb with h | h <;> subst h <;> decide
  have hf := g.few
  refine .tup (fun x hx => ?_) (by simp)
  simp only [List.mem_cons, List.not_mem_nil, or_false] at hx
  rcases hx with rfl | rfl
  · exact .int _ _
  · refine .tup (fun y hy => ?_) (by rw [List.length_map]; omega)
    obtain ⟨ps, hp, rfl⟩ := List.mem_map.mp hy
    refine .tup (fun z hz => ?_) (by rw [List.length_map, g.len ps hp]; omega)
    obtain ⟨p, _, rfl⟩ := List.mem_map.mp hz
    exact pl_ptT p
theorem eqv_c2 (a b : Int × Int) : PyData.eqv (cT a) (cT b) = decide (a = b) := by
  show ((a.1 == b.1) && ((a.2 == b.2) && true)) = _
  rw [Bool.and_true]
  by_cases h : a = b
  · subst h; simp
  · rw [decide_eq_false h]
    by_cases h1 : a.1 = b.1
    · have h2 : ¬ a.2 = b.2 := fun z => h (Prod.ext h1 z)
      simp [h2]
    · simp [h1]
end Lw


set_option linter.all false
set_option maxRecDepth 100000
set_option maxHeartbeats 4000000
namespace Lw
open PySem PySem.Spec Ev Pu Mt Wp
local macro_rules | `(tactic| decreasing_trivial_pre_omega) => `(tactic| (first | with_reducible apply Wp.w_seq | with_reducible apply Wp.w_drop | with_reducible apply Wp.w_if | with_reducible apply Wp.w_set | with_reducible apply Wp.w_ret | with_reducible apply Wp.w_asg | with_reducible apply Wp.w_par | with_reducible apply Wp.w_op2 | with_reducible apply Wp.w_acons | with_reducible apply Wp.w_fng | with_reducible apply Wp.w_tup | with_reducible apply Wp.w_lst | with_reducible apply Wp.w_call | with_reducible apply Wp.w_callk | with_reducible apply Wp.w_eand | with_reducible apply Wp.w_eor | with_reducible apply Wp.w_enot | with_reducible apply Wp.w_eif | with_reducible apply Wp.w_tb | with_reducible apply Wp.w_tnot | with_reducible apply Wp.w_tand | with_reducible apply Wp.w_tor | with_reducible apply Wp.w_neg | with_reducible apply Wp.w_isi | with_reducible apply Wp.w_sl | with_reducible apply Wp.w_pso | with_reducible apply Wp.w_rev | with_reducible apply Wp.w_index | with_reducible apply Wp.w_for | with_reducible apply Wp.w_iof | with_reducible apply Wp.w_r1 | with_reducible apply Wp.w_r2 | with_reducible apply Wp.w_comp | with_reducible apply Wp.w_compG | with_reducible apply Wp.w_izip | with_reducible apply Wp.w_izip2 | with_reducible apply Wp.w_ienu | with_reducible apply Wp.w_setix | with_reducible apply Wp.w_join | with_reducible apply Wp.kjoin1 | with_reducible apply Wp.w_fmt | with_reducible apply Wp.w_js_nil | with_reducible apply Wp.w_js | with_reducible apply Wp.w_dictp | with_reducible apply Wp.w_putS | with_reducible apply Wp.putS_nil | with_reducible apply Wp.w_r2w | with_reducible apply Wp.w_nil | with_reducible apply Wp.w_brk | with_reducible apply Wp.w_cnt | with_reducible apply Wp.w_retN | with_reducible apply Wp.w_k | with_reducible apply Wp.w_anil | with_reducible apply Wp.w_pno | with_reducible apply Wp.w_true | with_reducible apply Wp.w_rep | with_reducible apply Wp.krep1 | with_reducible apply Wp.w_mdict1 | with_reducible apply Wp.w_mnew | with_reducible apply Wp.w_min | with_reducible apply Wp.w_mput | with_reducible apply Wp.w_dput | with_reducible apply Wp.kmd1 | with_reducible apply Wp.ksl_ | with_reducible apply Wp.ksl1 | with_reducible apply Wp.ktwo1 | with_reducible apply Wp.kcons1 | with_reducible apply Wp.kseq_rt | with_reducible apply Wp.kseq_bk | with_reducible apply Wp.kseq_ct | with_reducible apply Wp.kret_r | with_reducible apply Wp.kret_b | with_reducible apply Wp.ktb | with_reducible apply Wp.kfun_rt | with_reducible apply Wp.kfun_nx | with_reducible apply Wp.kturn_nx | with_reducible apply Wp.kturn_ct | with_reducible apply Wp.kturn_rt | with_reducible apply Wp.kturn_bk | ((with_reducible apply Wp.kseq_nx_n); (focus (((try simp only [Ev.wb, Ev.bk, List.set_cons_zero, List.set_cons_succ, List.getElem?_cons_zero, List.getElem?_cons_succ, List.cons_append, List.nil_append, List.append_nil]); rfl); done))) | ((with_reducible apply Wp.kback_r_n); (focus (((try simp only [Ev.wb, Ev.bk, List.set_cons_zero, List.set_cons_succ, List.getElem?_cons_zero, List.getElem?_cons_succ, List.cons_append, List.nil_append, List.append_nil]); rfl); done))) | ((with_reducible apply Wp.kback_b_n); (focus (((try simp only [Ev.wb, Ev.bk, List.set_cons_zero, List.set_cons_succ, List.getElem?_cons_zero, List.getElem?_cons_succ, List.cons_append, List.nil_append, List.append_nil]); rfl); done))) | ((with_reducible apply Wp.w_var_v); (focus (rfl; done))) | ((with_reducible apply Wp.w_var_o); (focus (rfl; done))) | ((with_reducible apply Wp.w_var_f); (focus (rfl; done))) | ((with_reducible apply Wp.kset_r); (focus (exact (by first | rfl | exact Wp.isLent_of rfl (by assumption)); done))) | ((with_reducible apply Wp.kset_b); (focus (exact (by first | rfl | exact Wp.isLent_of rfl (by assumption)); done))) | ((with_reducible apply Wp.kset_s); (focus (exact (by first | rfl | exact Wp.isLent_of rfl (by assumption)); done)); (focus (rfl; done))) | ((with_reducible apply Wp.kret_so); (focus (rfl; done))) | ((with_reducible apply Wp.kasg); (focus (rfl; done)); (focus ((first | rfl | (repeat' (first | refine Wp.gN_ok (by first | rfl | exact Wp.isLent_of rfl (by assumption)) rfl | refine Wp.gsNil_ok rfl | with_reducible apply Wp.gsCons_ok | apply Wp.gT_ok rfl))); done))) | ((with_reducible apply Wp.kpar); (focus (rfl; done)); (focus ((repeat (first | refine Wp.setOs_nil rfl | (apply Wp.setOs_r; (focus exact (by first | rfl | exact Wp.isLent_of rfl (by assumption)))) | (apply Wp.setOs_b; (focus exact (by first | rfl | exact Wp.isLent_of rfl (by assumption)))))); done))) | ((with_reducible apply Wp.ktwo2); (focus (rfl; done)); (focus (rfl; done)); (focus ((first | with_reducible assumption | with_reducible exact Wp.gEq_e _ _ | with_reducible exact Wp.gEq_n _ _ | with_reducible exact Wp.gEq_i _ _ _ | exact Wp.gAppend_ok (by assumption) | exact Wp.gIx_l (by assumption) | exact Wp.gIx_t (by assumption) | exact Wp.gStr_ok (by assumption) | exact Ev.gLenS_ok (by assumption) | exact Wp.gAdd_ss (by assumption) | exact Ev.gMulX_ok (by assumption) | exact Wp.gAdd_tt (by assumption) | exact Wp.gAdd_ll (by assumption) | exact Wp.gMul_ok (by assumption) | exact Wp.gMod_ok (by assumption) | exact Wp.gDiv_ok (by assumption) (by assumption) | rfl | assumption | exact Ev.gPowW_ok (by assumption)); done))) | ((with_reducible apply Wp.kfng); (focus (rfl; done)); (focus ((first | with_reducible assumption | with_reducible exact Wp.gEq_e _ _ | with_reducible exact Wp.gEq_n _ _ | with_reducible exact Wp.gEq_i _ _ _ | exact Wp.gAppend_ok (by assumption) | exact Wp.gIx_l (by assumption) | exact Wp.gIx_t (by assumption) | exact Wp.gStr_ok (by assumption) | exact Ev.gLenS_ok (by assumption) | exact Wp.gAdd_ss (by assumption) | exact Ev.gMulX_ok (by assumption) | exact Wp.gAdd_tt (by assumption) | exact Wp.gAdd_ll (by assumption) | exact Wp.gMul_ok (by assumption) | exact Wp.gMod_ok (by assumption) | exact Wp.gDiv_ok (by assumption) (by assumption) | rfl | assumption | exact Ev.gPowW_ok (by assumption)); done))) | ((with_reducible apply Wp.kdisp_t); (focus (rfl; done)); (focus (rfl; done))) | ((with_reducible apply Wp.kdisp_l); (focus (rfl; done)); (focus (rfl; done))) | ((with_reducible apply Wp.kcall); (focus (rfl; done)); (focus (rfl; done)); (focus (exact of_decide_eq_true rfl; done))) | ((with_reducible apply Wp.kcallk); (focus (decide; done)); (focus (exact ⟨rfl, rfl⟩; done)); (focus (rfl; done)); (focus (exact of_decide_eq_true rfl; done))) | ((with_reducible apply Wp.w_mut); (focus (rfl; done))) | ((with_reducible apply Wp.kmut2); (focus (rfl; done)); (focus (rfl; done)); (focus ((first | with_reducible assumption | with_reducible exact Wp.gEq_e _ _ | with_reducible exact Wp.gEq_n _ _ | with_reducible exact Wp.gEq_i _ _ _ | exact Wp.gAppend_ok (by assumption) | exact Wp.gIx_l (by assumption) | exact Wp.gIx_t (by assumption) | exact Wp.gStr_ok (by assumption) | exact Ev.gLenS_ok (by assumption) | exact Wp.gAdd_ss (by assumption) | exact Ev.gMulX_ok (by assumption) | exact Wp.gAdd_tt (by assumption) | exact Wp.gAdd_ll (by assumption) | exact Wp.gMul_ok (by assumption) | exact Wp.gMod_ok (by assumption) | exact Wp.gDiv_ok (by assumption) (by assumption) | rfl | assumption | exact Ev.gPowW_ok (by assumption)); done))) | ((with_reducible apply Wp.kif_t); (focus (rfl; done))) | ((with_reducible apply Wp.kif_f); (focus (rfl; done))) | ((with_reducible apply Wp.kif_t); (focus (assumption; done))) | ((with_reducible apply Wp.kif_f); (focus (assumption; done))) | ((with_reducible apply Wp.kife_t); (focus (rfl; done))) | ((with_reducible apply Wp.kife_f); (focus (rfl; done))) | ((with_reducible apply Wp.kand_t); (focus (rfl; done))) | ((with_reducible apply Wp.kand_f); (focus (rfl; done))) | ((with_reducible apply Wp.kor_t); (focus (rfl; done))) | ((with_reducible apply Wp.kor_f); (focus (rfl; done))) | ((with_reducible apply Wp.kande_t); (focus (rfl; done))) | ((with_reducible apply Wp.kande_f); (focus (rfl; done))) | ((with_reducible apply Wp.kore_t); (focus (rfl; done))) | ((with_reducible apply Wp.kore_f); (focus (rfl; done))) | ((with_reducible apply Wp.ktb_s); (focus (rfl; done))) | ((with_reducible apply Wp.kneg); (focus (rfl; done))) | ((with_reducible apply Wp.kisi); (focus (rfl; done))) | ((with_reducible apply Wp.kpso); (focus (rfl; done))) | ((with_reducible apply Wp.kof_l); (focus (rfl; done))) | ((with_reducible apply Wp.kof_t); (focus (rfl; done))) | ((with_reducible apply Wp.krev_l); (focus (rfl; done))) | ((with_reducible apply Wp.krev_t); (focus (rfl; done))) | ((with_reducible apply Wp.kindex1_); (focus (rfl; done))) | ((with_reducible apply Wp.kjoin2); (focus (rfl; done)); (focus (assumption; done)); (focus (assumption; done))) | ((with_reducible apply Wp.kfmt_s); (focus (rfl; done)); (focus (assumption; done))) | ((with_reducible apply Wp.kfmt_i); (focus (rfl; done)); (focus (assumption; done))) | ((with_reducible apply Wp.kjs); (focus (assumption; done))) | ((with_reducible apply Wp.ksl2_l); (focus (rfl; done))) | ((with_reducible apply Wp.ksl2_t); (focus (rfl; done))) | ((with_reducible apply Wp.w_mget); (focus (rfl; done))) | ((with_reducible apply Wp.kmget); (focus (rfl; done)); (focus (rfl; done)); (focus (rfl; done)); (focus (assumption; done))) | ((with_reducible apply Wp.kmin); (focus (rfl; done)); (focus (rfl; done)); (focus (rfl; done)); (focus (assumption; done))) | ((with_reducible apply Wp.kmput1); (focus (rfl; done))) | ((with_reducible apply Wp.kmput2); (focus (rfl; done)); (focus (rfl; done)); (focus (rfl; done)); (focus (rfl; done)); (focus (assumption; done))) | ((with_reducible apply Wp.kmd2); (focus (rfl; done)); (focus (rfl; done))) | ((with_reducible apply Wp.w_dget); (focus (rfl; done))) | ((with_reducible apply Wp.kdget); (focus (rfl; done)); (focus (rfl; done)); (focus (rfl; done)); (focus (assumption; done))) | ((with_reducible apply Wp.kdput1); (focus (rfl; done))) | ((with_reducible apply Wp.kdput2); (focus (rfl; done)); (focus (rfl; done)); (focus (rfl; done)); (focus (rfl; done)); (focus (assumption; done))) | ((with_reducible apply Wp.ksetix1); (focus (rfl; done))) | ((with_reducible apply Wp.ksetix2); (focus (rfl; done)); (focus (rfl; done)); (focus (rfl; done)); (focus ((first | rfl | assumption | exact Wp.ixN_nat (by assumption)); done))) | ((with_reducible apply Wp.kdictp); (focus (rfl; done)); (focus (assumption; done))) | ((with_reducible apply Wp.kputS); (focus (rfl; done)); (focus (rfl; done)); (focus (rfl; done))) | ((with_reducible apply Wp.putS_l); (focus (rfl; done))) | ((with_reducible apply Wp.putS_d); (focus (rfl; done))) | ((with_reducible apply Wp.kputL); (focus (rfl; done)); (focus (rfl; done)); (focus ((first | rfl | assumption | exact Wp.ixN_nat (by assumption)); done))) | ((with_reducible apply Wp.kputD); (focus (rfl; done)); (focus (rfl; done)); (focus (rfl; done)); (focus (assumption; done))) | ((with_reducible apply Wp.kr2w); (focus (rfl; done))) | ((with_reducible apply Wp.kzip); (focus (rfl; done))) | ((with_reducible apply Wp.w_inmG); (focus (rfl; done)); (focus (rfl; done))) | ((with_reducible apply Wp.w_izipV_l); (focus (rfl; done)); (focus (rfl; done)); (focus (rfl; done)); (focus (rfl; done))) | ((with_reducible apply Wp.w_izipV_r); (focus (rfl; done)); (focus (rfl; done)); (focus (rfl; done)); (focus (rfl; done))) | ((with_reducible apply Wp.kzip2_l); (focus (rfl; done))) | ((with_reducible apply Wp.kzip2_t); (focus (rfl; done))) | ((with_reducible apply Wp.kenu); (focus (rfl; done))) | ((with_reducible apply Wp.w_aug); (focus (rfl; done))) | ((with_reducible apply Wp.kaug); (focus (rfl; done)); (focus ((first | with_reducible assumption | with_reducible exact Wp.gEq_e _ _ | with_reducible exact Wp.gEq_n _ _ | with_reducible exact Wp.gEq_i _ _ _ | exact Wp.gAppend_ok (by assumption) | exact Wp.gIx_l (by assumption) | exact Wp.gIx_t (by assumption) | exact Wp.gStr_ok (by assumption) | exact Ev.gLenS_ok (by assumption) | exact Wp.gAdd_ss (by assumption) | exact Ev.gMulX_ok (by assumption) | exact Wp.gAdd_tt (by assumption) | exact Wp.gAdd_ll (by assumption) | exact Wp.gMul_ok (by assumption) | exact Wp.gMod_ok (by assumption) | exact Wp.gDiv_ok (by assumption) (by assumption) | rfl | assumption | exact Ev.gPowW_ok (by assumption)); done)); (focus (exact (by first | rfl | exact Wp.isLent_of rfl (by assumption)); done))) | ((with_reducible apply Wp.kelt); (focus (rfl; done)))))
theorem mulOk_of {i j : Int} (a b : Nat) (h1 : i.natAbs.log2 < a) (h2 : j.natAbs.log2 < b) (h : a + b ≤ 1000000) : mulOk i j = true := by
  unfold mulOk
  exact decide_eq_true (by omega)
theorem toNat_lt {x : Int} {n : Nat} (h : 0 < n) : (x % (n : Int)).toNat < n ∧ ((x % (n : Int)).toNat : Int) = x % (n : Int) := by
  have h1 := Int.emod_nonneg x (show (n : Int) ≠ 0 by omega)
  have h2 := Int.emod_lt_of_pos x (show (0 : Int) < n by omega)
  omega
theorem log2_le_bits {i : Int} : i.natAbs.log2 ≤ Builtin.Int.intBits i := by
  unfold Builtin.Int.intBits
  split
  · rename_i h
    simp at h
    subst h
    decide
  · omega
structure Dk where
  a : Int
  m : Int
  c : Nat
  h : 0 ≤ m ∧ m < 2 ^ 100
def dkT (D : Dk) : List T := [.int D.a, .int D.m, .int (D.c : Int)]
def scT (ns : List Int) : T := .list (ns.map PyData.int)
theorem ix_sc (ns : List Int) (k : Nat) (h : k < ns.length) : gIx (scT ns) (nT k) = some (.r (.int ns[k])) :=
  gIx_l (by rw [List.getElem?_map, List.getElem?_eq_getElem h]; rfl)
theorem well_end (ns : List Int) (k : Nat) (hk : k < 1000) (x : Int) (hx : x.natAbs.log2 < 90000000) (Q : Od → En → Prop) (q : ∀ D : Dk, D.c = 0 → Q (.b (.l (dkT D))) [.v (scT ns), .v (nT k)]) :
    W ((sRet (eLst (aCons (eFn gMax2 (aCons (eK (.int 0)) (aCons (eOp2 gSub (eFn gAbs (aCons (eVar 2) aNil)) (eOp2 gPow (eK (.int 10)) (eK (.int 18)))) aNil))) (aCons (eOp2 gMod (eFn gInt (aCons (eOp2 gAdd (eOp2 gAdd (eOp2 gMulX (eVar 2) (eK (.int 86028157))) (eOp2 gMulX (eVar 1) (eK (.int 179424691)))) (eK (.int 7919))) aNil)) (eOp2 gAdd (eOp2 gPow (eK (.int 10)) (eK (.int 25))) (eK (.int 13)))) (aCons (eK (.int 0)) aNil))))) [.v (scT ns), .v (nT k), .v (.int x)]) (KFun [.v (scT ns), .v (nT k)] Q) := by
  have c3 : (86028157 : Int).natAbs.log2 < 64 := by decide
  have c4 : (179424691 : Int).natAbs.log2 < 64 := by decide
  have ck : ((k : Int)).natAbs.log2 < 64 := log2_small (by omega) (by decide)
  have m4 : ((k : Int)).natAbs.log2 + (179424691 : Int).natAbs.log2 < 100000000 := by omega
  have m3 : x.natAbs.log2 + (86028157 : Int).natAbs.log2 < 100000000 := by omega
  repeat' decreasing_trivial_pre_omega
  have b1 : (0 : Int) ≤ (x * 86028157 + (k : Int) * 179424691 + 7919) % ((10 : Int) ^ Int.toNat 25 + 13) ∧ (x * 86028157 + (k : Int) * 179424691 + 7919) % ((10 : Int) ^ Int.toNat 25 + 13) < 2 ^ 100 := by
    have h1 := Int.emod_nonneg (x * 86028157 + (k : Int) * 179424691 + 7919) (show ((10 : Int) ^ Int.toNat 25 + 13) ≠ 0 by decide)
    have h2 := Int.emod_lt_of_pos (x * 86028157 + (k : Int) * 179424691 + 7919) (show 0 < ((10 : Int) ^ Int.toNat 25 + 13) by decide)
    exact ⟨h1, Int.lt_trans h2 (by decide)⟩
  exact q ⟨_, _, 0, b1⟩ rfl
theorem well_w (ns : List Int) (hb : ∀ k ∈ ns, Builtin.Int.intBits k ≤ 1048576) (hn : ns.length ≤ 63) (k : Nat) (hk : k < 1000) : W (m__law_well [.v (scT ns), .v (nT k)]) fun r e => ∃ D : Dk, D.c = 0 ∧ r = .b (.l (dkT D)) ∧ e = [.v (scT ns), .v (nT k)] := by
  have ck : ((k : Int)).natAbs.log2 < 64 := log2_small (by omega) (by decide)
  unfold m__law_well
  (apply Wp.w_fun; (focus (rfl; done)); (focus (((try simp only [List.cons_append, List.nil_append, List.length_cons, List.length_nil, Nat.reduceAdd, Nat.reduceSub, Nat.zero_add, Nat.sub_zero, List.replicate_succ, List.replicate_zero, List.append_nil]); rfl); done)))
  unfold b__law_well
  refine w_seq ?_
  refine w_set ?_
  refine w_imp (P := fun r e => ∃ x : Int, x.natAbs.log2 < 90000000 ∧ r = .r (.int x) ∧ e = [.v (scT ns), .v (nT k), .un]) ?_ ?_
  · repeat' decreasing_trivial_pre_omega
    refine kife_d (fun h => ?_) fun h => ?_
    · rw [List.length_map] at h
      have hx := ix_sc ns k (by omega)
      have hbx := hb ns[k] (List.getElem_mem _)
      generalize ns[k] = x at hx hbx
      repeat' decreasing_trivial_pre_omega
      exact ⟨x, by have := log2_le_bits (i := x); omega, rfl, rfl⟩
    · have cl : (((ns.map PyData.int).length : Nat) : Int).natAbs.log2 < 64 := log2_small (by rw [List.length_map]; omega) (by decide)
      have c1 : (104723 : Int).natAbs.log2 < 64 := by decide
      have c2 : (15485863 : Int).natAbs.log2 < 64 := by decide
      have m1 : ((k : Int)).natAbs.log2 + (104723 : Int).natAbs.log2 < 100000000 := by omega
      have m2 : (((ns.map PyData.int).length : Nat) : Int).natAbs.log2 + (15485863 : Int).natAbs.log2 < 100000000 := by omega
      repeat' decreasing_trivial_pre_omega
      refine ⟨_, ?_, rfl, rfl⟩
      have : ((k : Int) * 104723 + ((ns.map PyData.int).length : Int) * 15485863).natAbs.log2 < 100 := log2_small (by rw [List.length_map]; omega) (by decide)
      omega
  · rintro _ _ ⟨x, hx, rfl, rfl⟩
    refine kset_r rfl (kseq_nx_n (e2 := [.v (scT ns), .v (nT k), .v (.int x)]) rfl ?_)
    refine well_end ns k hk x hx _ ?_
    exact fun D hD => ⟨D, hD, rfl, rfl⟩
theorem drw_w (D : Dk) (n : Nat) (h : 0 < n) (hn : n < 2 ^ 200) (hc : D.c < 10 ^ 9) :
    W (m__law_draw [.ow true (.l (dkT D)), .v (nT n)]) fun r e => ∃ (v : Nat) (D' : Dk), v < n ∧ D'.c ≤ D.c + 1 ∧ r = .r (nT v) ∧ e = [.ow true (.l (dkT D')), .v (nT n)] := by
  have hp : (0 : Int) < (n : Int) := by omega
  have hl : (n : Int).natAbs.log2 < 9000 := by
    have : (n : Int).natAbs.log2 < 200 := log2_small (by simpa using hn) (by decide)
    omega
  unfold m__law_draw
  (apply Wp.w_fun; (focus (rfl; done)); (focus (((try simp only [List.cons_append, List.nil_append, List.length_cons, List.length_nil, Nat.reduceAdd, Nat.reduceSub, Nat.zero_add, Nat.sub_zero, List.replicate_succ, List.replicate_zero, List.append_nil]); rfl); done)))
  unfold b__law_draw
  repeat' decreasing_trivial_pre_omega
  refine kif_d (fun ha => ?_) fun ha => ?_
  · repeat' decreasing_trivial_pre_omega
    obtain ⟨q1, q2⟩ := toNat_lt (x := D.a) h
    refine ⟨(D.a % (n : Int)).toNat, ⟨D.a / (n : Int), D.m, D.c, D.h⟩, q1, by simp, ?_, rfl⟩
    unfold nT
    rw [q2]
  · have m1 : mulOk 49979693 ((D.c : Int) + 1) = true := mulOk_of 64 64 (log2_small (by decide) (by decide)) (log2_small (by omega) (by decide)) (by decide)
    have hm := D.h
    have p1 : (0 : Int) ≤ 3 ∧ (3 : Int) ≤ 100 ∧ (D.m + 49979693 * ((D.c : Int) + 1)).natAbs.log2 < 1000000 := ⟨by decide, by decide, by
      have := log2_small (i := D.m + 49979693 * ((D.c : Int) + 1)) (k := 201) (by omega) (by decide)
      omega⟩
    repeat' decreasing_trivial_pre_omega
    have b1 : (0 : Int) ≤ (D.m + 49979693 * ((D.c : Int) + 1)) ^ Int.toNat 3 % ((10 : Int) ^ Int.toNat 29 + 319) ∧ (D.m + 49979693 * ((D.c : Int) + 1)) ^ Int.toNat 3 % ((10 : Int) ^ Int.toNat 29 + 319) < 2 ^ 100 := ⟨Int.emod_nonneg _ (by decide), Int.lt_trans (Int.emod_lt_of_pos _ (by decide)) (by decide)⟩
    generalize (D.m + 49979693 * ((D.c : Int) + 1)) ^ Int.toNat 3 % ((10 : Int) ^ Int.toNat 29 + 319) = x at b1
    have p2 : (0 : Int) ≤ 3 ∧ (3 : Int) ≤ 100 ∧ (x + 2038074751).natAbs.log2 < 1000000 := ⟨by decide, by decide, by
      have := log2_small (i := x + 2038074751) (k := 101) (by omega) (by decide)
      omega⟩
    have d6 : (0 : Int) < (10 : Int) ^ Int.toNat 6 := by decide
    have l6 : ((10 : Int) ^ Int.toNat 6).natAbs.log2 < 9000 := by decide
    repeat' decreasing_trivial_pre_omega
    obtain ⟨q1, q2⟩ := toNat_lt (x := (x + 2038074751) ^ Int.toNat 3 % ((10 : Int) ^ Int.toNat 33 + 33) / (10 : Int) ^ Int.toNat 6) h
    refine ⟨_, ⟨D.a, D.m, D.c + 1, D.h⟩, q1, Nat.le_refl _, ?_, rfl⟩
    unfold nT
    rw [q2]
theorem gPop_ok {ts : List T} {k : Nat} {x : T} (h : ts[k]? = some x) (hl : ts.length ≤ 100000) : gPop ts [.int (k : Int)] = some (ts.eraseIdx k, x) := by
  have hk := (List.getElem?_eq_some_iff.mp h).1
  unfold gPop
  have e : seqIndex? (k : Int) ts.length = some k := by
    unfold seqIndex?
    have h1 : ¬ (k : Int) < 0 := by omega
    simp only [h1, if_false]
    rw [if_pos (by simp; omega)]
    simp
  simp only [e, h]
  rw [if_pos ⟨by omega, by omega⟩]
theorem power_w (b : Nat) (h1 : b ≤ 16) (d : Nat) (hd : d ≤ 200) : m__law_power [.v (nT b), .v (nT d)] = .ok (.r (nT (b ^ d))) [.v (nT b), .v (nT d)] := by
  refine w_eq ?_
  unfold m__law_power
  (apply Wp.w_fun; (focus (rfl; done)); (focus (((try simp only [List.cons_append, List.nil_append, List.length_cons, List.length_nil, Nat.reduceAdd, Nat.reduceSub, Nat.zero_add, Nat.sub_zero, List.replicate_succ, List.replicate_zero, List.append_nil]); rfl); done)))
  unfold b__law_power l1__law_power
  repeat' decreasing_trivial_pre_omega
  refine kr1 (n := d) rfl (by omega) (for_below (fun k e => ∃ l3, lentS l3 = false ∧ e = [.v (nT b), .v (nT d), .v (nT (b ^ k)), l3]) ⟨.un, rfl, rfl⟩ ?_ ?_)
  · rintro k hk e ⟨l3, a3, rfl⟩
    refine ⟨_, gN_ok (by first | rfl | exact Wp.isLent_of rfl (by assumption)) rfl, ?_⟩
    unfold y1__law_power
    have m1 : mulOk ((b ^ k : Nat) : Int) (b : Int) = true := mulOk_of 801 64 (by
      have := pow_small (b := (b : Int)) (by omega) (by omega) k (by omega)
      rw [show ((b ^ k : Nat) : Int) = (b : Int) ^ k by simp]
      exact this) (log2_small (by omega) (by decide)) (by decide)
    repeat' decreasing_trivial_pre_omega
    refine ⟨.v (nT k), rfl, ?_⟩
    unfold nT
    rw [Nat.pow_succ]
    simp
  · rintro e ⟨l3, a3, rfl⟩
    repeat' decreasing_trivial_pre_omega
    exact ⟨rfl, rfl⟩
theorem w_listrng {m : SemE} {Q : Od → En → Prop} {e : En} {n : Nat} (h : W (m e) fun r e1 => r.val e1 = some (nT n) ∧ n ≤ 65536 ∧ Q (.b (.l ((List.range n).map nT))) e1) : W (eListRng m e) Q := by
  unfold eListRng
  refine w_bind (w_imp h fun r e1 ⟨h1, h2, q⟩ => ?_)
  refine ⟨_, _, ?_, q⟩
  rw [h1]
  simp only [nT]
  rw [if_pos ⟨by omega, by omega⟩, Int.toNat_natCast, below_is]
  rfl
theorem erase_map {α β : Type} (f : α → β) : ∀ (xs : List α) (k : Nat), (xs.map f).eraseIdx k = (xs.eraseIdx k).map f
  | [], k => by simp
  | x :: xs, 0 => rfl
  | x :: xs, k + 1 => by
    rw [List.map_cons, List.eraseIdx_cons_succ, List.eraseIdx_cons_succ, List.map_cons, erase_map f xs k]
theorem pop_perm {α : Type} : ∀ {ts : List α} {k : Nat} {x : α}, ts[k]? = some x → (x :: ts.eraseIdx k).Perm ts
  | [], k, x, h => by simp at h
  | t :: ts, 0, x, h => by
    simp at h; subst h; simp
  | t :: ts, k + 1, x, h => by
    rw [List.eraseIdx_cons_succ]
    exact (List.Perm.swap _ _ _).trans ((pop_perm (by simpa using h)).cons t)
theorem order_w (D : Dk) (n : Nat) (hn : n ≤ 100) (hc : D.c + n ≤ 10 ^ 9) : W (m__law_order [.ow true (.l (dkT D)), .v (nT n)]) fun r e => ∃ (D' : Dk) (ys : List Nat), D'.c ≤ D.c + n ∧ ys.Perm (List.range n) ∧ r = .b (.l (ys.map nT)) ∧ e = [.ow true (.l (dkT D')), .v (nT n)] := by
  unfold m__law_order
  (apply Wp.w_fun; (focus (rfl; done)); (focus (((try simp only [List.cons_append, List.nil_append, List.length_cons, List.length_nil, Nat.reduceAdd, Nat.reduceSub, Nat.zero_add, Nat.sub_zero, List.replicate_succ, List.replicate_zero, List.append_nil]); rfl); done)))
  unfold b__law_order l1__law_order
  repeat' decreasing_trivial_pre_omega
  refine w_listrng (n := n) (w_var_v rfl ⟨rfl, by omega, ?_⟩)
  repeat' decreasing_trivial_pre_omega
  refine kr1 (n := n) rfl (by omega) (for_below (fun k e => ∃ (D' : Dk) (rest found : List Nat) (l4 : Sl), lentS l4 = false ∧ D'.c ≤ D.c + k ∧ rest.length + k = n ∧ found.length = k ∧ (found ++ rest).Perm (List.range n) ∧ e = [.ow true (.l (dkT D')), .v (nT n), .ow false (.l (rest.map nT)), .ow false (.l (found.map nT)), l4]) ⟨D, List.range n, [], .un, rfl, by omega, by simp, rfl, List.Perm.refl _, rfl⟩ ?_ ?_)
  · rintro k hk e ⟨D', rest, found, l4, a4, h1, h2, h3, h4, rfl⟩
    refine ⟨_, gN_ok (by first | rfl | exact Wp.isLent_of rfl (by assumption)) rfl, ?_⟩
    unfold y1__law_order
    have hlen : (rest.map nT).length = rest.length := List.length_map _
    repeat' decreasing_trivial_pre_omega
    rw [hlen]
    refine w_imp (drw_w D' rest.length (by omega) (by omega) (by omega)) ?_
    rintro _ _ ⟨v, D2, hv, hc2, rfl, rfl⟩
    have hx : (rest.map nT)[v]? = some (nT rest[v]) := by rw [List.getElem?_map, List.getElem?_eq_getElem hv]; rfl
    have hp := gPop_ok hx (by omega)
    have ha : (found.map nT).length < sizeLine := by rw [List.length_map]; unfold sizeLine; omega
    have h6 := pop_perm (List.getElem?_eq_getElem hv)
    have e1 : (rest.map nT).eraseIdx v = (rest.eraseIdx v).map nT := erase_map _ _ _
    rw [e1] at hp
    generalize rest[v] = x at hp h6
    repeat' decreasing_trivial_pre_omega
    refine ⟨D2, rest.eraseIdx v, found ++ [x], .v (nT k), rfl, by omega, by rw [List.length_eraseIdx_of_lt hv]; omega, by rw [List.length_append, h3]; rfl, ?_, by rw [List.map_append]; rfl⟩
    rw [List.append_assoc]
    exact ((List.Perm.refl found).append h6).trans h4
  · rintro e ⟨D', rest, found, l4, a4, h1, h2, h3, h4, rfl⟩
    repeat' decreasing_trivial_pre_omega
    have hr : rest = [] := List.eq_nil_of_length_eq_zero (by omega)
    subst hr
    rw [List.append_nil] at h4
    exact ⟨D', found, by omega, h4, rfl, rfl⟩
end Lw

set_option linter.all false
set_option maxRecDepth 100000
set_option maxHeartbeats 4000000
namespace Lw
open PySem PySem.Spec Ev Pu Mt Wp
local macro_rules | `(tactic| decreasing_trivial_pre_omega) => `(tactic| (first | with_reducible apply Wp.w_seq | with_reducible apply Wp.w_drop | with_reducible apply Wp.w_if | with_reducible apply Wp.w_set | with_reducible apply Wp.w_ret | with_reducible apply Wp.w_asg | with_reducible apply Wp.w_par | with_reducible apply Wp.w_op2 | with_reducible apply Wp.w_acons | with_reducible apply Wp.w_fng | with_reducible apply Wp.w_tup | with_reducible apply Wp.w_lst | with_reducible apply Wp.w_call | with_reducible apply Wp.w_callk | with_reducible apply Wp.w_eand | with_reducible apply Wp.w_eor | with_reducible apply Wp.w_enot | with_reducible apply Wp.w_eif | with_reducible apply Wp.w_tb | with_reducible apply Wp.w_tnot | with_reducible apply Wp.w_tand | with_reducible apply Wp.w_tor | with_reducible apply Wp.w_neg | with_reducible apply Wp.w_isi | with_reducible apply Wp.w_sl | with_reducible apply Wp.w_pso | with_reducible apply Wp.w_rev | with_reducible apply Wp.w_index | with_reducible apply Wp.w_for | with_reducible apply Wp.w_iof | with_reducible apply Wp.w_r1 | with_reducible apply Wp.w_r2 | with_reducible apply Wp.w_comp | with_reducible apply Wp.w_compG | with_reducible apply Wp.w_izip | with_reducible apply Wp.w_izip2 | with_reducible apply Wp.w_ienu | with_reducible apply Wp.w_setix | with_reducible apply Wp.w_join | with_reducible apply Wp.kjoin1 | with_reducible apply Wp.w_fmt | with_reducible apply Wp.w_js_nil | with_reducible apply Wp.w_js | with_reducible apply Wp.w_dictp | with_reducible apply Wp.w_putS | with_reducible apply Wp.putS_nil | with_reducible apply Wp.w_r2w | with_reducible apply Wp.w_nil | with_reducible apply Wp.w_brk | with_reducible apply Wp.w_cnt | with_reducible apply Wp.w_retN | with_reducible apply Wp.w_k | with_reducible apply Wp.w_anil | with_reducible apply Wp.w_pno | with_reducible apply Wp.w_true | with_reducible apply Wp.w_rep | with_reducible apply Wp.krep1 | with_reducible apply Wp.w_mdict1 | with_reducible apply Wp.w_mnew | with_reducible apply Wp.w_min | with_reducible apply Wp.w_mput | with_reducible apply Wp.w_dput | with_reducible apply Wp.kmd1 | with_reducible apply Wp.ksl_ | with_reducible apply Wp.ksl1 | with_reducible apply Wp.ktwo1 | with_reducible apply Wp.kcons1 | with_reducible apply Wp.kseq_rt | with_reducible apply Wp.kseq_bk | with_reducible apply Wp.kseq_ct | with_reducible apply Wp.kret_r | with_reducible apply Wp.kret_b | with_reducible apply Wp.ktb | with_reducible apply Wp.kfun_rt | with_reducible apply Wp.kfun_nx | with_reducible apply Wp.kturn_nx | with_reducible apply Wp.kturn_ct | with_reducible apply Wp.kturn_rt | with_reducible apply Wp.kturn_bk | ((with_reducible apply Wp.kseq_nx_n); (focus (((try simp only [Ev.wb, Ev.bk, List.set_cons_zero, List.set_cons_succ, List.getElem?_cons_zero, List.getElem?_cons_succ, List.cons_append, List.nil_append, List.append_nil]); rfl); done))) | ((with_reducible apply Wp.kback_r_n); (focus (((try simp only [Ev.wb, Ev.bk, List.set_cons_zero, List.set_cons_succ, List.getElem?_cons_zero, List.getElem?_cons_succ, List.cons_append, List.nil_append, List.append_nil]); rfl); done))) | ((with_reducible apply Wp.kback_b_n); (focus (((try simp only [Ev.wb, Ev.bk, List.set_cons_zero, List.set_cons_succ, List.getElem?_cons_zero, List.getElem?_cons_succ, List.cons_append, List.nil_append, List.append_nil]); rfl); done))) | ((with_reducible apply Wp.w_var_v); (focus (rfl; done))) | ((with_reducible apply Wp.w_var_o); (focus (rfl; done))) | ((with_reducible apply Wp.w_var_f); (focus (rfl; done))) | ((with_reducible apply Wp.kset_r); (focus (exact (by first | rfl | exact Wp.isLent_of rfl (by assumption)); done))) | ((with_reducible apply Wp.kset_b); (focus (exact (by first | rfl | exact Wp.isLent_of rfl (by assumption)); done))) | ((with_reducible apply Wp.kset_s); (focus (exact (by first | rfl | exact Wp.isLent_of rfl (by assumption)); done)); (focus (rfl; done))) | ((with_reducible apply Wp.kret_so); (focus (rfl; done))) | ((with_reducible apply Wp.kasg); (focus (rfl; done)); (focus ((first | rfl | (repeat' (first | refine Wp.gN_ok (by first | rfl | exact Wp.isLent_of rfl (by assumption)) rfl | refine Wp.gsNil_ok rfl | with_reducible apply Wp.gsCons_ok | apply Wp.gT_ok rfl))); done))) | ((with_reducible apply Wp.kpar); (focus (rfl; done)); (focus ((repeat (first | refine Wp.setOs_nil rfl | (apply Wp.setOs_r; (focus exact (by first | rfl | exact Wp.isLent_of rfl (by assumption)))) | (apply Wp.setOs_b; (focus exact (by first | rfl | exact Wp.isLent_of rfl (by assumption)))))); done))) | ((with_reducible apply Wp.ktwo2); (focus (rfl; done)); (focus (rfl; done)); (focus ((first | with_reducible assumption | with_reducible exact Wp.gEq_e _ _ | with_reducible exact Wp.gEq_n _ _ | with_reducible exact Wp.gEq_i _ _ _ | exact Wp.gAppend_ok (by assumption) | exact Wp.gIx_l (by assumption) | exact Wp.gIx_t (by assumption) | exact Wp.gStr_ok (by assumption) | exact Ev.gLenS_ok (by assumption) | exact Wp.gAdd_ss (by assumption) | exact Ev.gMulX_ok (by assumption) | exact Wp.gAdd_tt (by assumption) | exact Wp.gAdd_ll (by assumption) | exact Wp.gMul_ok (by assumption) | exact Wp.gMod_ok (by assumption) | exact Wp.gDiv_ok (by assumption) (by assumption) | rfl | assumption | exact Ev.gPowW_ok (by assumption)); done))) | ((with_reducible apply Wp.kfng); (focus (rfl; done)); (focus ((first | with_reducible assumption | with_reducible exact Wp.gEq_e _ _ | with_reducible exact Wp.gEq_n _ _ | with_reducible exact Wp.gEq_i _ _ _ | exact Wp.gAppend_ok (by assumption) | exact Wp.gIx_l (by assumption) | exact Wp.gIx_t (by assumption) | exact Wp.gStr_ok (by assumption) | exact Ev.gLenS_ok (by assumption) | exact Wp.gAdd_ss (by assumption) | exact Ev.gMulX_ok (by assumption) | exact Wp.gAdd_tt (by assumption) | exact Wp.gAdd_ll (by assumption) | exact Wp.gMul_ok (by assumption) | exact Wp.gMod_ok (by assumption) | exact Wp.gDiv_ok (by assumption) (by assumption) | rfl | assumption | exact Ev.gPowW_ok (by assumption)); done))) | ((with_reducible apply Wp.kdisp_t); (focus (rfl; done)); (focus (rfl; done))) | ((with_reducible apply Wp.kdisp_l); (focus (rfl; done)); (focus (rfl; done))) | ((with_reducible apply Wp.kcall); (focus (rfl; done)); (focus (rfl; done)); (focus (exact of_decide_eq_true rfl; done))) | ((with_reducible apply Wp.kcallk); (focus (decide; done)); (focus (exact ⟨rfl, rfl⟩; done)); (focus (rfl; done)); (focus (exact of_decide_eq_true rfl; done))) | ((with_reducible apply Wp.w_mut); (focus (rfl; done))) | ((with_reducible apply Wp.kmut2); (focus (rfl; done)); (focus (rfl; done)); (focus ((first | with_reducible assumption | with_reducible exact Wp.gEq_e _ _ | with_reducible exact Wp.gEq_n _ _ | with_reducible exact Wp.gEq_i _ _ _ | exact Wp.gAppend_ok (by assumption) | exact Wp.gIx_l (by assumption) | exact Wp.gIx_t (by assumption) | exact Wp.gStr_ok (by assumption) | exact Ev.gLenS_ok (by assumption) | exact Wp.gAdd_ss (by assumption) | exact Ev.gMulX_ok (by assumption) | exact Wp.gAdd_tt (by assumption) | exact Wp.gAdd_ll (by assumption) | exact Wp.gMul_ok (by assumption) | exact Wp.gMod_ok (by assumption) | exact Wp.gDiv_ok (by assumption) (by assumption) | rfl | assumption | exact Ev.gPowW_ok (by assumption)); done))) | ((with_reducible apply Wp.kif_t); (focus (rfl; done))) | ((with_reducible apply Wp.kif_f); (focus (rfl; done))) | ((with_reducible apply Wp.kif_t); (focus (assumption; done))) | ((with_reducible apply Wp.kif_f); (focus (assumption; done))) | ((with_reducible apply Wp.kife_t); (focus (rfl; done))) | ((with_reducible apply Wp.kife_f); (focus (rfl; done))) | ((with_reducible apply Wp.kand_t); (focus (rfl; done))) | ((with_reducible apply Wp.kand_f); (focus (rfl; done))) | ((with_reducible apply Wp.kor_t); (focus (rfl; done))) | ((with_reducible apply Wp.kor_f); (focus (rfl; done))) | ((with_reducible apply Wp.kande_t); (focus (rfl; done))) | ((with_reducible apply Wp.kande_f); (focus (rfl; done))) | ((with_reducible apply Wp.kore_t); (focus (rfl; done))) | ((with_reducible apply Wp.kore_f); (focus (rfl; done))) | ((with_reducible apply Wp.ktb_s); (focus (rfl; done))) | ((with_reducible apply Wp.kneg); (focus (rfl; done))) | ((with_reducible apply Wp.kisi); (focus (rfl; done))) | ((with_reducible apply Wp.kpso); (focus (rfl; done))) | ((with_reducible apply Wp.kof_l); (focus (rfl; done))) | ((with_reducible apply Wp.kof_t); (focus (rfl; done))) | ((with_reducible apply Wp.krev_l); (focus (rfl; done))) | ((with_reducible apply Wp.krev_t); (focus (rfl; done))) | ((with_reducible apply Wp.kindex1_); (focus (rfl; done))) | ((with_reducible apply Wp.kjoin2); (focus (rfl; done)); (focus (assumption; done)); (focus (assumption; done))) | ((with_reducible apply Wp.kfmt_s); (focus (rfl; done)); (focus (assumption; done))) | ((with_reducible apply Wp.kfmt_i); (focus (rfl; done)); (focus (assumption; done))) | ((with_reducible apply Wp.kjs); (focus (assumption; done))) | ((with_reducible apply Wp.ksl2_l); (focus (rfl; done))) | ((with_reducible apply Wp.ksl2_t); (focus (rfl; done))) | ((with_reducible apply Wp.w_mget); (focus (rfl; done))) | ((with_reducible apply Wp.kmget); (focus (rfl; done)); (focus (rfl; done)); (focus (rfl; done)); (focus (assumption; done))) | ((with_reducible apply Wp.kmin); (focus (rfl; done)); (focus (rfl; done)); (focus (rfl; done)); (focus (assumption; done))) | ((with_reducible apply Wp.kmput1); (focus (rfl; done))) | ((with_reducible apply Wp.kmput2); (focus (rfl; done)); (focus (rfl; done)); (focus (rfl; done)); (focus (rfl; done)); (focus (assumption; done))) | ((with_reducible apply Wp.kmd2); (focus (rfl; done)); (focus (rfl; done))) | ((with_reducible apply Wp.w_dget); (focus (rfl; done))) | ((with_reducible apply Wp.kdget); (focus (rfl; done)); (focus (rfl; done)); (focus (rfl; done)); (focus (assumption; done))) | ((with_reducible apply Wp.kdput1); (focus (rfl; done))) | ((with_reducible apply Wp.kdput2); (focus (rfl; done)); (focus (rfl; done)); (focus (rfl; done)); (focus (rfl; done)); (focus (assumption; done))) | ((with_reducible apply Wp.ksetix1); (focus (rfl; done))) | ((with_reducible apply Wp.ksetix2); (focus (rfl; done)); (focus (rfl; done)); (focus (rfl; done)); (focus ((first | rfl | assumption | exact Wp.ixN_nat (by assumption)); done))) | ((with_reducible apply Wp.kdictp); (focus (rfl; done)); (focus (assumption; done))) | ((with_reducible apply Wp.kputS); (focus (rfl; done)); (focus (rfl; done)); (focus (rfl; done))) | ((with_reducible apply Wp.putS_l); (focus (rfl; done))) | ((with_reducible apply Wp.putS_d); (focus (rfl; done))) | ((with_reducible apply Wp.kputL); (focus (rfl; done)); (focus (rfl; done)); (focus ((first | rfl | assumption | exact Wp.ixN_nat (by assumption)); done))) | ((with_reducible apply Wp.kputD); (focus (rfl; done)); (focus (rfl; done)); (focus (rfl; done)); (focus (assumption; done))) | ((with_reducible apply Wp.kr2w); (focus (rfl; done))) | ((with_reducible apply Wp.kzip); (focus (rfl; done))) | ((with_reducible apply Wp.w_inmG); (focus (rfl; done)); (focus (rfl; done))) | ((with_reducible apply Wp.w_izipV_l); (focus (rfl; done)); (focus (rfl; done)); (focus (rfl; done)); (focus (rfl; done))) | ((with_reducible apply Wp.w_izipV_r); (focus (rfl; done)); (focus (rfl; done)); (focus (rfl; done)); (focus (rfl; done))) | ((with_reducible apply Wp.kzip2_l); (focus (rfl; done))) | ((with_reducible apply Wp.kzip2_t); (focus (rfl; done))) | ((with_reducible apply Wp.kenu); (focus (rfl; done))) | ((with_reducible apply Wp.w_aug); (focus (rfl; done))) | ((with_reducible apply Wp.kaug); (focus (rfl; done)); (focus ((first | with_reducible assumption | with_reducible exact Wp.gEq_e _ _ | with_reducible exact Wp.gEq_n _ _ | with_reducible exact Wp.gEq_i _ _ _ | exact Wp.gAppend_ok (by assumption) | exact Wp.gIx_l (by assumption) | exact Wp.gIx_t (by assumption) | exact Wp.gStr_ok (by assumption) | exact Ev.gLenS_ok (by assumption) | exact Wp.gAdd_ss (by assumption) | exact Ev.gMulX_ok (by assumption) | exact Wp.gAdd_tt (by assumption) | exact Wp.gAdd_ll (by assumption) | exact Wp.gMul_ok (by assumption) | exact Wp.gMod_ok (by assumption) | exact Wp.gDiv_ok (by assumption) (by assumption) | rfl | assumption | exact Ev.gPowW_ok (by assumption)); done)); (focus (exact (by first | rfl | exact Wp.isLent_of rfl (by assumption)); done))) | ((with_reducible apply Wp.kelt); (focus (rfl; done)))))
def gridP (B : Nat) : List (Int × Int) := (List.range (B * B)).map fun (k : Nat) => ((k : Int) % (B : Int), (k : Int) / (B : Int))
theorem grid_ok {B : Nat} (h : B = 2 ∨ B = 3) : PlOk B (gridP B) := by
  rcases h with rfl | rfl
  · exact ⟨by decide, by decide, by decide⟩
  · exact ⟨by decide, by decide, by decide⟩
theorem B_small {B : Nat} (hB : B = 2 ∨ B = 3) : (0 : Int) < (B : Int) ∧ (B : Int).natAbs.log2 < 9000 ∧ mulOk (B : Int) (B : Int) = true ∧ B * B ≤ 9 := by
  rcases hB with rfl | rfl <;> exact ⟨by decide, by decide, by decide, by decide⟩
theorem pl_perm {B : Nat} {cs ds : List (Int × Int)} (h : PlOk B cs) (p : ds.Perm cs) : PlOk B ds := ⟨by rw [p.length_eq]; exact h.len, p.nodup_iff.mpr h.nod, fun c hc => h.rng c (p.mem_iff.mp hc)⟩
theorem getD_map (ps : List (Int × Int)) : (List.range ps.length).map (fun k => ps.getD k (0, 0)) = ps := by
  apply List.ext_getElem?
  intro i
  by_cases hi : i < ps.length
  · rw [List.getElem?_map, List.getElem?_range hi, List.getElem?_eq_getElem hi]
    show some (ps.getD i (0, 0)) = _
    rw [List.getD_eq_getElem?_getD, List.getElem?_eq_getElem hi]; rfl
  · rw [List.getElem?_eq_none (by simp; omega), List.getElem?_eq_none (by omega)]
/-- every second row the other way round -/
def zagF (B : Nat) (c : Int × Int) : Int × Int := (if c.2 % 2 = 0 then c.1 else (B : Int) - 1 - c.1, c.2)
theorem zag_ok {B : Nat} {ps : List (Int × Int)} (h : PlOk B ps) : PlOk B (ps.map (zagF B)) := by
  have inj : ∀ a b, zagF B a = zagF B b → a = b := fun a b z => by
    obtain ⟨x, y⟩ := a
    obtain ⟨u, v⟩ := b
    simp only [zagF, Prod.mk.injEq] at z ⊢
    obtain ⟨z1, rfl⟩ := z
    refine ⟨?_, rfl⟩
    split at z1 <;> omega
  refine ⟨by rw [List.length_map]; exact h.len, List.Pairwise.map _ (fun a b hab z => hab (inj a b z)) h.nod, fun c hc => ?_⟩
  obtain ⟨d, hd, rfl⟩ := List.mem_map.mp hc
  have := h.rng d hd
  simp only [zagF]
  split <;> omega
def swpF (c : Int × Int) : Int × Int := (c.2, c.1)
theorem swp_ok {B : Nat} {ps : List (Int × Int)} (h : PlOk B ps) : PlOk B (ps.map swpF) := by
  have inj : ∀ a b, swpF a = swpF b → a = b := fun a b z => by
    obtain ⟨x, y⟩ := a
    obtain ⟨u, v⟩ := b
    simp only [swpF, Prod.mk.injEq] at z ⊢
    exact ⟨z.2, z.1⟩
  refine ⟨by rw [List.length_map]; exact h.len, List.Pairwise.map _ (fun a b hab z => hab (inj a b z)) h.nod, fun c hc => ?_⟩
  obtain ⟨d, hd, rfl⟩ := List.mem_map.mp hc
  have := h.rng d hd
  simp only [swpF]
  omega
theorem kind_end (D : Dk) (many : Nat) (hm : 0 < many) (hm2 : many < 2 ^ 60) (B : Nat) (hB : B = 2 ∨ B = 3) (ps : List (Int × Int)) (hp : PlOk B ps) (hc : D.c + 9 ≤ 10 ^ 9)
    (s3 s4 s5 s6 s7 s8 : Sl) (h3 : lentS s3 = false) (h5 : lentS s5 = false) (h6 : lentS s6 = false) (h7 : lentS s7 = false) (h8 : lentS s8 = false) (h4 : s4 = .v (.list (ps.map cT)) ∨ s4 = .ow false (.l (ps.map cT))) (D0 : Dk) (Q : Od → En → Prop)
    (q : ∀ (D' : Dk) (rs : List Pt), D'.c ≤ D.c + 9 → RowOk B many rs → Q (.r (kT rs)) [.ow true (.l (dkT D')), .v (nT B), .v (nT many)]) :
    W ((sRet (eFn gTuple (aCons x4__law_kind aNil))) [.ow true (.l (dkT D)), .v (nT B), .v (nT many), s3, s4, s5, s6, s7, s8]) (KFun [.ow true (.l (dkT D0)), .v (nT B), .v (nT many)] Q) := by
  have hl : ps.length ≤ 9 := by rw [hp.len]; rcases hB with rfl | rfl <;> decide
  rcases h4 with rfl | rfl
  all_goals
    unfold x4__law_kind
    repeat' decreasing_trivial_pre_omega
    refine comp_all cT ps (fun don acc e => ∃ (D' : Dk) (rs : List Pt), D'.c ≤ D.c + don.length ∧ rs.map (fun p => (p.1, p.2.1)) = don ∧ (∀ r ∈ rs, r.2.2 < many) ∧ acc = rs.map ptT ∧ e = [.ow true (.l (dkT D')), .v (nT B), .v (nT many), s3, _, s5, s6, s7, s8]) ⟨D, [], by simp, rfl, by simp, rfl, rfl⟩ (by unfold sizeLine; omega) ?_ ?_
    · rintro don c rest hx acc e ⟨D', rs, h1, h2, h3, rfl, rfl⟩
      have hdl : don.length < 9 := by
        have := congrArg List.length hx
        simp at this
        omega
      refine ⟨_, rfl, ?_⟩
      repeat' decreasing_trivial_pre_omega
      refine w_imp (drw_w D' many hm (by omega) (by omega)) ?_
      rintro _ _ ⟨v, D2, hv, hc2, rfl, rfl⟩
      repeat' decreasing_trivial_pre_omega
      refine ⟨D2, rs ++ [(c.1, c.2, v)], by rw [List.length_append, List.length_singleton]; omega, by rw [List.map_append, h2]; rfl, ?_, by rw [List.map_append]; rfl, rfl⟩
      intro r hr
      rcases List.mem_append.mp hr with hr | hr
      · exact h3 r hr
      · rw [List.mem_singleton.mp hr]; exact hv
    · rintro acc e ⟨D', rs, h1, h2, h3, rfl, rfl⟩
      repeat' decreasing_trivial_pre_omega
      exact q D' rs (by omega) (row_of hp h2 h3)
theorem kind_w (D : Dk) (many : Nat) (hm : 0 < many) (hm2 : many < 2 ^ 60) (B : Nat) (hB : B = 2 ∨ B = 3) (hc : D.c + 30 ≤ 10 ^ 9) :
    W (m__law_kind [.ow true (.l (dkT D)), .v (nT B), .v (nT many)]) fun r e => ∃ (D' : Dk) (rs : List Pt), D'.c ≤ D.c + 30 ∧ RowOk B many rs ∧ r = .r (kT rs) ∧ e = [.ow true (.l (dkT D')), .v (nT B), .v (nT many)] := by
  obtain ⟨b1, b2, b3, b4⟩ := B_small hB
  unfold m__law_kind
  (apply Wp.w_fun; (focus (rfl; done)); (focus (((try simp only [List.cons_append, List.nil_append, List.length_cons, List.length_nil, Nat.reduceAdd, Nat.reduceSub, Nat.zero_add, Nat.sub_zero, List.replicate_succ, List.replicate_zero, List.append_nil]); rfl); done)))
  unfold b__law_kind l1__law_kind
  repeat' decreasing_trivial_pre_omega
  refine w_imp (drw_w D 4 (by decide) (by decide) (by omega)) ?_
  rintro _ _ ⟨way, D1, hway, hc1, rfl, rfl⟩
  repeat' decreasing_trivial_pre_omega
  refine kr1_eq (B * B) rfl (by simp) (by omega) ?_
  refine for_below (fun k e => ∃ (ps : List (Int × Int)) (s5 : Sl), lentS s5 = false ∧ ps = (List.range k).map (fun (k : Nat) => ((k : Int) % (B : Int), (k : Int) / (B : Int))) ∧ e = [.ow true (.l (dkT D1)), .v (nT B), .v (nT many), .v (nT way), .ow false (.l (ps.map cT)), s5, .un, .un, .un]) ⟨[], .un, rfl, rfl, rfl⟩ ?_ ?_
  · rintro k hk e ⟨ps, s5, a5, h1, rfl⟩
    refine ⟨_, gN_ok (by first | rfl | exact Wp.isLent_of rfl (by assumption)) rfl, ?_⟩
    unfold y1__law_kind
    have ha : (ps.map cT).length < sizeLine := by rw [List.length_map, h1, List.length_map, List.length_range]; unfold sizeLine; omega
    repeat' decreasing_trivial_pre_omega
    refine ⟨ps ++ [((k : Int) % (B : Int), (k : Int) / (B : Int))], .v (nT k), rfl, by rw [h1, List.range_succ, List.map_append]; rfl, by rw [List.map_append]; rfl⟩
  · rintro e ⟨ps, s5, a5, h1, rfl⟩
    have hp : PlOk B ps := by rw [h1]; exact grid_ok hB
    clear h1
    have hlen := hp.len
    repeat' decreasing_trivial_pre_omega
    refine kif_d (fun hw => ?_) fun hw => ?_
    · unfold x1__law_kind
      repeat' decreasing_trivial_pre_omega
      rw [show (B : Int) * (B : Int) = ((B * B : Nat) : Int) by simp]
      refine w_imp (order_w D1 (B * B) (by omega) (by omega)) ?_
      rintro _ _ ⟨D2, ys, hc2, hy, rfl, rfl⟩
      have hyl := hy.length_eq
      rw [List.length_range] at hyl
      repeat' decreasing_trivial_pre_omega
      refine comp_map_w nT (fun y => cT (ps.getD y (0, 0))) ys (by unfold sizeLine; omega) (fun y hy' => ⟨_, rfl, ?_⟩) ?_
      · have hx : (ps.map cT)[y]? = some (cT (ps.getD y (0, 0))) := by
          have := List.mem_range.mp (hy.mem_iff.mp hy')
          rw [List.getElem?_map, List.getD_eq_getElem?_getD, List.getElem?_eq_getElem (by omega)]
          rfl
        repeat' decreasing_trivial_pre_omega
        exact ⟨rfl, rfl⟩
      · rw [show (ys.map fun y => cT (ps.getD y (0, 0))) = (ys.map fun y => ps.getD y (0, 0)).map cT by rw [List.map_map]; rfl]
        repeat' decreasing_trivial_pre_omega
        refine kif_f (decide_eq_false (by omega)) (w_nil (kseq_nx ?_))
        refine kind_end D2 many hm hm2 B hB (ys.map fun y => ps.getD y (0, 0)) ?_ (by omega) _ _ _ _ _ _ rfl (by first | exact a5 | rfl) rfl rfl rfl (.inr rfl) D _ ?_
        · refine pl_perm hp ?_
          have := hy.map fun y => ps.getD y (0, 0)
          rw [← hlen, getD_map] at this
          exact this
        · exact fun D' rs z1 z2 => ⟨D', rs, by omega, z2, rfl, rfl⟩
    · repeat' decreasing_trivial_pre_omega
      refine kif_d (fun hw2 => ?_) fun hw2 => ?_
      · unfold x2__law_kind
        repeat' decreasing_trivial_pre_omega
        refine comp_map_w cT (fun c => cT (zagF B c)) ps (by unfold sizeLine; omega) (fun c _ => ⟨_, rfl, ?_⟩) ?_
        · repeat' decreasing_trivial_pre_omega
          refine kife_d (fun z => ?_) fun z => ?_
          · repeat' decreasing_trivial_pre_omega
            refine ⟨?_, rfl⟩
            unfold zagF
            rw [if_pos z]
            rfl
          · repeat' decreasing_trivial_pre_omega
            refine ⟨?_, rfl⟩
            unfold zagF
            rw [if_neg z]
            rfl
        · rw [show (ps.map fun c => cT (zagF B c)) = (ps.map (zagF B)).map cT by rw [List.map_map]; rfl]
          have g1 := zag_ok hp
          have g2 : (ps.map (zagF B)).length ≤ 9 := by rw [List.length_map]; omega
          generalize ps.map (zagF B) = qs at g1 g2
          repeat' decreasing_trivial_pre_omega
          refine w_imp (drw_w D1 2 (by decide) (by decide) (by omega)) ?_
          rintro _ _ ⟨v, D2, hv, hc2, rfl, rfl⟩
          repeat' decreasing_trivial_pre_omega
          refine kife_d (fun z => ?_) fun z => ?_
          · unfold x3__law_kind
            repeat' decreasing_trivial_pre_omega
            refine comp_map_w cT (fun c => cT (swpF c)) qs (by unfold sizeLine; omega) (fun c _ => ⟨_, rfl, ?_⟩) ?_
            · repeat' decreasing_trivial_pre_omega
              exact ⟨rfl, rfl⟩
            · rw [show (qs.map fun c => cT (swpF c)) = (qs.map swpF).map cT by rw [List.map_map]; rfl]
              refine kset_b rfl (kseq_nx_n (e2 := [.ow true (.l (dkT D2)), .v (nT B), .v (nT many), .v (nT way), .ow false (.l ((qs.map swpF).map cT)), s5, .v (nT v), .un, .un]) rfl ?_)
              refine kind_end D2 many hm hm2 B hB (qs.map swpF) (swp_ok g1) (by omega) (.v (nT way)) (.ow false (.l ((qs.map swpF).map cT))) s5 (.v (nT v)) .un .un rfl a5 rfl rfl rfl (.inr rfl) D _ ?_
              exact fun D' rs z1 z2 => ⟨D', rs, by omega, z2, rfl, rfl⟩
          · refine w_var_o rfl ?_
            refine kset_s rfl rfl (kseq_nx_n (e2 := [.ow true (.l (dkT D2)), .v (nT B), .v (nT many), .v (nT way), .v (.list (qs.map cT)), s5, .v (nT v), .un, .un]) rfl ?_)
            refine kind_end D2 many hm hm2 B hB qs g1 (by omega) (.v (nT way)) (.v (.list (qs.map cT))) s5 (.v (nT v)) .un .un rfl a5 rfl rfl rfl (.inl rfl) D _ ?_
            exact fun D' rs z1 z2 => ⟨D', rs, by omega, z2, rfl, rfl⟩
      · refine (w_nil (kseq_nx ?_))
        refine kind_end D1 many hm hm2 B hB ps hp (by omega) _ _ _ _ _ _ rfl a5 rfl rfl rfl (.inr rfl) D _ ?_
        exact fun D' rs z1 z2 => ⟨D', rs, by omega, z2, rfl, rfl⟩
theorem book_w (D : Dk) (most : Nat) (h0 : 0 < most) (h1 : most ≤ 20) (hc : D.c + 700 ≤ 10 ^ 9) :
    W (m__law_book [.ow true (.l (dkT D)), .v (nT most)]) fun r e => ∃ (D' : Dk) (B : Nat) (ks : List (List Pt)), D'.c ≤ D.c + 700 ∧ Good B ks ∧ r = .r (bkT B ks) ∧ e = [.ow true (.l (dkT D')), .v (nT most)] := by
  unfold m__law_book
  (apply Wp.w_fun; (focus (rfl; done)); (focus (((try simp only [List.cons_append, List.nil_append, List.length_cons, List.length_nil, Nat.reduceAdd, Nat.reduceSub, Nat.zero_add, Nat.sub_zero, List.replicate_succ, List.replicate_zero, List.append_nil]); rfl); done)))
  unfold b__law_book
  repeat' decreasing_trivial_pre_omega
  refine w_imp (drw_w D 2 (by decide) (by decide) (by omega)) ?_
  rintro _ _ ⟨v, D1, hv, hc1, rfl, rfl⟩
  repeat' decreasing_trivial_pre_omega
  refine w_imp (drw_w D1 most h0 (by omega) (by omega)) ?_
  rintro _ _ ⟨w, D2, hw, hc2, rfl, rfl⟩
  repeat' decreasing_trivial_pre_omega
  unfold x1__law_book
  rw [show (2 : Int) + (v : Int) = ((2 + v : Nat) : Int) by simp, show (1 : Int) + (w : Int) = ((1 + w : Nat) : Int) by simp]
  have hB : 2 + v = 2 ∨ 2 + v = 3 := by omega
  generalize 2 + v = B at hB
  have hm : 0 < 1 + w ∧ 1 + w ≤ 20 := by omega
  generalize 1 + w = many at hm
  repeat' decreasing_trivial_pre_omega
  refine kr1 (n := many) rfl (by omega) ?_
  unfold below
  refine comp_all (fun (k : Nat) => PyData.int (k : Int)) (List.range many) (fun don acc e => ∃ (D' : Dk) (ks : List (List Pt)), D'.c ≤ D2.c + don.length * 30 ∧ ks.length = don.length ∧ (∀ rs ∈ ks, RowOk B many rs) ∧ acc = ks.map kT ∧ e = [.ow true (.l (dkT D')), .v (nT most), .v (nT B), .v (nT many), .un]) ⟨D2, [], by simp, rfl, by simp, rfl, rfl⟩ (by rw [List.length_range]; unfold sizeLine; omega) ?_ ?_
  · rintro don k rest hx acc e ⟨D', ks, h1, h2, h3, rfl, rfl⟩
    have hdl := (range_cut hx)
    have hdn : don.length = k := by rw [hdl.1, List.length_range]
    refine ⟨_, rfl, ?_⟩
    repeat' decreasing_trivial_pre_omega
    refine w_imp (kind_w D' many hm.1 (by omega) B hB (by omega)) ?_
    rintro _ _ ⟨D3, rs, z1, z2, rfl, rfl⟩
    repeat' decreasing_trivial_pre_omega
    refine ⟨D3, ks ++ [rs], by rw [List.length_append, List.length_singleton]; omega, by rw [List.length_append, List.length_append, h2]; rfl, ?_, by rw [List.map_append]; rfl, rfl⟩
    · intro r hr
      rcases List.mem_append.mp hr with hr | hr
      · exact h3 r hr
      · rw [List.mem_singleton.mp hr]; exact z2
  · rintro acc e ⟨D', ks, h1, h2, h3, rfl, rfl⟩
    rw [List.length_range] at h1 h2
    repeat' decreasing_trivial_pre_omega
    exact ⟨D', B, ks, by omega, good_of hB (by omega) (by omega) (by rw [h2]; exact h3), rfl, rfl⟩
end Lw

set_option linter.all false
set_option maxRecDepth 100000
set_option maxHeartbeats 4000000
namespace Lw
open PySem PySem.Spec Ev Pu Mt Wp
local macro_rules | `(tactic| decreasing_trivial_pre_omega) => `(tactic| (first | with_reducible apply Wp.w_seq | with_reducible apply Wp.w_drop | with_reducible apply Wp.w_if | with_reducible apply Wp.w_set | with_reducible apply Wp.w_ret | with_reducible apply Wp.w_asg | with_reducible apply Wp.w_par | with_reducible apply Wp.w_op2 | with_reducible apply Wp.w_acons | with_reducible apply Wp.w_fng | with_reducible apply Wp.w_tup | with_reducible apply Wp.w_lst | with_reducible apply Wp.w_call | with_reducible apply Wp.w_callk | with_reducible apply Wp.w_eand | with_reducible apply Wp.w_eor | with_reducible apply Wp.w_enot | with_reducible apply Wp.w_eif | with_reducible apply Wp.w_tb | with_reducible apply Wp.w_tnot | with_reducible apply Wp.w_tand | with_reducible apply Wp.w_tor | with_reducible apply Wp.w_neg | with_reducible apply Wp.w_isi | with_reducible apply Wp.w_sl | with_reducible apply Wp.w_pso | with_reducible apply Wp.w_rev | with_reducible apply Wp.w_index | with_reducible apply Wp.w_for | with_reducible apply Wp.w_iof | with_reducible apply Wp.w_r1 | with_reducible apply Wp.w_r2 | with_reducible apply Wp.w_comp | with_reducible apply Wp.w_compG | with_reducible apply Wp.w_izip | with_reducible apply Wp.w_izip2 | with_reducible apply Wp.w_ienu | with_reducible apply Wp.w_setix | with_reducible apply Wp.w_join | with_reducible apply Wp.kjoin1 | with_reducible apply Wp.w_fmt | with_reducible apply Wp.w_js_nil | with_reducible apply Wp.w_js | with_reducible apply Wp.w_dictp | with_reducible apply Wp.w_putS | with_reducible apply Wp.putS_nil | with_reducible apply Wp.w_r2w | with_reducible apply Wp.w_nil | with_reducible apply Wp.w_brk | with_reducible apply Wp.w_cnt | with_reducible apply Wp.w_retN | with_reducible apply Wp.w_k | with_reducible apply Wp.w_anil | with_reducible apply Wp.w_pno | with_reducible apply Wp.w_true | with_reducible apply Wp.w_rep | with_reducible apply Wp.krep1 | with_reducible apply Wp.w_mdict1 | with_reducible apply Wp.w_mnew | with_reducible apply Wp.w_min | with_reducible apply Wp.w_mput | with_reducible apply Wp.w_dput | with_reducible apply Wp.kmd1 | with_reducible apply Wp.ksl_ | with_reducible apply Wp.ksl1 | with_reducible apply Wp.ktwo1 | with_reducible apply Wp.kcons1 | with_reducible apply Wp.kseq_rt | with_reducible apply Wp.kseq_bk | with_reducible apply Wp.kseq_ct | with_reducible apply Wp.kret_r | with_reducible apply Wp.kret_b | with_reducible apply Wp.ktb | with_reducible apply Wp.kfun_rt | with_reducible apply Wp.kfun_nx | with_reducible apply Wp.kturn_nx | with_reducible apply Wp.kturn_ct | with_reducible apply Wp.kturn_rt | with_reducible apply Wp.kturn_bk | ((with_reducible apply Wp.kseq_nx_n); (focus (((try simp only [Ev.wb, Ev.bk, List.set_cons_zero, List.set_cons_succ, List.getElem?_cons_zero, List.getElem?_cons_succ, List.cons_append, List.nil_append, List.append_nil]); rfl); done))) | ((with_reducible apply Wp.kback_r_n); (focus (((try simp only [Ev.wb, Ev.bk, List.set_cons_zero, List.set_cons_succ, List.getElem?_cons_zero, List.getElem?_cons_succ, List.cons_append, List.nil_append, List.append_nil]); rfl); done))) | ((with_reducible apply Wp.kback_b_n); (focus (((try simp only [Ev.wb, Ev.bk, List.set_cons_zero, List.set_cons_succ, List.getElem?_cons_zero, List.getElem?_cons_succ, List.cons_append, List.nil_append, List.append_nil]); rfl); done))) | ((with_reducible apply Wp.w_var_v); (focus (rfl; done))) | ((with_reducible apply Wp.w_var_o); (focus (rfl; done))) | ((with_reducible apply Wp.w_var_f); (focus (rfl; done))) | ((with_reducible apply Wp.kset_r); (focus (exact (by first | rfl | exact Wp.isLent_of rfl (by assumption)); done))) | ((with_reducible apply Wp.kset_b); (focus (exact (by first | rfl | exact Wp.isLent_of rfl (by assumption)); done))) | ((with_reducible apply Wp.kset_s); (focus (exact (by first | rfl | exact Wp.isLent_of rfl (by assumption)); done)); (focus (rfl; done))) | ((with_reducible apply Wp.kret_so); (focus (rfl; done))) | ((with_reducible apply Wp.kasg); (focus (rfl; done)); (focus ((first | rfl | (repeat' (first | refine Wp.gN_ok (by first | rfl | exact Wp.isLent_of rfl (by assumption)) rfl | refine Wp.gsNil_ok rfl | with_reducible apply Wp.gsCons_ok | apply Wp.gT_ok rfl))); done))) | ((with_reducible apply Wp.kpar); (focus (rfl; done)); (focus ((repeat (first | refine Wp.setOs_nil rfl | (apply Wp.setOs_r; (focus exact (by first | rfl | exact Wp.isLent_of rfl (by assumption)))) | (apply Wp.setOs_b; (focus exact (by first | rfl | exact Wp.isLent_of rfl (by assumption)))))); done))) | ((with_reducible apply Wp.ktwo2); (focus (rfl; done)); (focus (rfl; done)); (focus ((first | with_reducible assumption | with_reducible exact Wp.gEq_e _ _ | with_reducible exact Wp.gEq_n _ _ | with_reducible exact Wp.gEq_i _ _ _ | exact Wp.gAppend_ok (by assumption) | exact Wp.gIx_l (by assumption) | exact Wp.gIx_t (by assumption) | exact Wp.gStr_ok (by assumption) | exact Ev.gLenS_ok (by assumption) | exact Wp.gAdd_ss (by assumption) | exact Ev.gMulX_ok (by assumption) | exact Wp.gAdd_tt (by assumption) | exact Wp.gAdd_ll (by assumption) | exact Wp.gMul_ok (by assumption) | exact Wp.gMod_ok (by assumption) | exact Wp.gDiv_ok (by assumption) (by assumption) | rfl | assumption | exact Ev.gPowW_ok (by assumption)); done))) | ((with_reducible apply Wp.kfng); (focus (rfl; done)); (focus ((first | with_reducible assumption | with_reducible exact Wp.gEq_e _ _ | with_reducible exact Wp.gEq_n _ _ | with_reducible exact Wp.gEq_i _ _ _ | exact Wp.gAppend_ok (by assumption) | exact Wp.gIx_l (by assumption) | exact Wp.gIx_t (by assumption) | exact Wp.gStr_ok (by assumption) | exact Ev.gLenS_ok (by assumption) | exact Wp.gAdd_ss (by assumption) | exact Ev.gMulX_ok (by assumption) | exact Wp.gAdd_tt (by assumption) | exact Wp.gAdd_ll (by assumption) | exact Wp.gMul_ok (by assumption) | exact Wp.gMod_ok (by assumption) | exact Wp.gDiv_ok (by assumption) (by assumption) | rfl | assumption | exact Ev.gPowW_ok (by assumption)); done))) | ((with_reducible apply Wp.kdisp_t); (focus (rfl; done)); (focus (rfl; done))) | ((with_reducible apply Wp.kdisp_l); (focus (rfl; done)); (focus (rfl; done))) | ((with_reducible apply Wp.kcall); (focus (rfl; done)); (focus (rfl; done)); (focus (exact of_decide_eq_true rfl; done))) | ((with_reducible apply Wp.kcallk); (focus (decide; done)); (focus (exact ⟨rfl, rfl⟩; done)); (focus (rfl; done)); (focus (exact of_decide_eq_true rfl; done))) | ((with_reducible apply Wp.w_mut); (focus (rfl; done))) | ((with_reducible apply Wp.kmut2); (focus (rfl; done)); (focus (rfl; done)); (focus ((first | with_reducible assumption | with_reducible exact Wp.gEq_e _ _ | with_reducible exact Wp.gEq_n _ _ | with_reducible exact Wp.gEq_i _ _ _ | exact Wp.gAppend_ok (by assumption) | exact Wp.gIx_l (by assumption) | exact Wp.gIx_t (by assumption) | exact Wp.gStr_ok (by assumption) | exact Ev.gLenS_ok (by assumption) | exact Wp.gAdd_ss (by assumption) | exact Ev.gMulX_ok (by assumption) | exact Wp.gAdd_tt (by assumption) | exact Wp.gAdd_ll (by assumption) | exact Wp.gMul_ok (by assumption) | exact Wp.gMod_ok (by assumption) | exact Wp.gDiv_ok (by assumption) (by assumption) | rfl | assumption | exact Ev.gPowW_ok (by assumption)); done))) | ((with_reducible apply Wp.kif_t); (focus (rfl; done))) | ((with_reducible apply Wp.kif_f); (focus (rfl; done))) | ((with_reducible apply Wp.kif_t); (focus (assumption; done))) | ((with_reducible apply Wp.kif_f); (focus (assumption; done))) | ((with_reducible apply Wp.kife_t); (focus (rfl; done))) | ((with_reducible apply Wp.kife_f); (focus (rfl; done))) | ((with_reducible apply Wp.kand_t); (focus (rfl; done))) | ((with_reducible apply Wp.kand_f); (focus (rfl; done))) | ((with_reducible apply Wp.kor_t); (focus (rfl; done))) | ((with_reducible apply Wp.kor_f); (focus (rfl; done))) | ((with_reducible apply Wp.kande_t); (focus (rfl; done))) | ((with_reducible apply Wp.kande_f); (focus (rfl; done))) | ((with_reducible apply Wp.kore_t); (focus (rfl; done))) | ((with_reducible apply Wp.kore_f); (focus (rfl; done))) | ((with_reducible apply Wp.ktb_s); (focus (rfl; done))) | ((with_reducible apply Wp.kneg); (focus (rfl; done))) | ((with_reducible apply Wp.kisi); (focus (rfl; done))) | ((with_reducible apply Wp.kpso); (focus (rfl; done))) | ((with_reducible apply Wp.kof_l); (focus (rfl; done))) | ((with_reducible apply Wp.kof_t); (focus (rfl; done))) | ((with_reducible apply Wp.krev_l); (focus (rfl; done))) | ((with_reducible apply Wp.krev_t); (focus (rfl; done))) | ((with_reducible apply Wp.kindex1_); (focus (rfl; done))) | ((with_reducible apply Wp.kjoin2); (focus (rfl; done)); (focus (assumption; done)); (focus (assumption; done))) | ((with_reducible apply Wp.kfmt_s); (focus (rfl; done)); (focus (assumption; done))) | ((with_reducible apply Wp.kfmt_i); (focus (rfl; done)); (focus (assumption; done))) | ((with_reducible apply Wp.kjs); (focus (assumption; done))) | ((with_reducible apply Wp.ksl2_l); (focus (rfl; done))) | ((with_reducible apply Wp.ksl2_t); (focus (rfl; done))) | ((with_reducible apply Wp.w_mget); (focus (rfl; done))) | ((with_reducible apply Wp.kmget); (focus (rfl; done)); (focus (rfl; done)); (focus (rfl; done)); (focus (assumption; done))) | ((with_reducible apply Wp.kmin); (focus (rfl; done)); (focus (rfl; done)); (focus (rfl; done)); (focus (assumption; done))) | ((with_reducible apply Wp.kmput1); (focus (rfl; done))) | ((with_reducible apply Wp.kmput2); (focus (rfl; done)); (focus (rfl; done)); (focus (rfl; done)); (focus (rfl; done)); (focus (assumption; done))) | ((with_reducible apply Wp.kmd2); (focus (rfl; done)); (focus (rfl; done))) | ((with_reducible apply Wp.w_dget); (focus (rfl; done))) | ((with_reducible apply Wp.kdget); (focus (rfl; done)); (focus (rfl; done)); (focus (rfl; done)); (focus (assumption; done))) | ((with_reducible apply Wp.kdput1); (focus (rfl; done))) | ((with_reducible apply Wp.kdput2); (focus (rfl; done)); (focus (rfl; done)); (focus (rfl; done)); (focus (rfl; done)); (focus (assumption; done))) | ((with_reducible apply Wp.ksetix1); (focus (rfl; done))) | ((with_reducible apply Wp.ksetix2); (focus (rfl; done)); (focus (rfl; done)); (focus (rfl; done)); (focus ((first | rfl | assumption | exact Wp.ixN_nat (by assumption)); done))) | ((with_reducible apply Wp.kdictp); (focus (rfl; done)); (focus (assumption; done))) | ((with_reducible apply Wp.kputS); (focus (rfl; done)); (focus (rfl; done)); (focus (rfl; done))) | ((with_reducible apply Wp.putS_l); (focus (rfl; done))) | ((with_reducible apply Wp.putS_d); (focus (rfl; done))) | ((with_reducible apply Wp.kputL); (focus (rfl; done)); (focus (rfl; done)); (focus ((first | rfl | assumption | exact Wp.ixN_nat (by assumption)); done))) | ((with_reducible apply Wp.kputD); (focus (rfl; done)); (focus (rfl; done)); (focus (rfl; done)); (focus (assumption; done))) | ((with_reducible apply Wp.kr2w); (focus (rfl; done))) | ((with_reducible apply Wp.kzip); (focus (rfl; done))) | ((with_reducible apply Wp.w_inmG); (focus (rfl; done)); (focus (rfl; done))) | ((with_reducible apply Wp.w_izipV_l); (focus (rfl; done)); (focus (rfl; done)); (focus (rfl; done)); (focus (rfl; done))) | ((with_reducible apply Wp.w_izipV_r); (focus (rfl; done)); (focus (rfl; done)); (focus (rfl; done)); (focus (rfl; done))) | ((with_reducible apply Wp.kzip2_l); (focus (rfl; done))) | ((with_reducible apply Wp.kzip2_t); (focus (rfl; done))) | ((with_reducible apply Wp.kenu); (focus (rfl; done))) | ((with_reducible apply Wp.w_aug); (focus (rfl; done))) | ((with_reducible apply Wp.kaug); (focus (rfl; done)); (focus ((first | with_reducible assumption | with_reducible exact Wp.gEq_e _ _ | with_reducible exact Wp.gEq_n _ _ | with_reducible exact Wp.gEq_i _ _ _ | exact Wp.gAppend_ok (by assumption) | exact Wp.gIx_l (by assumption) | exact Wp.gIx_t (by assumption) | exact Wp.gStr_ok (by assumption) | exact Ev.gLenS_ok (by assumption) | exact Wp.gAdd_ss (by assumption) | exact Ev.gMulX_ok (by assumption) | exact Wp.gAdd_tt (by assumption) | exact Wp.gAdd_ll (by assumption) | exact Wp.gMul_ok (by assumption) | exact Wp.gMod_ok (by assumption) | exact Wp.gDiv_ok (by assumption) (by assumption) | rfl | assumption | exact Ev.gPowW_ok (by assumption)); done)); (focus (exact (by first | rfl | exact Wp.isLent_of rfl (by assumption)); done))) | ((with_reducible apply Wp.kelt); (focus (rfl; done)))))
theorem pow_le {d : Nat} (hd : d ≤ 40) : 10 ^ d ≤ 10 ^ 40 := Nat.pow_le_pow_right (by decide) hd
theorem power10 (d : Nat) (hd : d ≤ 200) : m__law_power [.v (.int 10), .v (nT d)] = .ok (.r (nT (10 ^ d))) [.v (.int 10), .v (nT d)] := by
  have := power_w 10 (by decide) d hd
  generalize 10 ^ d = z at this ⊢
  rw [show PyData.int 10 = nT 10 from rfl]
  exact this
theorem integer_w (D : Dk) (d Z : Nat) (hZ : 10 ^ d = Z) (h0 : 0 < d) (h1 : d ≤ 40) (hc : D.c + 3 ≤ 10 ^ 9) :
    W (m__law_integer [.ow true (.l (dkT D)), .v (nT d)]) fun r e => ∃ (D' : Dk) (v : Nat), D'.c ≤ D.c + 3 ∧ (v < Z ∨ v < 60) ∧ r = .r (nT v) ∧ e = [.ow true (.l (dkT D')), .v (nT d)] := by
  unfold m__law_integer
  (apply Wp.w_fun; (focus (rfl; done)); (focus (((try simp only [List.cons_append, List.nil_append, List.length_cons, List.length_nil, Nat.reduceAdd, Nat.reduceSub, Nat.zero_add, Nat.sub_zero, List.replicate_succ, List.replicate_zero, List.append_nil]); rfl); done)))
  unfold b__law_integer
  repeat' decreasing_trivial_pre_omega
  refine w_imp (drw_w D 5 (by decide) (by decide) (by omega)) ?_
  rintro _ _ ⟨k, D1, hk, hc1, rfl, rfl⟩
  repeat' decreasing_trivial_pre_omega
  refine kif_d (fun hw => ?_) fun hw => ?_
  · obtain ⟨n, hx, hn⟩ : ∃ n : Nat, [PyData.int 3, PyData.int 10, PyData.int 60][k]? = some (nT n) ∧ 0 < n ∧ n ≤ 60 := by
      match k, hw with
      | 0, _ => exact ⟨3, rfl, by decide, by decide⟩
      | 1, _ => exact ⟨10, rfl, by decide, by decide⟩
      | 2, _ => exact ⟨60, rfl, by decide, by decide⟩
      | k + 3, hw => omega
    repeat' decreasing_trivial_pre_omega
    refine w_imp (drw_w D1 n hn.1 (by omega) (by omega)) ?_
    rintro _ _ ⟨v, D2, hv, hc2, rfl, rfl⟩
    repeat' decreasing_trivial_pre_omega
    exact ⟨D2, v, by omega, .inr (by omega), rfl, rfl⟩
  · repeat' decreasing_trivial_pre_omega
    have hp : ∃ M : Nat, M = 10 ^ 40 ∧ Z ≤ M := ⟨_, rfl, by rw [← hZ]; exact pow_le h1⟩
    have hp1 : 10 ≤ Z := by rw [← hZ]; exact Nat.pow_le_pow_right (show 0 < 10 by decide) h0
    have p10 := power10 d (by omega)
    rw [hZ] at p10
    have hle : ∀ w, w < d → 10 ^ (1 + w) ≤ Z := fun w hw => by rw [← hZ]; exact Nat.pow_le_pow_right (show 0 < 10 by decide) (by omega)
    clear hZ
    refine kif_d (fun hw2 => ?_) fun hw2 => ?_
    · repeat' decreasing_trivial_pre_omega
      clear hle
      refine w_of p10 ?_
      clear p10
      repeat' decreasing_trivial_pre_omega
      refine w_imp (drw_w D1 9 (by decide) (by decide) (by omega)) ?_
      rintro _ _ ⟨v, D2, hv, hc2, rfl, rfl⟩
      repeat' decreasing_trivial_pre_omega
      obtain ⟨M, rfl, hp⟩ := hp
      exact ⟨D2, Z - 1 - v, by omega, .inl (by omega), by
        show Od.r (PyData.int ((Z : Int) - 1 - (v : Int))) = _
        rw [show (Z : Int) - 1 - (v : Int) = ((Z - 1 - v : Nat) : Int) by omega], rfl⟩
    · clear p10
      repeat' decreasing_trivial_pre_omega
      refine w_imp (drw_w D1 d h0 (by omega) (by omega)) ?_
      rintro _ _ ⟨w, D2, hw3, hc2, rfl, rfl⟩
      have hq : 10 ^ (1 + w) ≤ Z := hle w hw3
      have hq1 : 10 ≤ 10 ^ (1 + w) := Nat.pow_le_pow_right (show 0 < 10 by decide) (show 1 ≤ 1 + w by omega)
      clear hle
      repeat' decreasing_trivial_pre_omega
      rw [show (1 : Int) + (w : Int) = ((1 + w : Nat) : Int) by simp]
      have q10 := power10 (1 + w) (by omega)
      generalize 10 ^ (1 + w) = z at hq hq1 q10
      refine w_of q10 ?_
      clear q10
      repeat' decreasing_trivial_pre_omega
      obtain ⟨M, rfl, hp⟩ := hp
      refine w_imp (drw_w D2 z (by omega) (by omega) (by omega)) ?_
      rintro _ _ ⟨v, D3, hv, hc3, rfl, rfl⟩
      repeat' decreasing_trivial_pre_omega
      exact ⟨D3, v, by omega, .inl (by omega), rfl, rfl⟩
theorem above_w (D : Dk) (low d Z : Nat) (hZ : 10 ^ d = Z) (h0 : 0 < d) (h1 : d ≤ 40) (hc : D.c + 5 ≤ 10 ^ 9) :
    W (m__law_above [.ow true (.l (dkT D)), .v (nT low), .v (nT d)]) fun r e => ∃ (D' : Dk) (v : Nat), D'.c ≤ D.c + 5 ∧ (low < v ∧ v ≤ low + Z + 60) ∧ r = .r (nT v) ∧ e = [.ow true (.l (dkT D')), .v (nT low), .v (nT d)] := by
  unfold m__law_above
  (apply Wp.w_fun; (focus (rfl; done)); (focus (((try simp only [List.cons_append, List.nil_append, List.length_cons, List.length_nil, Nat.reduceAdd, Nat.reduceSub, Nat.zero_add, Nat.sub_zero, List.replicate_succ, List.replicate_zero, List.append_nil]); rfl); done)))
  unfold b__law_above
  repeat' decreasing_trivial_pre_omega
  refine w_imp (drw_w D 9 (by decide) (by decide) (by omega)) ?_
  rintro _ _ ⟨v, D1, hv, hc1, rfl, rfl⟩
  repeat' decreasing_trivial_pre_omega
  refine w_imp (integer_w D1 d Z hZ h0 h1 (by omega)) ?_
  rintro _ _ ⟨D2, w, hc2, hw, rfl, rfl⟩
  clear hZ
  repeat' decreasing_trivial_pre_omega
  refine w_imp (drw_w D2 3 (by decide) (by decide) (by omega)) ?_
  rintro _ _ ⟨k, D3, hk, hc3, rfl, rfl⟩
  obtain ⟨n, hx, hn⟩ : ∃ n : Nat, [PyData.int 1, PyData.int (1 + (v : Int)), PyData.int (1 + (w : Int))][k]? = some (nT n) ∧ 0 < n ∧ n ≤ Z + 60 := by
    match k, hk with
    | 0, _ => exact ⟨1, rfl, by omega, by omega⟩
    | 1, _ => exact ⟨1 + v, by simp [nT], by omega, by omega⟩
    | 2, _ => exact ⟨1 + w, by simp [nT], by omega, by omega⟩
    | k + 3, hw => omega
  repeat' decreasing_trivial_pre_omega
  exact ⟨D3, low + n, by omega, by omega, by unfold nT; simp, rfl⟩
theorem notin_is (c : Int × Int) (cs : List (Int × Int)) (hl : cs.length ≤ 1000) : gIn not (cT c) (.list (cs.map cT)) = some (.r (.bool (!decide (c ∈ cs)))) := by
  have h1 : SeqAt.shaped (.list (cs.map cT)) = true := (pl_map cT pl_cT cs (by omega)).shaped (by decide)
  have h2 : SeqAt.shaped (cT c) = true := (pl_cT c).shaped (by decide)
  show (if (SeqAt.shaped (cT c) && SeqAt.shaped (.list (cs.map cT))) = true then _ else _) = _
  rw [h1, h2]
  have e : (cs.map cT).any (fun z => PyData.eqv z (cT c)) = decide (c ∈ cs) := by
    clear hl h1 h2
    induction cs with
    | nil => rfl
    | cons b l ih =>
      rw [List.map_cons, List.any_cons, ih, eqv_c2]
      by_cases h : b = c
      · subst h; simp
      · rw [decide_eq_false h, Bool.false_or]
        congr 1
        rw [List.mem_cons]
        exact propext ⟨.inr, fun z => z.resolve_left fun e => h e.symm⟩
  rw [e]
  rfl
structure SqOk (n : Nat) (qs : List Pt) : Prop where
  pos : 0 < qs.length
  few : qs.length ≤ 20
  rng : ∀ p ∈ qs, (0 ≤ p.1 ∧ p.1 < 10 ^ 40) ∧ (0 ≤ p.2.1 ∧ p.2.1 < 10 ^ 40) ∧ p.2.2 < n
  nod : (qs.map fun p => (p.1, p.2.1)).Nodup
theorem squares_w (D : Dk) (kinds many : Nat) (hk : 0 < kinds ∧ kinds ≤ 100) (hm : 0 < many ∧ many ≤ 20) (hc : D.c + 300 ≤ 10 ^ 9) :
    W (m__law_squares [.ow true (.l (dkT D)), .v (nT kinds), .v (nT many)]) fun r e => ∃ (D' : Dk) (qs : List Pt), D'.c ≤ D.c + 300 ∧ SqOk kinds qs ∧ r = .r (kT qs) ∧ e = [.ow true (.l (dkT D')), .v (nT kinds), .v (nT many)] := by
  unfold m__law_squares
  (apply Wp.w_fun; (focus (rfl; done)); (focus (((try simp only [List.cons_append, List.nil_append, List.length_cons, List.length_nil, Nat.reduceAdd, Nat.reduceSub, Nat.zero_add, Nat.sub_zero, List.replicate_succ, List.replicate_zero, List.append_nil]); rfl); done)))
  unfold b__law_squares l1__law_squares x1__law_squares
  repeat' decreasing_trivial_pre_omega
  refine w_imp (drw_w D 2 (by decide) (by decide) (by omega)) ?_
  rintro _ _ ⟨far, D1, hf, hc1, rfl, rfl⟩
  repeat' decreasing_trivial_pre_omega
  refine w_imp (drw_w D1 many hm.1 (by omega) (by omega)) ?_
  rintro _ _ ⟨w, D2, hw, hc2, rfl, rfl⟩
  repeat' decreasing_trivial_pre_omega
  refine kr1_eq (1 + w) rfl (by simp) (by omega) ?_
  unfold below
  refine comp_all (fun (k : Nat) => PyData.int (k : Int)) (List.range (1 + w)) (fun don acc e => ∃ (D' : Dk) (ps : List (Int × Int)), D'.c ≤ D2.c + don.length * 2 ∧ ps.length = don.length ∧ (∀ p ∈ ps, (0 ≤ p.1 ∧ p.1 < 21) ∧ (0 ≤ p.2 ∧ p.2 < 21)) ∧ acc = ps.map cT ∧ e = [.ow true (.l (dkT D')), .v (nT kinds), .v (nT many), .ow false (.l []), .v (nT far), .un, .un, .un, .un, .un, .un, .un]) ⟨D2, [], by simp, rfl, by simp, rfl, rfl⟩ (by rw [List.length_range]; unfold sizeLine; omega) ?_ ?_
  · rintro don k rest hx acc e ⟨D', ps, h1, h2, h3, rfl, rfl⟩
    have hdl := (range_cut hx)
    have hdn : don.length = k := by rw [hdl.1, List.length_range]
    refine ⟨_, rfl, ?_⟩
    repeat' decreasing_trivial_pre_omega
    refine w_imp (drw_w D' 21 (by decide) (by decide) (by omega)) ?_
    rintro _ _ ⟨v, D3, hv, hc3, rfl, rfl⟩
    repeat' decreasing_trivial_pre_omega
    refine w_imp (drw_w D3 21 (by decide) (by decide) (by omega)) ?_
    rintro _ _ ⟨u, D4, hu, hc4, rfl, rfl⟩
    repeat' decreasing_trivial_pre_omega
    refine ⟨D4, ps ++ [((v : Int), (u : Int))], by rw [List.length_append, List.length_singleton]; omega, by rw [List.length_append, List.length_append, h2]; rfl, ?_, by rw [List.map_append]; rfl, rfl⟩
    intro r hr
    rcases List.mem_append.mp hr with hr | hr
    · exact h3 r hr
    · rw [List.mem_singleton.mp hr]; dsimp only; omega
  · rintro acc e ⟨D3, ps, h1, h2, h3, rfl, rfl⟩
    rw [List.length_range] at h1 h2
    repeat' decreasing_trivial_pre_omega
    refine for_on_w cT ps (fun don e => ∃ (D' : Dk) (qs : List Pt) (s5 s6 s7 : Sl), (lentS s5 = false ∧ lentS s6 = false ∧ lentS s7 = false) ∧ D'.c ≤ D3.c + don.length * 7 ∧ (qs.length ≤ don.length ∧ (0 < don.length → 0 < qs.length)) ∧ ((∀ p ∈ qs, (0 ≤ p.1 ∧ p.1 < 10 ^ 40) ∧ (0 ≤ p.2.1 ∧ p.2.1 < 10 ^ 40) ∧ p.2.2 < kinds) ∧ (qs.map fun p => (p.1, p.2.1)).Nodup) ∧ e = [.ow true (.l (dkT D')), .v (nT kinds), .v (nT many), .ow false (.l (qs.map ptT)), .v (nT far), s5, s6, s7, .un, .un, .un, .un]) ⟨D3, [], .un, .un, .un, ⟨rfl, rfl, rfl⟩, by simp, ⟨by simp, fun h => (by simp at h)⟩, ⟨by simp, by simp⟩, rfl⟩ ?_ ?_
    · rintro don c rest hx e ⟨D', qs, s5, s6, s7, ⟨a5, a6, a7⟩, g1, ⟨g2, g2'⟩, ⟨g3, g4⟩, rfl⟩
      have hdl : don.length < 20 := by
        have := congrArg List.length hx
        simp at this
        omega
      have hcc := h3 c (by rw [hx]; simp)
      refine ⟨[.ow true (.l (dkT D')), .v (nT kinds), .v (nT many), .ow false (.l (qs.map ptT)), .v (nT far), .v (.int c.1), .v (.int c.2), s7, .un, .un, .un, .un], ?_, ?_⟩
      · unfold cT
        (first | rfl | (repeat' (first | refine Wp.gN_ok (by first | rfl | exact Wp.isLent_of rfl (by assumption)) rfl | refine Wp.gsNil_ok rfl | with_reducible apply Wp.gsCons_ok | apply Wp.gT_ok rfl)))
      unfold y1__law_squares x2__law_squares
      have m1 : mulOk 100 (far : Int) = true := mulOk_of 64 64 (by decide) (log2_small (by omega) (by decide)) (by decide)
      repeat' decreasing_trivial_pre_omega
      refine w_imp (integer_w D' 30 (10 ^ 30) rfl (by decide) (by decide) (by omega)) ?_
      rintro _ _ ⟨D4, v, hc4, hv, rfl, rfl⟩
      have m2 : mulOk (100 * (far : Int)) (v : Int) = true := mulOk_of 64 200 (log2_small (by omega) (by decide)) (log2_small (by omega) (by decide)) (by decide)
      repeat' decreasing_trivial_pre_omega
      refine w_imp (integer_w D4 30 (10 ^ 30) rfl (by decide) (by decide) (by omega)) ?_
      rintro _ _ ⟨D5, u, hc5, hu, rfl, rfl⟩
      have m3 : mulOk (far : Int) (u : Int) = true := mulOk_of 64 200 (log2_small (by omega) (by decide)) (log2_small (by omega) (by decide)) (by decide)
      repeat' decreasing_trivial_pre_omega
      have hX : 0 ≤ c.1 + 100 * (far : Int) * (v : Int) ∧ c.1 + 100 * (far : Int) * (v : Int) < 10 ^ 40 := by
        have : far = 0 ∨ far = 1 := by omega
        rcases this with rfl | rfl
        · simp; omega
        · simp; omega
      have hY : 0 ≤ c.2 + (far : Int) * (u : Int) ∧ c.2 + (far : Int) * (u : Int) < 10 ^ 40 := by
        have : far = 0 ∨ far = 1 := by omega
        rcases this with rfl | rfl
        · simp; omega
        · simp; omega
      generalize c.1 + 100 * (far : Int) * (v : Int) = X at hX
      generalize c.2 + (far : Int) * (u : Int) = Y at hY
      refine compG_map_w ptT (fun r => cT (r.1, r.2.1)) qs rfl (by unfold sizeLine; omega) (fun r _ => ⟨_, rfl, ?_⟩) ?_
      · repeat' decreasing_trivial_pre_omega
        exact ⟨rfl, rfl⟩
      · rw [show (qs.map fun r => cT (r.1, r.2.1)) = (qs.map fun r => (r.1, r.2.1)).map cT by rw [List.map_map]; rfl]
        have hb := notin_is (X, Y) (qs.map fun r => (r.1, r.2.1)) (by rw [List.length_map]; omega)
        have hbm : (!decide ((X, Y) ∈ qs.map fun r => (r.1, r.2.1))) = true → (X, Y) ∉ qs.map fun r => (r.1, r.2.1) := fun z w => by rw [decide_eq_true w] at z; cases z
        have hbn : (!decide ((X, Y) ∈ qs.map fun r => (r.1, r.2.1))) = false → 0 < qs.length := fun z => by
          cases qs with
          | nil => cases z
          | cons _ _ => simp
        generalize (!decide ((X, Y) ∈ qs.map fun r => (r.1, r.2.1))) = b at hb hbm hbn
        refine ktwo2 rfl rfl hb ?_
        repeat' decreasing_trivial_pre_omega
        have ha : (qs.map ptT).length < sizeLine := by rw [List.length_map]; unfold sizeLine; omega
        cases b with
        | true =>
          repeat' decreasing_trivial_pre_omega
          refine w_imp (drw_w D5 kinds hk.1 (by omega) (by omega)) ?_
          rintro _ _ ⟨z, D6, hz, hc6, rfl, rfl⟩
          repeat' decreasing_trivial_pre_omega
          refine ⟨D6, qs ++ [(X, Y, z)], .v (.int c.1), .v (.int c.2), .v (.tuple [.int X, .int Y]), ⟨rfl, rfl, rfl⟩, by rw [List.length_append, List.length_singleton]; omega, ⟨by rw [List.length_append, List.length_append]; simp; omega, fun _ => by simp⟩, ⟨?_, ?_⟩, by rw [List.map_append]; rfl⟩
          · intro r hr
            rcases List.mem_append.mp hr with hr | hr
            · exact g3 r hr
            · rw [List.mem_singleton.mp hr]
              exact ⟨hX, hY, hz⟩
          · rw [List.map_append]
            refine List.nodup_append.mpr ⟨g4, by simp, fun a ha b hb' => ?_⟩
            have eb : b = (X, Y) := by simpa using hb'
            rw [eb]
            exact fun z => hbm rfl (z ▸ ha)
        | false =>
          repeat' decreasing_trivial_pre_omega
          exact ⟨D5, qs, .v (.int c.1), .v (.int c.2), .v (.tuple [.int X, .int Y]), ⟨rfl, rfl, rfl⟩, by rw [List.length_append, List.length_singleton]; omega, ⟨by rw [List.length_append]; omega, fun _ => hbn rfl⟩, ⟨g3, g4⟩, rfl⟩
    · rintro e ⟨D', qs, s5, s6, s7, ⟨a5, a6, a7⟩, g1, ⟨g2, g2'⟩, ⟨g3, g4⟩, rfl⟩
      repeat' decreasing_trivial_pre_omega
      exact ⟨D', qs, by omega, ⟨g2' (by omega), by omega, g3, g4⟩, rfl, rfl⟩
end Lw

set_option linter.all false
set_option maxRecDepth 100000
set_option maxHeartbeats 4000000
namespace Lw
open PySem PySem.Spec Ev Pu Mt Wp
local macro_rules | `(tactic| decreasing_trivial_pre_omega) => `(tactic| (first | with_reducible apply Wp.w_seq | with_reducible apply Wp.w_drop | with_reducible apply Wp.w_if | with_reducible apply Wp.w_set | with_reducible apply Wp.w_ret | with_reducible apply Wp.w_asg | with_reducible apply Wp.w_par | with_reducible apply Wp.w_op2 | with_reducible apply Wp.w_acons | with_reducible apply Wp.w_fng | with_reducible apply Wp.w_tup | with_reducible apply Wp.w_lst | with_reducible apply Wp.w_call | with_reducible apply Wp.w_callk | with_reducible apply Wp.w_eand | with_reducible apply Wp.w_eor | with_reducible apply Wp.w_enot | with_reducible apply Wp.w_eif | with_reducible apply Wp.w_tb | with_reducible apply Wp.w_tnot | with_reducible apply Wp.w_tand | with_reducible apply Wp.w_tor | with_reducible apply Wp.w_neg | with_reducible apply Wp.w_isi | with_reducible apply Wp.w_sl | with_reducible apply Wp.w_pso | with_reducible apply Wp.w_rev | with_reducible apply Wp.w_index | with_reducible apply Wp.w_for | with_reducible apply Wp.w_iof | with_reducible apply Wp.w_r1 | with_reducible apply Wp.w_r2 | with_reducible apply Wp.w_comp | with_reducible apply Wp.w_compG | with_reducible apply Wp.w_izip | with_reducible apply Wp.w_izip2 | with_reducible apply Wp.w_ienu | with_reducible apply Wp.w_setix | with_reducible apply Wp.w_join | with_reducible apply Wp.kjoin1 | with_reducible apply Wp.w_fmt | with_reducible apply Wp.w_js_nil | with_reducible apply Wp.w_js | with_reducible apply Wp.w_dictp | with_reducible apply Wp.w_putS | with_reducible apply Wp.putS_nil | with_reducible apply Wp.w_r2w | with_reducible apply Wp.w_nil | with_reducible apply Wp.w_brk | with_reducible apply Wp.w_cnt | with_reducible apply Wp.w_retN | with_reducible apply Wp.w_k | with_reducible apply Wp.w_anil | with_reducible apply Wp.w_pno | with_reducible apply Wp.w_true | with_reducible apply Wp.w_rep | with_reducible apply Wp.krep1 | with_reducible apply Wp.w_mdict1 | with_reducible apply Wp.w_mnew | with_reducible apply Wp.w_min | with_reducible apply Wp.w_mput | with_reducible apply Wp.w_dput | with_reducible apply Wp.kmd1 | with_reducible apply Wp.ksl_ | with_reducible apply Wp.ksl1 | with_reducible apply Wp.ktwo1 | with_reducible apply Wp.kcons1 | with_reducible apply Wp.kseq_rt | with_reducible apply Wp.kseq_bk | with_reducible apply Wp.kseq_ct | with_reducible apply Wp.kret_r | with_reducible apply Wp.kret_b | with_reducible apply Wp.ktb | with_reducible apply Wp.kfun_rt | with_reducible apply Wp.kfun_nx | with_reducible apply Wp.kturn_nx | with_reducible apply Wp.kturn_ct | with_reducible apply Wp.kturn_rt | with_reducible apply Wp.kturn_bk | ((with_reducible apply Wp.kseq_nx_n); (focus (((try simp only [Ev.wb, Ev.bk, List.set_cons_zero, List.set_cons_succ, List.getElem?_cons_zero, List.getElem?_cons_succ, List.cons_append, List.nil_append, List.append_nil]); rfl); done))) | ((with_reducible apply Wp.kback_r_n); (focus (((try simp only [Ev.wb, Ev.bk, List.set_cons_zero, List.set_cons_succ, List.getElem?_cons_zero, List.getElem?_cons_succ, List.cons_append, List.nil_append, List.append_nil]); rfl); done))) | ((with_reducible apply Wp.kback_b_n); (focus (((try simp only [Ev.wb, Ev.bk, List.set_cons_zero, List.set_cons_succ, List.getElem?_cons_zero, List.getElem?_cons_succ, List.cons_append, List.nil_append, List.append_nil]); rfl); done))) | ((with_reducible apply Wp.w_var_v); (focus (rfl; done))) | ((with_reducible apply Wp.w_var_o); (focus (rfl; done))) | ((with_reducible apply Wp.w_var_f); (focus (rfl; done))) | ((with_reducible apply Wp.kset_r); (focus (exact (by first | rfl | exact Wp.isLent_of rfl (by assumption)); done))) | ((with_reducible apply Wp.kset_b); (focus (exact (by first | rfl | exact Wp.isLent_of rfl (by assumption)); done))) | ((with_reducible apply Wp.kset_s); (focus (exact (by first | rfl | exact Wp.isLent_of rfl (by assumption)); done)); (focus (rfl; done))) | ((with_reducible apply Wp.kret_so); (focus (rfl; done))) | ((with_reducible apply Wp.kasg); (focus (rfl; done)); (focus ((first | rfl | (repeat' (first | refine Wp.gN_ok (by first | rfl | exact Wp.isLent_of rfl (by assumption)) rfl | refine Wp.gsNil_ok rfl | with_reducible apply Wp.gsCons_ok | apply Wp.gT_ok rfl))); done))) | ((with_reducible apply Wp.kpar); (focus (rfl; done)); (focus ((repeat (first | refine Wp.setOs_nil rfl | (apply Wp.setOs_r; (focus exact (by first | rfl | exact Wp.isLent_of rfl (by assumption)))) | (apply Wp.setOs_b; (focus exact (by first | rfl | exact Wp.isLent_of rfl (by assumption)))))); done))) | ((with_reducible apply Wp.ktwo2); (focus (rfl; done)); (focus (rfl; done)); (focus ((first | with_reducible assumption | with_reducible exact Wp.gEq_e _ _ | with_reducible exact Wp.gEq_n _ _ | with_reducible exact Wp.gEq_i _ _ _ | exact Wp.gAppend_ok (by assumption) | exact Wp.gIx_l (by assumption) | exact Wp.gIx_t (by assumption) | exact Wp.gStr_ok (by assumption) | exact Ev.gLenS_ok (by assumption) | exact Wp.gAdd_ss (by assumption) | exact Ev.gMulX_ok (by assumption) | exact Wp.gAdd_tt (by assumption) | exact Wp.gAdd_ll (by assumption) | exact Wp.gMul_ok (by assumption) | exact Wp.gMod_ok (by assumption) | exact Wp.gDiv_ok (by assumption) (by assumption) | rfl | assumption | exact Ev.gPowW_ok (by assumption)); done))) | ((with_reducible apply Wp.kfng); (focus (rfl; done)); (focus ((first | with_reducible assumption | with_reducible exact Wp.gEq_e _ _ | with_reducible exact Wp.gEq_n _ _ | with_reducible exact Wp.gEq_i _ _ _ | exact Wp.gAppend_ok (by assumption) | exact Wp.gIx_l (by assumption) | exact Wp.gIx_t (by assumption) | exact Wp.gStr_ok (by assumption) | exact Ev.gLenS_ok (by assumption) | exact Wp.gAdd_ss (by assumption) | exact Ev.gMulX_ok (by assumption) | exact Wp.gAdd_tt (by assumption) | exact Wp.gAdd_ll (by assumption) | exact Wp.gMul_ok (by assumption) | exact Wp.gMod_ok (by assumption) | exact Wp.gDiv_ok (by assumption) (by assumption) | rfl | assumption | exact Ev.gPowW_ok (by assumption)); done))) | ((with_reducible apply Wp.kdisp_t); (focus (rfl; done)); (focus (rfl; done))) | ((with_reducible apply Wp.kdisp_l); (focus (rfl; done)); (focus (rfl; done))) | ((with_reducible apply Wp.kcall); (focus (rfl; done)); (focus (rfl; done)); (focus (exact of_decide_eq_true rfl; done))) | ((with_reducible apply Wp.kcallk); (focus (decide; done)); (focus (exact ⟨rfl, rfl⟩; done)); (focus (rfl; done)); (focus (exact of_decide_eq_true rfl; done))) | ((with_reducible apply Wp.w_mut); (focus (rfl; done))) | ((with_reducible apply Wp.kmut2); (focus (rfl; done)); (focus (rfl; done)); (focus ((first | with_reducible assumption | with_reducible exact Wp.gEq_e _ _ | with_reducible exact Wp.gEq_n _ _ | with_reducible exact Wp.gEq_i _ _ _ | exact Wp.gAppend_ok (by assumption) | exact Wp.gIx_l (by assumption) | exact Wp.gIx_t (by assumption) | exact Wp.gStr_ok (by assumption) | exact Ev.gLenS_ok (by assumption) | exact Wp.gAdd_ss (by assumption) | exact Ev.gMulX_ok (by assumption) | exact Wp.gAdd_tt (by assumption) | exact Wp.gAdd_ll (by assumption) | exact Wp.gMul_ok (by assumption) | exact Wp.gMod_ok (by assumption) | exact Wp.gDiv_ok (by assumption) (by assumption) | rfl | assumption | exact Ev.gPowW_ok (by assumption)); done))) | ((with_reducible apply Wp.kif_t); (focus (rfl; done))) | ((with_reducible apply Wp.kif_f); (focus (rfl; done))) | ((with_reducible apply Wp.kif_t); (focus (assumption; done))) | ((with_reducible apply Wp.kif_f); (focus (assumption; done))) | ((with_reducible apply Wp.kife_t); (focus (rfl; done))) | ((with_reducible apply Wp.kife_f); (focus (rfl; done))) | ((with_reducible apply Wp.kand_t); (focus (rfl; done))) | ((with_reducible apply Wp.kand_f); (focus (rfl; done))) | ((with_reducible apply Wp.kor_t); (focus (rfl; done))) | ((with_reducible apply Wp.kor_f); (focus (rfl; done))) | ((with_reducible apply Wp.kande_t); (focus (rfl; done))) | ((with_reducible apply Wp.kande_f); (focus (rfl; done))) | ((with_reducible apply Wp.kore_t); (focus (rfl; done))) | ((with_reducible apply Wp.kore_f); (focus (rfl; done))) | ((with_reducible apply Wp.ktb_s); (focus (rfl; done))) | ((with_reducible apply Wp.kneg); (focus (rfl; done))) | ((with_reducible apply Wp.kisi); (focus (rfl; done))) | ((with_reducible apply Wp.kpso); (focus (rfl; done))) | ((with_reducible apply Wp.kof_l); (focus (rfl; done))) | ((with_reducible apply Wp.kof_t); (focus (rfl; done))) | ((with_reducible apply Wp.krev_l); (focus (rfl; done))) | ((with_reducible apply Wp.krev_t); (focus (rfl; done))) | ((with_reducible apply Wp.kindex1_); (focus (rfl; done))) | ((with_reducible apply Wp.kjoin2); (focus (rfl; done)); (focus (assumption; done)); (focus (assumption; done))) | ((with_reducible apply Wp.kfmt_s); (focus (rfl; done)); (focus (assumption; done))) | ((with_reducible apply Wp.kfmt_i); (focus (rfl; done)); (focus (assumption; done))) | ((with_reducible apply Wp.kjs); (focus (assumption; done))) | ((with_reducible apply Wp.ksl2_l); (focus (rfl; done))) | ((with_reducible apply Wp.ksl2_t); (focus (rfl; done))) | ((with_reducible apply Wp.w_mget); (focus (rfl; done))) | ((with_reducible apply Wp.kmget); (focus (rfl; done)); (focus (rfl; done)); (focus (rfl; done)); (focus (assumption; done))) | ((with_reducible apply Wp.kmin); (focus (rfl; done)); (focus (rfl; done)); (focus (rfl; done)); (focus (assumption; done))) | ((with_reducible apply Wp.kmput1); (focus (rfl; done))) | ((with_reducible apply Wp.kmput2); (focus (rfl; done)); (focus (rfl; done)); (focus (rfl; done)); (focus (rfl; done)); (focus (assumption; done))) | ((with_reducible apply Wp.kmd2); (focus (rfl; done)); (focus (rfl; done))) | ((with_reducible apply Wp.w_dget); (focus (rfl; done))) | ((with_reducible apply Wp.kdget); (focus (rfl; done)); (focus (rfl; done)); (focus (rfl; done)); (focus (assumption; done))) | ((with_reducible apply Wp.kdput1); (focus (rfl; done))) | ((with_reducible apply Wp.kdput2); (focus (rfl; done)); (focus (rfl; done)); (focus (rfl; done)); (focus (rfl; done)); (focus (assumption; done))) | ((with_reducible apply Wp.ksetix1); (focus (rfl; done))) | ((with_reducible apply Wp.ksetix2); (focus (rfl; done)); (focus (rfl; done)); (focus (rfl; done)); (focus ((first | rfl | assumption | exact Wp.ixN_nat (by assumption)); done))) | ((with_reducible apply Wp.kdictp); (focus (rfl; done)); (focus (assumption; done))) | ((with_reducible apply Wp.kputS); (focus (rfl; done)); (focus (rfl; done)); (focus (rfl; done))) | ((with_reducible apply Wp.putS_l); (focus (rfl; done))) | ((with_reducible apply Wp.putS_d); (focus (rfl; done))) | ((with_reducible apply Wp.kputL); (focus (rfl; done)); (focus (rfl; done)); (focus ((first | rfl | assumption | exact Wp.ixN_nat (by assumption)); done))) | ((with_reducible apply Wp.kputD); (focus (rfl; done)); (focus (rfl; done)); (focus (rfl; done)); (focus (assumption; done))) | ((with_reducible apply Wp.kr2w); (focus (rfl; done))) | ((with_reducible apply Wp.kzip); (focus (rfl; done))) | ((with_reducible apply Wp.w_inmG); (focus (rfl; done)); (focus (rfl; done))) | ((with_reducible apply Wp.w_izipV_l); (focus (rfl; done)); (focus (rfl; done)); (focus (rfl; done)); (focus (rfl; done))) | ((with_reducible apply Wp.w_izipV_r); (focus (rfl; done)); (focus (rfl; done)); (focus (rfl; done)); (focus (rfl; done))) | ((with_reducible apply Wp.kzip2_l); (focus (rfl; done))) | ((with_reducible apply Wp.kzip2_t); (focus (rfl; done))) | ((with_reducible apply Wp.kenu); (focus (rfl; done))) | ((with_reducible apply Wp.w_aug); (focus (rfl; done))) | ((with_reducible apply Wp.kaug); (focus (rfl; done)); (focus ((first | with_reducible assumption | with_reducible exact Wp.gEq_e _ _ | with_reducible exact Wp.gEq_n _ _ | with_reducible exact Wp.gEq_i _ _ _ | exact Wp.gAppend_ok (by assumption) | exact Wp.gIx_l (by assumption) | exact Wp.gIx_t (by assumption) | exact Wp.gStr_ok (by assumption) | exact Ev.gLenS_ok (by assumption) | exact Wp.gAdd_ss (by assumption) | exact Ev.gMulX_ok (by assumption) | exact Wp.gAdd_tt (by assumption) | exact Wp.gAdd_ll (by assumption) | exact Wp.gMul_ok (by assumption) | exact Wp.gMod_ok (by assumption) | exact Wp.gDiv_ok (by assumption) (by assumption) | rfl | assumption | exact Ev.gPowW_ok (by assumption)); done)); (focus (exact (by first | rfl | exact Wp.isLent_of rfl (by assumption)); done))) | ((with_reducible apply Wp.kelt); (focus (rfl; done)))))
def rowT (r : List Int) : T := .tuple (r.map PyData.int)
def rowsT (rs : List (List Int)) : T := .tuple (rs.map rowT)
structure OkR (r : List Int) : Prop where
  len : r.length ≤ 4
  rng : ∀ i ∈ r, 0 ≤ i ∧ i < 10 ^ 40
theorem okr3 {x y z : Int} (h1 : 0 ≤ x ∧ x < 10 ^ 40) (h2 : 0 ≤ y ∧ y < 10 ^ 40) (h3 : 0 ≤ z ∧ z < 10 ^ 40) : OkR [x, y, z] := ⟨by simp, fun i hi => by
  simp only [List.mem_cons, List.not_mem_nil, or_false] at hi
  rcases hi with rfl | rfl | rfl
  · exact h1
  · exact h2
  · exact h3⟩
def bookT (B : Nat) (ks : List (List (List Int))) : T := .tuple [nT B, .tuple (ks.map rowsT)]
structure OkB (B : Nat) (ks : List (List (List Int))) : Prop where
  b : B = 2 ∨ B = 3
  n : 0 < ks.length ∧ ks.length ≤ 20
  len : ∀ rs ∈ ks, rs.length ≤ 9
  rows : ∀ rs ∈ ks, ∀ r ∈ rs, OkR r
theorem app_len (x y : Str) : (x ++ y).length = x.length + y.length := Array.size_append
theorem sjoin_len (sep : Str) : ∀ ys : List Str, (Str.join sep ys).length ≤ (ys.map (·.length)).sum + ys.length * sep.length
  | [] => Nat.zero_le _
  | [x] => by simp [Str.join]
  | x :: y :: ys => by
    have ih := sjoin_len sep (y :: ys)
    rw [Str.join, app_len, app_len]
    simp only [List.map_cons, List.sum_cons, List.length_cons, Nat.add_mul, Nat.one_mul] at ih ⊢
    omega
    · intro h; cases h
theorem join_len (sep : Str) (ys : List Str) : (Txt.join sep ys).length ≤ (ys.map (·.length)).sum + ys.length * sep.length := by
  rw [TL.join_eq]
  exact sjoin_len sep ys
theorem sum_le {B : Nat} : ∀ ys : List Str, (∀ y ∈ ys, y.length ≤ B) → (ys.map (·.length)).sum ≤ ys.length * B
  | [], _ => by simp
  | y :: ys, h => by
    have ih := sum_le ys fun z hz => h z (List.mem_cons_of_mem _ hz)
    have h1 := h y List.mem_cons_self
    simp only [List.map_cons, List.sum_cons, List.length_cons, Nat.add_mul, Nat.one_mul]
    omega
theorem strs_map (ys : List Str) : strsOf (ys.map PyData.str) = some ys := by
  induction ys with
  | nil => rfl
  | cons y ys ih => rw [List.map_cons, strsOf, ih]; rfl
theorem strs_map2 {α : Type} (f : α → Str) (xs : List α) : strsOf (xs.map fun x => PyData.str (f x)) = some (xs.map f) := by
  rw [show (xs.map fun x => PyData.str (f x)) = (xs.map f).map PyData.str by rw [List.map_map]; rfl]
  exact strs_map _
def numS (i : Int) : Str := (toString i : String)
theorem numS_len {i : Int} (h : 0 ≤ i ∧ i < 10 ^ 40) : (numS i).length ≤ 40 := PyProof.Rows.toString_length_le h.1 (by decide) h.2
def rowS (r : List Int) : Str := Txt.join " " (r.map numS)
def rowsS (rs : List (List Int)) : Str := Txt.join ", " (rs.map rowS)
theorem rowS_len {r : List Int} (h : OkR r) : (rowS r).length ≤ 300 := by
  have h1 := join_len " " (r.map numS)
  have h2 := sum_le (B := 60) (r.map numS) fun y hy => by
    obtain ⟨i, hi, rfl⟩ := List.mem_map.mp hy
    exact Nat.le_trans (numS_len (h.rng i hi)) (by omega)
  have h3 : (" " : Str).length = 1 := by decide +kernel
  have h4 := h.len
  rw [List.length_map] at h1 h2
  rw [h3] at h1
  unfold rowS
  omega
theorem rowsS_len {rs : List (List Int)} (hl : rs.length ≤ 20) (h : ∀ r ∈ rs, OkR r) : (rowsS rs).length ≤ 7000 := by
  have h1 := join_len ", " (rs.map rowS)
  have h2 := sum_le (B := 300) (rs.map rowS) fun y hy => by
    obtain ⟨i, hi, rfl⟩ := List.mem_map.mp hy
    exact rowS_len (h i hi)
  have h3 : (", " : Str).length = 2 := by decide +kernel
  rw [List.length_map] at h1 h2
  rw [h3] at h1
  unfold rowsS
  omega
theorem num_log {i : Int} (h : 0 ≤ i ∧ i < 10 ^ 40) : i.natAbs.log2 < 1920 := by
  have : i.natAbs.log2 < 200 := log2_small (by omega) (by decide)
  omega
theorem join_fit {sep : Str} {ys : List Str} {B : Nat} (h : ∀ y ∈ ys, y.length ≤ B) (h2 : ys.length * B + ys.length * sep.length ≤ 16777216) : (ys.map (·.length)).sum + ys.length * sep.length ≤ 16777216 := by
  have := sum_le ys h
  omega
theorem show_row {r : List Int} (h : OkR r) : m_show_integers [.v (rowT r)] = .ok (.r (.str (rowS r))) [.v (rowT r)] := by
  refine w_eq ?_
  unfold m_show_integers
  (apply Wp.w_fun; (focus (rfl; done)); (focus (((try simp only [List.cons_append, List.nil_append, List.length_cons, List.length_nil, Nat.reduceAdd, Nat.reduceSub, Nat.zero_add, Nat.sub_zero, List.replicate_succ, List.replicate_zero, List.append_nil]); rfl); done)))
  unfold b_show_integers x1_show_integers rowT
  have h4 := h.len
  repeat' decreasing_trivial_pre_omega
  refine comp_map_w PyData.int (fun i => .str (numS i)) r (by unfold sizeLine; omega) (fun i hi => ⟨_, rfl, ?_⟩) ?_
  · have hl := num_log (h.rng i hi)
    repeat' decreasing_trivial_pre_omega
    exact ⟨rfl, rfl⟩
  · have q2 := strs_map2 numS r
    have q3 : ((r.map numS).map (·.length)).sum + (r.map numS).length * (" " : Str).length ≤ 16777216 := join_fit (B := 60) (fun y hy => by
      obtain ⟨i, hi, rfl⟩ := List.mem_map.mp hy
      exact Nat.le_trans (numS_len (h.rng i hi)) (by omega)) (by
      have h3 : (" " : Str).length = 1 := by decide +kernel
      rw [h3, List.length_map]; omega)
    repeat' decreasing_trivial_pre_omega
    exact ⟨rfl, rfl⟩
theorem said_row {r : List Int} (h : OkR r) : m__law_said [.v (rowT r)] = .ok (.r (.str (rowS r))) [.v (rowT r)] := by
  refine w_eq ?_
  unfold m__law_said
  (apply Wp.w_fun; (focus (rfl; done)); (focus (((try simp only [List.cons_append, List.nil_append, List.length_cons, List.length_nil, Nat.reduceAdd, Nat.reduceSub, Nat.zero_add, Nat.sub_zero, List.replicate_succ, List.replicate_zero, List.append_nil]); rfl); done)))
  unfold b__law_said x1__law_said rowT
  have h4 := h.len
  repeat' decreasing_trivial_pre_omega
  refine comp_map_w PyData.int (fun i => .str (numS i)) r (by unfold sizeLine; omega) (fun i hi => ⟨_, rfl, ?_⟩) ?_
  · have hl := num_log (h.rng i hi)
    repeat' decreasing_trivial_pre_omega
    exact ⟨rfl, rfl⟩
  · have q2 := strs_map2 numS r
    have q3 : ((r.map numS).map (·.length)).sum + (r.map numS).length * (" " : Str).length ≤ 16777216 := join_fit (B := 60) (fun y hy => by
      obtain ⟨i, hi, rfl⟩ := List.mem_map.mp hy
      exact Nat.le_trans (numS_len (h.rng i hi)) (by omega)) (by
      have h3 : (" " : Str).length = 1 := by decide +kernel
      rw [h3, List.length_map]; omega)
    repeat' decreasing_trivial_pre_omega
    exact ⟨rfl, rfl⟩
theorem show_rows {rs : List (List Int)} (hl : rs.length ≤ 20) (h : ∀ r ∈ rs, OkR r) : m__show_rows [.v (rowsT rs)] = .ok (.r (.str (rowsS rs))) [.v (rowsT rs)] := by
  refine w_eq ?_
  unfold m__show_rows
  (apply Wp.w_fun; (focus (rfl; done)); (focus (((try simp only [List.cons_append, List.nil_append, List.length_cons, List.length_nil, Nat.reduceAdd, Nat.reduceSub, Nat.zero_add, Nat.sub_zero, List.replicate_succ, List.replicate_zero, List.append_nil]); rfl); done)))
  unfold b__show_rows x1__show_rows rowsT
  repeat' decreasing_trivial_pre_omega
  refine comp_map_w rowT (fun i => .str (rowS i)) rs (by unfold sizeLine; omega) (fun i hi => ⟨_, rfl, ?_⟩) ?_
  · have hs := show_row (h i hi)
    repeat' decreasing_trivial_pre_omega
    refine w_of hs ?_
    repeat' decreasing_trivial_pre_omega
    exact ⟨rfl, rfl⟩
  · have q2 := strs_map2 rowS rs
    have q3 : ((rs.map rowS).map (·.length)).sum + (rs.map rowS).length * (", " : Str).length ≤ 16777216 := join_fit (B := 300) (fun y hy => by
      obtain ⟨i, hi, rfl⟩ := List.mem_map.mp hy
      exact rowS_len (h i hi)) (by
      have h3 : (", " : Str).length = 2 := by decide +kernel
      rw [h3, List.length_map]; omega)
    repeat' decreasing_trivial_pre_omega
    exact ⟨rfl, rfl⟩
theorem said_rows {rs : List (List Int)} (hl : rs.length ≤ 20) (h : ∀ r ∈ rs, OkR r) : m__law_said_parts [.v (rowsT rs)] = .ok (.r (.str (rowsS rs))) [.v (rowsT rs)] := by
  refine w_eq ?_
  unfold m__law_said_parts
  (apply Wp.w_fun; (focus (rfl; done)); (focus (((try simp only [List.cons_append, List.nil_append, List.length_cons, List.length_nil, Nat.reduceAdd, Nat.reduceSub, Nat.zero_add, Nat.sub_zero, List.replicate_succ, List.replicate_zero, List.append_nil]); rfl); done)))
  unfold b__law_said_parts x1__law_said_parts rowsT
  repeat' decreasing_trivial_pre_omega
  refine comp_map_w rowT (fun i => .str (rowS i)) rs (by unfold sizeLine; omega) (fun i hi => ⟨_, rfl, ?_⟩) ?_
  · have hs := said_row (h i hi)
    repeat' decreasing_trivial_pre_omega
    refine w_of hs ?_
    repeat' decreasing_trivial_pre_omega
    exact ⟨rfl, rfl⟩
  · have q2 := strs_map2 rowS rs
    have q3 : ((rs.map rowS).map (·.length)).sum + (rs.map rowS).length * (", " : Str).length ≤ 16777216 := join_fit (B := 300) (fun y hy => by
      obtain ⟨i, hi, rfl⟩ := List.mem_map.mp hy
      exact rowS_len (h i hi)) (by
      have h3 : (", " : Str).length = 2 := by decide +kernel
      rw [h3, List.length_map]; omega)
    repeat' decreasing_trivial_pre_omega
    exact ⟨rfl, rfl⟩
theorem show_cell {r : List Int} (h : OkR r) : m_show_cell [.v (rowT r)] = .ok (.r (.str (rowS r))) [.v (rowT r)] := by
  have hs := show_row h
  refine w_eq ?_
  unfold m_show_cell
  (apply Wp.w_fun; (focus (rfl; done)); (focus (((try simp only [List.cons_append, List.nil_append, List.length_cons, List.length_nil, Nat.reduceAdd, Nat.reduceSub, Nat.zero_add, Nat.sub_zero, List.replicate_succ, List.replicate_zero, List.append_nil]); rfl); done)))
  unfold b_show_cell
  repeat' decreasing_trivial_pre_omega
  refine w_of hs ?_
  repeat' decreasing_trivial_pre_omega
  exact ⟨rfl, rfl⟩
theorem show_box {r : List Int} (h : OkR r) : m_show_box [.v (rowT r)] = .ok (.r (.str (rowS r))) [.v (rowT r)] := by
  have hs := show_row h
  refine w_eq ?_
  unfold m_show_box
  (apply Wp.w_fun; (focus (rfl; done)); (focus (((try simp only [List.cons_append, List.nil_append, List.length_cons, List.length_nil, Nat.reduceAdd, Nat.reduceSub, Nat.zero_add, Nat.sub_zero, List.replicate_succ, List.replicate_zero, List.append_nil]); rfl); done)))
  unfold b_show_box
  repeat' decreasing_trivial_pre_omega
  refine w_of hs ?_
  repeat' decreasing_trivial_pre_omega
  exact ⟨rfl, rfl⟩
theorem show_make {rs : List (List Int)} (hl : rs.length ≤ 20) (h : ∀ r ∈ rs, OkR r) : m_show_make [.v (rowsT rs)] = .ok (.r (.str (rowsS rs))) [.v (rowsT rs)] := by
  have hs := show_rows hl h
  refine w_eq ?_
  unfold m_show_make
  (apply Wp.w_fun; (focus (rfl; done)); (focus (((try simp only [List.cons_append, List.nil_append, List.length_cons, List.length_nil, Nat.reduceAdd, Nat.reduceSub, Nat.zero_add, Nat.sub_zero, List.replicate_succ, List.replicate_zero, List.append_nil]); rfl); done)))
  unfold b_show_make
  repeat' decreasing_trivial_pre_omega
  refine w_of hs ?_
  repeat' decreasing_trivial_pre_omega
  exact ⟨rfl, rfl⟩
theorem emp_app (x : Str) : Str.empty ++ x = x := by
  cases x with
  | mk c =>
    show Str.mk (#[] ++ c) = _
    rw [Array.empty_append]
def lineS (B : Nat) : Str := ("book " : Str) ++ numS (B : Int)
def bookS (B : Nat) (ks : List (List (List Int))) : Str := Txt.join "\n" (lineS B :: ks.map rowsS)
theorem lineS_len {B : Nat} (h : B ≤ 10) : (lineS B).length ≤ 65 := by
  have h3 : ("book " : Str).length = 5 := by decide +kernel
  have := numS_len (i := (B : Int)) (by omega)
  unfold lineS
  rw [app_len]
  omega
theorem book_fit {B : Nat} {ks : List (List (List Int))} (o : OkB B ks) : ((lineS B :: ks.map rowsS).map (·.length)).sum + (lineS B :: ks.map rowsS).length * ("\n" : Str).length ≤ 16777216 ∧ (bookS B ks).length ≤ 200000 := by
  have h3 : ("\n" : Str).length = 1 := by decide +kernel
  have hb := o.b
  have hn := o.n
  have h1 : ∀ y ∈ lineS B :: ks.map rowsS, y.length ≤ 7000 := fun y hy => by
    rcases List.mem_cons.mp hy with rfl | hy
    · have := lineS_len (B := B) (by omega)
      omega
    · obtain ⟨rs, hi, rfl⟩ := List.mem_map.mp hy
      exact rowsS_len (by have := o.len rs hi; omega) (o.rows rs hi)
  have h2 := sum_le _ h1
  have h4 : (lineS B :: ks.map rowsS).length ≤ 21 := by simp; omega
  have h5 := join_len "\n" (lineS B :: ks.map rowsS)
  rw [h3] at h5 ⊢
  unfold bookS
  omega
theorem show_book {B : Nat} {ks : List (List (List Int))} (o : OkB B ks) : m_show_book [.v (bookT B ks)] = .ok (.r (.str (bookS B ks))) [.v (bookT B ks)] := by
  have hn := o.n
  have hb := o.b
  refine w_eq ?_
  unfold m_show_book
  (apply Wp.w_fun; (focus (rfl; done)); (focus (((try simp only [List.cons_append, List.nil_append, List.length_cons, List.length_nil, Nat.reduceAdd, Nat.reduceSub, Nat.zero_add, Nat.sub_zero, List.replicate_succ, List.replicate_zero, List.append_nil]); rfl); done)))
  unfold b_show_book x1_show_book bookT
  have h3 : ("book " : Str).length = 5 := by decide +kernel
  have hnum := numS_len (i := (B : Int)) (by omega)
  have j1 : (Str.empty ++ ("book " : Str)).length ≤ sizeLine := by rw [emp_app, h3]; unfold sizeLine; omega
  have j2 : (Str.empty ++ ("book " : Str) ++ numS (B : Int)).length ≤ sizeLine := by rw [emp_app, app_len, h3]; unfold sizeLine; omega
  have hl := num_log (i := (B : Int)) (by omega)
  repeat' decreasing_trivial_pre_omega
  refine comp_map_w rowsT (fun i => .str (rowsS i)) ks (by unfold sizeLine; omega) (fun rs hi => ⟨_, rfl, ?_⟩) ?_
  · have hs := show_rows (rs := rs) (by have := o.len rs hi; omega) (o.rows rs hi)
    repeat' decreasing_trivial_pre_omega
    refine w_of hs ?_
    repeat' decreasing_trivial_pre_omega
    exact ⟨rfl, rfl⟩
  · have ha : [PyData.str (Str.empty ++ ("book " : Str) ++ numS (B : Int))].length + (ks.map fun i => PyData.str (rowsS i)).length ≤ sizeLine := by rw [List.length_map]; unfold sizeLine; simp; omega
    have q2 : strsOf ([PyData.str (Str.empty ++ ("book " : Str) ++ numS (B : Int))] ++ (ks.map fun i => PyData.str (rowsS i))) = some (lineS B :: ks.map rowsS) := by
      rw [emp_app, show ([PyData.str (("book " : Str) ++ numS (B : Int))] ++ (ks.map fun i => PyData.str (rowsS i))) = (lineS B :: ks.map rowsS).map PyData.str by rw [List.map_cons, List.map_map]; rfl]
      exact strs_map _
    have q3 := (book_fit o).1
    refine ktwo2 rfl rfl (gAdd_ll ha) ?_
    refine kjoin2 rfl q2 q3 ?_
    repeat' decreasing_trivial_pre_omega
    exact ⟨rfl, rfl⟩
theorem said_book {B : Nat} {ks : List (List (List Int))} (o : OkB B ks) : m__law_said_book [.v (bookT B ks)] = .ok (.r (.str (bookS B ks))) [.v (bookT B ks)] := by
  have hn := o.n
  have hb := o.b
  refine w_eq ?_
  unfold m__law_said_book
  (apply Wp.w_fun; (focus (rfl; done)); (focus (((try simp only [List.cons_append, List.nil_append, List.length_cons, List.length_nil, Nat.reduceAdd, Nat.reduceSub, Nat.zero_add, Nat.sub_zero, List.replicate_succ, List.replicate_zero, List.append_nil]); rfl); done)))
  unfold b__law_said_book x1__law_said_book bookT
  have h3 : ("book " : Str).length = 5 := by decide +kernel
  have hnum := numS_len (i := (B : Int)) (by omega)
  have j2 : ("book " : Str).length + (numS (B : Int)).length ≤ sizeLine := by rw [h3]; unfold sizeLine; omega
  have hl := num_log (i := (B : Int)) (by omega)
  repeat' decreasing_trivial_pre_omega
  refine comp_map_w rowsT (fun i => .str (rowsS i)) ks (by unfold sizeLine; omega) (fun rs hi => ⟨_, rfl, ?_⟩) ?_
  · have hs := said_rows (rs := rs) (by have := o.len rs hi; omega) (o.rows rs hi)
    repeat' decreasing_trivial_pre_omega
    refine w_of hs ?_
    repeat' decreasing_trivial_pre_omega
    exact ⟨rfl, rfl⟩
  · have ha : [PyData.str (("book " : Str) ++ numS (B : Int))].length + (ks.map fun i => PyData.str (rowsS i)).length ≤ sizeLine := by rw [List.length_map]; unfold sizeLine; simp; omega
    have q2 : strsOf ([PyData.str (("book " : Str) ++ numS (B : Int))] ++ (ks.map fun i => PyData.str (rowsS i))) = some (lineS B :: ks.map rowsS) := by
      rw [show ([PyData.str (("book " : Str) ++ numS (B : Int))] ++ (ks.map fun i => PyData.str (rowsS i))) = (lineS B :: ks.map rowsS).map PyData.str by rw [List.map_cons, List.map_map]; rfl]
      exact strs_map _
    have q3 := (book_fit o).1
    refine ktwo2 rfl rfl (gAdd_ll ha) ?_
    refine kjoin2 rfl q2 q3 ?_
    repeat' decreasing_trivial_pre_omega
    exact ⟨rfl, rfl⟩
def fieldT (B : Nat) (ks : List (List (List Int))) (rs : List (List Int)) : T := .tuple [bookT B ks, rowsT rs]
def fieldS (B : Nat) (ks : List (List (List Int))) (rs : List (List Int)) : Str := ("field " : Str) ++ rowsS rs ++ ("\n" : Str) ++ bookS B ks
theorem show_field {B : Nat} {ks : List (List (List Int))} {rs : List (List Int)} (o : OkB B ks) (hr : rs.length ≤ 20) (h : ∀ r ∈ rs, OkR r) : m_show_field [.v (fieldT B ks rs)] = .ok (.r (.str (fieldS B ks rs))) [.v (fieldT B ks rs)] := by
  have s1 := show_book o
  have s2 := show_rows hr h
  have b1 := (book_fit o).2
  have b2 := rowsS_len hr h
  have h3 : ("field " : Str).length = 6 := by decide +kernel
  have h4 : ("\n" : Str).length = 1 := by decide +kernel
  have z1 : (rowsS rs).length ≤ sizeLine := by unfold sizeLine; omega
  have z2 : (bookS B ks).length ≤ sizeLine := by unfold sizeLine; omega
  have j1 : (Str.empty ++ ("field " : Str)).length ≤ sizeLine := by rw [emp_app, h3]; unfold sizeLine; omega
  have j2 : (Str.empty ++ ("field " : Str) ++ rowsS rs).length ≤ sizeLine := by rw [emp_app, app_len, h3]; unfold sizeLine; omega
  have j3 : (Str.empty ++ ("field " : Str) ++ rowsS rs ++ ("\n" : Str)).length ≤ sizeLine := by rw [emp_app, app_len, app_len, h3, h4]; unfold sizeLine; omega
  have j4 : (Str.empty ++ ("field " : Str) ++ rowsS rs ++ ("\n" : Str) ++ bookS B ks).length ≤ sizeLine := by rw [emp_app, app_len, app_len, app_len, h3, h4]; unfold sizeLine; omega
  refine w_eq ?_
  unfold m_show_field
  (apply Wp.w_fun; (focus (rfl; done)); (focus (((try simp only [List.cons_append, List.nil_append, List.length_cons, List.length_nil, Nat.reduceAdd, Nat.reduceSub, Nat.zero_add, Nat.sub_zero, List.replicate_succ, List.replicate_zero, List.append_nil]); rfl); done)))
  unfold b_show_field fieldT
  repeat' decreasing_trivial_pre_omega
  refine w_of s2 ?_
  repeat' decreasing_trivial_pre_omega
  refine w_of s1 ?_
  repeat' decreasing_trivial_pre_omega
  refine ⟨?_, rfl⟩
  rw [emp_app]
  rfl
theorem said_field {B : Nat} {ks : List (List (List Int))} {rs : List (List Int)} (o : OkB B ks) (hr : rs.length ≤ 20) (h : ∀ r ∈ rs, OkR r) : m__law_said_field [.v (fieldT B ks rs)] = .ok (.r (.str (fieldS B ks rs))) [.v (fieldT B ks rs)] := by
  have s1 := said_book o
  have s2 := said_rows hr h
  have b1 := (book_fit o).2
  have b2 := rowsS_len hr h
  have h3 : ("field " : Str).length = 6 := by decide +kernel
  have h4 : ("\n" : Str).length = 1 := by decide +kernel
  have j2 : ("field " : Str).length + (rowsS rs).length ≤ sizeLine := by rw [h3]; unfold sizeLine; omega
  have j3 : (("field " : Str) ++ rowsS rs).length + ("\n" : Str).length ≤ sizeLine := by rw [app_len, h3, h4]; unfold sizeLine; omega
  have j4 : (("field " : Str) ++ rowsS rs ++ ("\n" : Str)).length + (bookS B ks).length ≤ sizeLine := by rw [app_len, app_len, h3, h4]; unfold sizeLine; omega
  refine w_eq ?_
  unfold m__law_said_field
  (apply Wp.w_fun; (focus (rfl; done)); (focus (((try simp only [List.cons_append, List.nil_append, List.length_cons, List.length_nil, Nat.reduceAdd, Nat.reduceSub, Nat.zero_add, Nat.sub_zero, List.replicate_succ, List.replicate_zero, List.append_nil]); rfl); done)))
  unfold b__law_said_field fieldT
  repeat' decreasing_trivial_pre_omega
  refine w_of s2 ?_
  repeat' decreasing_trivial_pre_omega
  refine w_of s1 ?_
  repeat' decreasing_trivial_pre_omega
  exact ⟨rfl, rfl⟩
structure OkP (p : Int × Int) : Prop where
  a : 0 ≤ p.1 ∧ p.1 < 10 ^ 40
  b : 0 ≤ p.2 ∧ p.2 < 10 ^ 40
def spanS (p : Int × Int) : Str := numS p.1 ++ ("-" : Str) ++ numS p.2
def spansT (ps : List (Int × Int)) : T := .tuple (ps.map cT)
def spansS (ps : List (Int × Int)) : Str := Txt.join " " (ps.map spanS)
theorem dash_len : ("-" : Str).length = 1 := by decide +kernel
theorem spanS_len {p : Int × Int} (h : OkP p) : (spanS p).length ≤ 121 := by
  have h1 := numS_len h.a
  have h2 := numS_len h.b
  unfold spanS
  rw [app_len, app_len, dash_len]
  omega
theorem spans_fit {ps : List (Int × Int)} (hl : ps.length ≤ 1000) (h : ∀ p ∈ ps, OkP p) : ((ps.map spanS).map (·.length)).sum + (ps.map spanS).length * (" " : Str).length ≤ 16777216 := join_fit (B := 121) (fun y hy => by
  obtain ⟨i, hi, rfl⟩ := List.mem_map.mp hy
  exact spanS_len (h i hi)) (by
  have h3 : (" " : Str).length = 1 := by decide +kernel
  rw [h3, List.length_map]; omega)
theorem show_spans {ps : List (Int × Int)} (hl : ps.length ≤ 1000) (h : ∀ p ∈ ps, OkP p) : m_show_spans [.v (spansT ps)] = .ok (.r (.str (spansS ps))) [.v (spansT ps)] := by
  refine w_eq ?_
  unfold m_show_spans
  (apply Wp.w_fun; (focus (rfl; done)); (focus (((try simp only [List.cons_append, List.nil_append, List.length_cons, List.length_nil, Nat.reduceAdd, Nat.reduceSub, Nat.zero_add, Nat.sub_zero, List.replicate_succ, List.replicate_zero, List.append_nil]); rfl); done)))
  unfold b_show_spans x1_show_spans spansT
  repeat' decreasing_trivial_pre_omega
  refine comp_map_w cT (fun i => .str (spanS i)) ps (by unfold sizeLine; omega) (fun p hi => ⟨_, rfl, ?_⟩) ?_
  · have l1 := num_log (h p hi).a
    have l2 := num_log (h p hi).b
    have n1 := numS_len (h p hi).a
    have n2 := numS_len (h p hi).b
    have j1 : (Str.empty ++ numS p.1).length ≤ sizeLine := by rw [emp_app]; unfold sizeLine; omega
    have j2 : (Str.empty ++ numS p.1 ++ ("-" : Str)).length ≤ sizeLine := by rw [emp_app, app_len, dash_len]; unfold sizeLine; omega
    have j3 : (Str.empty ++ numS p.1 ++ ("-" : Str) ++ numS p.2).length ≤ sizeLine := by rw [emp_app, app_len, app_len, dash_len]; unfold sizeLine; omega
    repeat' decreasing_trivial_pre_omega
    refine ⟨?_, rfl⟩
    rw [emp_app]
    rfl
  · have q2 := strs_map2 spanS ps
    have q3 := spans_fit hl h
    repeat' decreasing_trivial_pre_omega
    exact ⟨rfl, rfl⟩
theorem ok_of (s : String) : PyData.strOk (Str.ofString s) = true := by
  rw [Str.ofString_eq_toList]
  unfold PyData.strOk
  rw [Array.all_eq_true']
  intro n hn
  rw [List.mem_toArray] at hn
  obtain ⟨c, _, rfl⟩ := List.mem_map.mp hn
  refine decide_eq_true ?_
  have h := c.valid
  show c.val.toNat < 1114112
  rcases h with h | h
  · have : c.val.toNat < 55296 := h
    omega
  · exact h.2
theorem ok_app {x y : Str} (h1 : PyData.strOk x = true) (h2 : PyData.strOk y = true) : PyData.strOk (x ++ y) = true := by
  unfold PyData.strOk at h1 h2 ⊢
  show (x.cps ++ y.cps).all _ = true
  rw [Array.all_append, h1, h2]
  rfl
theorem ok_sjoin {sep : Str} (h : PyData.strOk sep = true) : ∀ ys : List Str, (∀ y ∈ ys, PyData.strOk y = true) → PyData.strOk (Str.join sep ys) = true
  | [], _ => by simp [Str.join, PyData.strOk, Str.empty]
  | [x], h2 => h2 x (by simp)
  | x :: y :: ys, h2 => by
    have ih := ok_sjoin h (y :: ys) fun z hz => h2 z (List.mem_cons_of_mem _ hz)
    rw [Str.join]
    · exact ok_app (ok_app (h2 x List.mem_cons_self) h) ih
    · intro z; cases z
theorem ok_join {sep : Str} (h : PyData.strOk sep = true) (ys : List Str) (h2 : ∀ y ∈ ys, PyData.strOk y = true) : PyData.strOk (Txt.join sep ys) = true := by
  rw [TL.join_eq]
  exact ok_sjoin h ys h2
theorem ok_num (i : Int) : PyData.strOk (numS i) = true := ok_of _
theorem ok_map {α : Type} {f : α → Str} (h : ∀ a, PyData.strOk (f a) = true) (xs : List α) : ∀ y ∈ xs.map f, PyData.strOk y = true := fun y hy => by
  obtain ⟨a, _, rfl⟩ := List.mem_map.mp hy
  exact h a
theorem ok_row (r : List Int) : PyData.strOk (rowS r) = true := ok_join (ok_of _) _ (ok_map ok_num r)
theorem ok_rows (rs : List (List Int)) : PyData.strOk (rowsS rs) = true := ok_join (ok_of _) _ (ok_map ok_row rs)
theorem ok_span (p : Int × Int) : PyData.strOk (spanS p) = true := ok_app (ok_app (ok_num _) (ok_of _)) (ok_num _)
theorem ok_spans (ps : List (Int × Int)) : PyData.strOk (spansS ps) = true := ok_join (ok_of _) _ (ok_map ok_span ps)
theorem ok_book (B : Nat) (ks : List (List (List Int))) : PyData.strOk (bookS B ks) = true := ok_join (ok_of _) _ fun y hy => by
  rcases List.mem_cons.mp hy with rfl | hy
  · exact ok_app (ok_of _) (ok_num _)
  · exact ok_map ok_rows ks y hy
theorem ok_field (B : Nat) (ks : List (List (List Int))) (rs : List (List Int)) : PyData.strOk (fieldS B ks rs) = true := ok_app (ok_app (ok_app (ok_of _) (ok_rows _)) (ok_of _)) (ok_book _ _)
theorem okr2 {x y : Int} (h1 : 0 ≤ x ∧ x < 10 ^ 40) (h2 : 0 ≤ y ∧ y < 10 ^ 40) : OkR [x, y] := ⟨by simp, fun i hi => by
  simp only [List.mem_cons, List.not_mem_nil, or_false] at hi
  rcases hi with rfl | rfl
  · exact h1
  · exact h2⟩
theorem okr4 {x y z w : Int} (h1 : 0 ≤ x ∧ x < 10 ^ 40) (h2 : 0 ≤ y ∧ y < 10 ^ 40) (h3 : 0 ≤ z ∧ z < 10 ^ 40) (h4 : 0 ≤ w ∧ w < 10 ^ 40) : OkR [x, y, z, w] := ⟨by simp, fun i hi => by
  simp only [List.mem_cons, List.not_mem_nil, or_false] at hi
  rcases hi with rfl | rfl | rfl | rfl
  · exact h1
  · exact h2
  · exact h3
  · exact h4⟩
theorem fit_row {r : List Int} (h : OkR r) : (rowS r).length ≤ sizeLine := by have := rowS_len h; unfold sizeLine; omega
theorem fit_rows {rs : List (List Int)} (hl : rs.length ≤ 20) (h : ∀ r ∈ rs, OkR r) : (rowsS rs).length ≤ sizeLine := by have := rowsS_len hl h; unfold sizeLine; omega
theorem fit_book {B : Nat} {ks : List (List (List Int))} (o : OkB B ks) : (bookS B ks).length ≤ sizeLine := by have := (book_fit o).2; unfold sizeLine; omega
theorem fit_field {B : Nat} {ks : List (List (List Int))} {rs : List (List Int)} (o : OkB B ks) (hl : rs.length ≤ 20) (h : ∀ r ∈ rs, OkR r) : (fieldS B ks rs).length ≤ sizeLine := by
  have h1 := (book_fit o).2
  have h2 := rowsS_len hl h
  have h3 : ("field " : Str).length = 6 := by decide +kernel
  have h4 : ("\n" : Str).length = 1 := by decide +kernel
  unfold fieldS sizeLine
  rw [app_len, app_len, app_len, h3, h4]
  omega
theorem fit_spans {ps : List (Int × Int)} (hl : ps.length ≤ 1000) (h : ∀ p ∈ ps, OkP p) : (spansS ps).length ≤ sizeLine := by
  have h1 := join_len " " (ps.map spanS)
  have h2 := spans_fit hl h
  unfold spansS sizeLine
  omega
end Lw

set_option linter.all false
set_option maxRecDepth 100000
set_option maxHeartbeats 4000000
namespace Lw
open PySem PySem.Spec Ev Pu Mt Wp
/-! ### signs of texts -/
abbrev tl (x : Str) : List Nat := x.cps.toList
theorem tl_numS (n : Nat) : tl (numS (n : Int)) = TL.numL n := TL.tl_num n
theorem numS_nat {i : Int} (h : 0 ≤ i) : ∃ n : Nat, i = (n : Int) := ⟨i.toNat, by omega⟩
theorem dig_free {n s : Nat} (h : s < 48 ∨ 57 < s) : s ∉ tl (numS (n : Int)) := by rw [tl_numS]; exact TL.numL_free h
theorem join_free {y : Str} {s : Nat} (hy : s ∉ tl y) : ∀ {parts : List Str}, (∀ p ∈ parts, s ∉ tl p) → s ∉ tl (Txt.join y parts) := by
  intro parts h
  rw [TL.join_eq]
  show s ∉ TL.tl (Str.join y parts)
  rw [TL.tl_join]
  have key : ∀ ps : List (List Nat), (∀ p ∈ ps, s ∉ p) → s ∉ TL.joinL (TL.tl y) ps := by
    intro ps
    induction ps with
    | nil => intro _ z; cases z
    | cons p ps ih =>
      intro hp
      cases ps with
      | nil => exact hp p (by simp)
      | cons q qs =>
        show s ∉ p ++ (TL.tl y ++ TL.joinL (TL.tl y) (q :: qs))
        intro z
        rcases List.mem_append.mp z with z | z
        · exact hp p (by simp) z
        · rcases List.mem_append.mp z with z | z
          · exact hy z
          · exact ih (fun r hr => hp r (List.mem_cons_of_mem _ hr)) z
  refine key _ fun p hp => ?_
  obtain ⟨q, hq, rfl⟩ := List.mem_map.mp hp
  exact h q hq
theorem app_free {x y : Str} {s : Nat} (h1 : s ∉ tl x) (h2 : s ∉ tl y) : s ∉ tl (x ++ y) := by
  show s ∉ TL.tl (x ++ y)
  rw [TL.tl_append]
  exact fun z => (List.mem_append.mp z).elim h1 h2
theorem tl_sp : tl (" " : Str) = [32] := by decide +kernel
theorem tl_cm : tl (", " : Str) = [44, 32] := by decide +kernel
theorem tl_nl : tl ("\n" : Str) = [10] := by decide +kernel
theorem tl_da : tl ("-" : Str) = [45] := by decide +kernel
theorem tl_ze : tl ("0" : Str) = [48] := by decide +kernel
theorem row_free {r : List Int} (h : OkR r) {s : Nat} (hs : (s < 48 ∨ 57 < s) ∧ s ≠ 32) : s ∉ tl (rowS r) := by
  refine join_free (by rw [tl_sp]; simp; exact hs.2) fun p hp => ?_
  obtain ⟨i, hi, rfl⟩ := List.mem_map.mp hp
  obtain ⟨n, rfl⟩ := numS_nat (h.rng i hi).1
  exact dig_free hs.1
theorem rows_free {rs : List (List Int)} (h : ∀ r ∈ rs, OkR r) {s : Nat} (hs : (s < 48 ∨ 57 < s) ∧ s ≠ 32 ∧ s ≠ 44) : s ∉ tl (rowsS rs) := by
  refine join_free (by rw [tl_cm]; simp; exact ⟨hs.2.2, hs.2.1⟩) fun p hp => ?_
  obtain ⟨r, hr, rfl⟩ := List.mem_map.mp hp
  exact row_free (h r hr) ⟨hs.1, hs.2.1⟩
theorem span_free {p : Int × Int} (h : OkP p) {s : Nat} (hs : (s < 48 ∨ 57 < s) ∧ s ≠ 45) : s ∉ tl (spanS p) := by
  obtain ⟨n, e1⟩ := numS_nat h.a.1
  obtain ⟨m, e2⟩ := numS_nat h.b.1
  unfold spanS
  rw [e1, e2]
  exact app_free (app_free (dig_free hs.1) (by rw [tl_da]; simp; exact hs.2)) (dig_free hs.1)
theorem line_free {B : Nat} : 10 ∉ tl (lineS B) := app_free (by decide +kernel) (dig_free (by omega))
/-! ### split -/
theorem k_sp : (" " : Str).cps.all (· < 256) = true := by decide +kernel
theorem k_cm : (", " : Str).cps.all (· < 256) = true := by decide +kernel
theorem k_nl : ("\n" : Str).cps.all (· < 256) = true := by decide +kernel
theorem k_da : ("-" : Str).cps.all (· < 256) = true := by decide +kernel
theorem l_sp : ((" " : Str).length == 0) = false := by decide +kernel
theorem l_cm : ((", " : Str).length == 0) = false := by decide +kernel
theorem l_nl : (("\n" : Str).length == 0) = false := by decide +kernel
theorem l_da : (("-" : Str).length == 0) = false := by decide +kernel
theorem spl_ok {y : Str} {parts : List Str} {a : Str} (h : Txt.split a y = parts) (hy : (y.length == 0) = false) (hl : a.length + 2 ≤ sizeLine) : fSplit a y = some (.b (.l (parts.map PyData.str))) := by
  unfold fSplit
  rw [if_pos ⟨hy, hl⟩, h]
theorem spl_row {r : List Int} (h : OkR r) (hn : r ≠ []) : fSplit (rowS r) " " = some (.b (.l ((r.map numS).map PyData.str))) := by
  refine spl_ok (TL.split_join (s := 32) (S := []) tl_sp k_sp (by simpa using hn) fun p hp => ?_) l_sp ?_
  · obtain ⟨i, hi, rfl⟩ := List.mem_map.mp hp
    obtain ⟨n, rfl⟩ := numS_nat (h.rng i hi).1
    exact dig_free (by omega)
  · have := rowS_len h
    unfold sizeLine; omega
theorem spl_rows {rs : List (List Int)} (h : ∀ r ∈ rs, OkR r) (hn : rs ≠ []) (hl : rs.length ≤ 20) : fSplit (rowsS rs) ", " = some (.b (.l ((rs.map rowS).map PyData.str))) := by
  refine spl_ok (TL.split_join (s := 44) (S := [32]) tl_cm k_cm (by simpa using hn) fun p hp => ?_) l_cm ?_
  · obtain ⟨r, hr, rfl⟩ := List.mem_map.mp hp
    exact row_free (h r hr) (by omega)
  · have := rowsS_len hl h
    unfold sizeLine; omega
theorem spl_spans {ps : List (Int × Int)} (h : ∀ p ∈ ps, OkP p) (hn : ps ≠ []) (hl : ps.length ≤ 1000) : fSplit (spansS ps) " " = some (.b (.l ((ps.map spanS).map PyData.str))) := by
  refine spl_ok (TL.split_join (s := 32) (S := []) tl_sp k_sp (by simpa using hn) fun p hp => ?_) l_sp ?_
  · obtain ⟨r, hr, rfl⟩ := List.mem_map.mp hp
    exact span_free (h r hr) (by omega)
  · have h1 := join_len " " (ps.map spanS)
    have h2 := sum_le (B := 121) (ps.map spanS) fun y hy => by
      obtain ⟨p, hp, rfl⟩ := List.mem_map.mp hy
      exact spanS_len (h p hp)
    have h3 : (" " : Str).length = 1 := by decide +kernel
    unfold spansS sizeLine
    rw [List.length_map, h3] at h1
    rw [List.length_map] at h2
    have h4 : ps.length * 121 ≤ 121000 := by omega
    omega
theorem spl_span {p : Int × Int} (h : OkP p) : fSplit (spanS p) "-" = some (.b (.l ([numS p.1, numS p.2].map PyData.str))) := by
  have e : spanS p = Txt.join "-" [numS p.1, numS p.2] := by
    rw [TL.join_eq]
    refine TL.ext_tl ?_
    rw [TL.tl_join]
    unfold spanS
    rw [TL.tl_append, TL.tl_append, List.append_assoc]
    rfl
  refine spl_ok ?_ l_da ?_
  · rw [e]
    refine TL.split_join (s := 45) (S := []) tl_da k_da (by simp) fun q hq => ?_
    obtain ⟨n, e1⟩ := numS_nat h.a.1
    obtain ⟨m, e2⟩ := numS_nat h.b.1
    simp only [List.mem_cons, List.not_mem_nil, or_false] at hq
    rcases hq with rfl | rfl
    · rw [e1]; exact dig_free (by omega)
    · rw [e2]; exact dig_free (by omega)
  · have := spanS_len h
    unfold sizeLine; omega
theorem spl_book {B : Nat} {ks : List (List (List Int))} (o : OkB B ks) : fSplit (bookS B ks) "\n" = some (.b (.l ((lineS B :: ks.map rowsS).map PyData.str))) := by
  refine spl_ok (TL.split_join (s := 10) (S := []) tl_nl k_nl (by simp) fun p hp => ?_) l_nl ?_
  · rcases List.mem_cons.mp hp with rfl | hp
    · exact line_free
    · obtain ⟨r, hr, rfl⟩ := List.mem_map.mp hp
      exact rows_free (o.rows r hr) (by omega)
  · have := (book_fit o).2
    unfold sizeLine; omega
theorem one_line {a : Str} (h : 10 ∉ tl a) (hl : a.length + 2 ≤ sizeLine) : fSplit a "\n" = some (.b (.l [.str a])) := by
  have e : a = Txt.join "\n" [a] := by
    rw [TL.join_eq]
    refine TL.ext_tl ?_
    rw [TL.tl_join]
    rfl
  refine spl_ok (parts := [a]) ?_ l_nl hl
  conv => lhs; rw [e]
  exact TL.split_join (s := 10) (S := []) tl_nl k_nl (by simp) fun p hp => by rw [List.mem_singleton.mp hp]; exact h
theorem spl_field {B : Nat} {ks : List (List (List Int))} {rs : List (List Int)} (o : OkB B ks) (hr : rs.length ≤ 20) (h : ∀ r ∈ rs, OkR r) : fSplit (fieldS B ks rs) "\n" = some (.b (.l (((("field " : Str) ++ rowsS rs) :: lineS B :: ks.map rowsS).map PyData.str))) := by
  have e : fieldS B ks rs = Txt.join "\n" ((("field " : Str) ++ rowsS rs) :: lineS B :: ks.map rowsS) := by
    rw [TL.join_eq]
    refine TL.ext_tl ?_
    rw [TL.tl_join]
    unfold fieldS bookS
    rw [TL.tl_append, TL.tl_append, TL.join_eq, TL.tl_join, List.append_assoc]
    rfl
  refine spl_ok ?_ l_nl ?_
  · rw [e]
    refine TL.split_join (s := 10) (S := []) tl_nl k_nl (by simp) fun p hp => ?_
    rcases List.mem_cons.mp hp with rfl | hp
    · exact app_free (by decide +kernel) (rows_free h (by omega))
    · rcases List.mem_cons.mp hp with rfl | hp
      · exact line_free
      · obtain ⟨r, hr, rfl⟩ := List.mem_map.mp hp
        exact rows_free (o.rows r hr) (by omega)
  · have h1 := (book_fit o).2
    have h2 := rowsS_len hr h
    have h3 : ("field " : Str).length = 6 := by decide +kernel
    have h4 : ("\n" : Str).length = 1 := by decide +kernel
    unfold fieldS sizeLine
    rw [app_len, app_len, app_len, h3, h4]
    omega
/-! ### digits -/
theorem asc_num (n : Nat) : Txt.isascii (numS (n : Int)) = true := by
  unfold Txt.isascii
  rw [← Array.all_toList]
  refine List.all_eq_true.mpr fun c hc => ?_
  have := TL.numL_digits n c (by rw [← tl_numS]; exact hc)
  exact decide_eq_true (by omega)
theorem dig_one : ∀ c, c < 58 → 48 ≤ c → Unicode.isDigit c = true := by decide +kernel
theorem dig_num (n : Nat) : Txt.isdigit (numS (n : Int)) = true := by
  unfold Txt.isdigit
  have h1 : (numS (n : Int)).length > 0 := by
    have := TL.numL_ne n
    rw [← tl_numS] at this
    have h2 : (numS (n : Int)).length = (tl (numS (n : Int))).length := TL.len_tl _
    rw [h2]
    exact List.length_pos_iff.mpr this
  rw [decide_eq_true h1, Bool.true_and, ← Array.all_toList]
  refine List.all_eq_true.mpr fun c hc => ?_
  have := TL.numL_digits n c (by rw [← tl_numS]; exact hc)
  exact dig_one c (by omega) (by omega)
theorem head_ne : ∀ n : Nat, 0 < n → (TL.numL n).take 1 ≠ [48] := by
  intro n
  induction n using Nat.strongRecOn with
  | _ n ih =>
    intro h
    by_cases hn : n < 10
    · rw [TL.numL_lt hn]
      simp
      omega
    · rw [TL.numL_step (by omega)]
      have := ih (n / 10) (by omega) (by omega)
      have ne := TL.numL_ne (n / 10)
      cases q : TL.numL (n / 10) with
      | nil => exact absurd q ne
      | cons c r => rw [q] at this; simpa using this
theorem st_zero (n : Nat) (h : 0 < n) : Txt.startswith (numS (n : Int)) "0" = false := by
  unfold Txt.startswith
  have e : Builtin.Str.subAt (numS (n : Int)) "0" 0 = false := by
    rw [StrLaws.subAt_eq]
    have h1 : ("0" : Str).length = 1 := by decide +kernel
    rw [h1, List.drop_zero]
    show ((tl (numS (n : Int))).take 1 == tl ("0" : Str)) = false
    rw [tl_numS, tl_ze]
    exact beq_eq_false_iff_ne.mpr (head_ne n h)
  rw [e, Bool.and_false]
theorem zero_s : numS (0 : Int) = ("0" : Str) := by decide +kernel
theorem int_num {n : Nat} (h : (n : Int) < 10 ^ 40) : gIntT [.str (numS (n : Int))] = some (.r (.int (n : Int))) := by
  have hl : (numS (n : Int)).length ≤ 40 := numS_len ⟨by omega, h⟩
  have h2 : intText? (numS (n : Int)) = some (n : Int) := TL.int_num (by
    have : (TL.numL n).length = (numS (n : Int)).length := by rw [← tl_numS]; exact (TL.len_tl _).symm
    omega)
  show fIntT (.str (numS (n : Int))) = _
  simp only [fIntT, h2]
  rw [if_pos (by omega)]
end Lw

set_option linter.all false
set_option maxRecDepth 100000
set_option maxHeartbeats 4000000
namespace Lw
open PySem PySem.Spec Ev Pu Mt Wp
local macro_rules | `(tactic| decreasing_trivial_pre_omega) => `(tactic| (first | with_reducible apply Wp.w_seq | with_reducible apply Wp.w_drop | with_reducible apply Wp.w_if | with_reducible apply Wp.w_set | with_reducible apply Wp.w_ret | with_reducible apply Wp.w_asg | with_reducible apply Wp.w_par | with_reducible apply Wp.w_op2 | with_reducible apply Wp.w_acons | with_reducible apply Wp.w_fng | with_reducible apply Wp.w_tup | with_reducible apply Wp.w_lst | with_reducible apply Wp.w_call | with_reducible apply Wp.w_callk | with_reducible apply Wp.w_eand | with_reducible apply Wp.w_eor | with_reducible apply Wp.w_enot | with_reducible apply Wp.w_eif | with_reducible apply Wp.w_tb | with_reducible apply Wp.w_tnot | with_reducible apply Wp.w_tand | with_reducible apply Wp.w_tor | with_reducible apply Wp.w_neg | with_reducible apply Wp.w_isi | with_reducible apply Wp.w_sl | with_reducible apply Wp.w_pso | with_reducible apply Wp.w_rev | with_reducible apply Wp.w_index | with_reducible apply Wp.w_for | with_reducible apply Wp.w_iof | with_reducible apply Wp.w_r1 | with_reducible apply Wp.w_r2 | with_reducible apply Wp.w_comp | with_reducible apply Wp.w_compG | with_reducible apply Wp.w_izip | with_reducible apply Wp.w_izip2 | with_reducible apply Wp.w_ienu | with_reducible apply Wp.w_setix | with_reducible apply Wp.w_join | with_reducible apply Wp.kjoin1 | with_reducible apply Wp.w_fmt | with_reducible apply Wp.w_js_nil | with_reducible apply Wp.w_js | with_reducible apply Wp.w_dictp | with_reducible apply Wp.w_putS | with_reducible apply Wp.putS_nil | with_reducible apply Wp.w_r2w | with_reducible apply Wp.w_nil | with_reducible apply Wp.w_brk | with_reducible apply Wp.w_cnt | with_reducible apply Wp.w_retN | with_reducible apply Wp.w_k | with_reducible apply Wp.w_anil | with_reducible apply Wp.w_pno | with_reducible apply Wp.w_true | with_reducible apply Wp.w_rep | with_reducible apply Wp.krep1 | with_reducible apply Wp.w_mdict1 | with_reducible apply Wp.w_mnew | with_reducible apply Wp.w_min | with_reducible apply Wp.w_mput | with_reducible apply Wp.w_dput | with_reducible apply Wp.kmd1 | with_reducible apply Wp.ksl_ | with_reducible apply Wp.ksl1 | with_reducible apply Wp.ktwo1 | with_reducible apply Wp.kcons1 | with_reducible apply Wp.kseq_rt | with_reducible apply Wp.kseq_bk | with_reducible apply Wp.kseq_ct | with_reducible apply Wp.kret_r | with_reducible apply Wp.kret_b | with_reducible apply Wp.ktb | with_reducible apply Wp.kfun_rt | with_reducible apply Wp.kfun_nx | with_reducible apply Wp.kturn_nx | with_reducible apply Wp.kturn_ct | with_reducible apply Wp.kturn_rt | with_reducible apply Wp.kturn_bk | with_reducible apply Wp.w_sm1 | with_reducible apply Wp.w_sm0 | with_reducible apply Wp.w_slS | with_reducible apply Wp.ksm1 | with_reducible apply Wp.ksls1 | with_reducible apply Wp.ksls2 | ((with_reducible apply Wp.kseq_nx_n); (focus (((try simp only [Ev.wb, Ev.bk, List.set_cons_zero, List.set_cons_succ, List.getElem?_cons_zero, List.getElem?_cons_succ, List.cons_append, List.nil_append, List.append_nil]); rfl); done))) | ((with_reducible apply Wp.kback_r_n); (focus (((try simp only [Ev.wb, Ev.bk, List.set_cons_zero, List.set_cons_succ, List.getElem?_cons_zero, List.getElem?_cons_succ, List.cons_append, List.nil_append, List.append_nil]); rfl); done))) | ((with_reducible apply Wp.kback_b_n); (focus (((try simp only [Ev.wb, Ev.bk, List.set_cons_zero, List.set_cons_succ, List.getElem?_cons_zero, List.getElem?_cons_succ, List.cons_append, List.nil_append, List.append_nil]); rfl); done))) | ((with_reducible apply Wp.w_var_v); (focus (rfl; done))) | ((with_reducible apply Wp.w_var_o); (focus (rfl; done))) | ((with_reducible apply Wp.w_var_f); (focus (rfl; done))) | ((with_reducible apply Wp.kset_r); (focus (exact (by first | rfl | exact Wp.isLent_of rfl (by assumption)); done))) | ((with_reducible apply Wp.kset_b); (focus (exact (by first | rfl | exact Wp.isLent_of rfl (by assumption)); done))) | ((with_reducible apply Wp.kset_s); (focus (exact (by first | rfl | exact Wp.isLent_of rfl (by assumption)); done)); (focus (rfl; done))) | ((with_reducible apply Wp.kret_so); (focus (rfl; done))) | ((with_reducible apply Wp.kasg); (focus (rfl; done)); (focus ((first | rfl | (repeat' (first | refine Wp.gN_ok (by first | rfl | exact Wp.isLent_of rfl (by assumption)) rfl | refine Wp.gsNil_ok rfl | with_reducible apply Wp.gsCons_ok | apply Wp.gT_ok rfl))); done))) | ((with_reducible apply Wp.kpar); (focus (rfl; done)); (focus ((repeat (first | refine Wp.setOs_nil rfl | (apply Wp.setOs_r; (focus exact (by first | rfl | exact Wp.isLent_of rfl (by assumption)))) | (apply Wp.setOs_b; (focus exact (by first | rfl | exact Wp.isLent_of rfl (by assumption)))))); done))) | ((with_reducible apply Wp.ktwo2); (focus (rfl; done)); (focus (rfl; done)); (focus ((first | with_reducible assumption | with_reducible exact Wp.gEq_e _ _ | with_reducible exact Wp.gEq_n _ _ | with_reducible exact Wp.gEq_i _ _ _ | exact Wp.gAppend_ok (by assumption) | exact Wp.gIx_l (by assumption) | exact Wp.gIx_t (by assumption) | exact Wp.gStr_ok (by assumption) | exact Ev.gLenS_ok (by assumption) | exact Wp.gAdd_ss (by assumption) | exact Ev.gMulX_ok (by assumption) | exact Wp.gAdd_tt (by assumption) | exact Wp.gAdd_ll (by assumption) | exact Wp.gMul_ok (by assumption) | exact Wp.gMod_ok (by assumption) | exact Wp.gDiv_ok (by assumption) (by assumption) | rfl | assumption | exact Ev.gPowW_ok (by assumption)); done))) | ((with_reducible apply Wp.kfng); (focus (rfl; done)); (focus ((first | with_reducible assumption | with_reducible exact Wp.gEq_e _ _ | with_reducible exact Wp.gEq_n _ _ | with_reducible exact Wp.gEq_i _ _ _ | exact Wp.gAppend_ok (by assumption) | exact Wp.gIx_l (by assumption) | exact Wp.gIx_t (by assumption) | exact Wp.gStr_ok (by assumption) | exact Ev.gLenS_ok (by assumption) | exact Wp.gAdd_ss (by assumption) | exact Ev.gMulX_ok (by assumption) | exact Wp.gAdd_tt (by assumption) | exact Wp.gAdd_ll (by assumption) | exact Wp.gMul_ok (by assumption) | exact Wp.gMod_ok (by assumption) | exact Wp.gDiv_ok (by assumption) (by assumption) | rfl | assumption | exact Ev.gPowW_ok (by assumption)); done))) | ((with_reducible apply Wp.kdisp_t); (focus (rfl; done)); (focus (rfl; done))) | ((with_reducible apply Wp.kdisp_l); (focus (rfl; done)); (focus (rfl; done))) | ((with_reducible apply Wp.kcall); (focus (rfl; done)); (focus (rfl; done)); (focus (exact of_decide_eq_true rfl; done))) | ((with_reducible apply Wp.kcallk); (focus (decide; done)); (focus (exact ⟨rfl, rfl⟩; done)); (focus (rfl; done)); (focus (exact of_decide_eq_true rfl; done))) | ((with_reducible apply Wp.w_mut); (focus (rfl; done))) | ((with_reducible apply Wp.kmut2); (focus (rfl; done)); (focus (rfl; done)); (focus ((first | with_reducible assumption | with_reducible exact Wp.gEq_e _ _ | with_reducible exact Wp.gEq_n _ _ | with_reducible exact Wp.gEq_i _ _ _ | exact Wp.gAppend_ok (by assumption) | exact Wp.gIx_l (by assumption) | exact Wp.gIx_t (by assumption) | exact Wp.gStr_ok (by assumption) | exact Ev.gLenS_ok (by assumption) | exact Wp.gAdd_ss (by assumption) | exact Ev.gMulX_ok (by assumption) | exact Wp.gAdd_tt (by assumption) | exact Wp.gAdd_ll (by assumption) | exact Wp.gMul_ok (by assumption) | exact Wp.gMod_ok (by assumption) | exact Wp.gDiv_ok (by assumption) (by assumption) | rfl | assumption | exact Ev.gPowW_ok (by assumption)); done))) | ((with_reducible apply Wp.kif_t); (focus (rfl; done))) | ((with_reducible apply Wp.kif_f); (focus (rfl; done))) | ((with_reducible apply Wp.kif_t); (focus (assumption; done))) | ((with_reducible apply Wp.kif_f); (focus (assumption; done))) | ((with_reducible apply Wp.kife_t); (focus (rfl; done))) | ((with_reducible apply Wp.kife_f); (focus (rfl; done))) | ((with_reducible apply Wp.kand_t); (focus (rfl; done))) | ((with_reducible apply Wp.kand_f); (focus (rfl; done))) | ((with_reducible apply Wp.kor_t); (focus (rfl; done))) | ((with_reducible apply Wp.kor_f); (focus (rfl; done))) | ((with_reducible apply Wp.kande_t); (focus (rfl; done))) | ((with_reducible apply Wp.kande_f); (focus (rfl; done))) | ((with_reducible apply Wp.kore_t); (focus (rfl; done))) | ((with_reducible apply Wp.kore_f); (focus (rfl; done))) | ((with_reducible apply Wp.ktb_s); (focus (rfl; done))) | ((with_reducible apply Wp.kneg); (focus (rfl; done))) | ((with_reducible apply Wp.kisi); (focus (rfl; done))) | ((with_reducible apply Wp.kpso); (focus (rfl; done))) | ((with_reducible apply Wp.kof_l); (focus (rfl; done))) | ((with_reducible apply Wp.kof_t); (focus (rfl; done))) | ((with_reducible apply Wp.krev_l); (focus (rfl; done))) | ((with_reducible apply Wp.krev_t); (focus (rfl; done))) | ((with_reducible apply Wp.kindex1_); (focus (rfl; done))) | ((with_reducible apply Wp.kjoin2); (focus (rfl; done)); (focus (assumption; done)); (focus (assumption; done))) | ((with_reducible apply Wp.kfmt_s); (focus (rfl; done)); (focus (assumption; done))) | ((with_reducible apply Wp.kfmt_i); (focus (rfl; done)); (focus (assumption; done))) | ((with_reducible apply Wp.kjs); (focus (assumption; done))) | ((with_reducible apply Wp.ksl2_l); (focus (rfl; done))) | ((with_reducible apply Wp.ksl2_t); (focus (rfl; done))) | ((with_reducible apply Wp.w_mget); (focus (rfl; done))) | ((with_reducible apply Wp.kmget); (focus (rfl; done)); (focus (rfl; done)); (focus (rfl; done)); (focus (assumption; done))) | ((with_reducible apply Wp.kmin); (focus (rfl; done)); (focus (rfl; done)); (focus (rfl; done)); (focus (assumption; done))) | ((with_reducible apply Wp.kmput1); (focus (rfl; done))) | ((with_reducible apply Wp.kmput2); (focus (rfl; done)); (focus (rfl; done)); (focus (rfl; done)); (focus (rfl; done)); (focus (assumption; done))) | ((with_reducible apply Wp.kmd2); (focus (rfl; done)); (focus (rfl; done))) | ((with_reducible apply Wp.w_dget); (focus (rfl; done))) | ((with_reducible apply Wp.kdget); (focus (rfl; done)); (focus (rfl; done)); (focus (rfl; done)); (focus (assumption; done))) | ((with_reducible apply Wp.kdput1); (focus (rfl; done))) | ((with_reducible apply Wp.kdput2); (focus (rfl; done)); (focus (rfl; done)); (focus (rfl; done)); (focus (rfl; done)); (focus (assumption; done))) | ((with_reducible apply Wp.ksetix1); (focus (rfl; done))) | ((with_reducible apply Wp.ksetix2); (focus (rfl; done)); (focus (rfl; done)); (focus (rfl; done)); (focus ((first | rfl | assumption | exact Wp.ixN_nat (by assumption)); done))) | ((with_reducible apply Wp.kdictp); (focus (rfl; done)); (focus (assumption; done))) | ((with_reducible apply Wp.kputS); (focus (rfl; done)); (focus (rfl; done)); (focus (rfl; done))) | ((with_reducible apply Wp.putS_l); (focus (rfl; done))) | ((with_reducible apply Wp.putS_d); (focus (rfl; done))) | ((with_reducible apply Wp.kputL); (focus (rfl; done)); (focus (rfl; done)); (focus ((first | rfl | assumption | exact Wp.ixN_nat (by assumption)); done))) | ((with_reducible apply Wp.kputD); (focus (rfl; done)); (focus (rfl; done)); (focus (rfl; done)); (focus (assumption; done))) | ((with_reducible apply Wp.kr2w); (focus (rfl; done))) | ((with_reducible apply Wp.kzip); (focus (rfl; done))) | ((with_reducible apply Wp.w_inmG); (focus (rfl; done)); (focus (rfl; done))) | ((with_reducible apply Wp.w_izipV_l); (focus (rfl; done)); (focus (rfl; done)); (focus (rfl; done)); (focus (rfl; done))) | ((with_reducible apply Wp.w_izipV_r); (focus (rfl; done)); (focus (rfl; done)); (focus (rfl; done)); (focus (rfl; done))) | ((with_reducible apply Wp.kzip2_l); (focus (rfl; done))) | ((with_reducible apply Wp.kzip2_t); (focus (rfl; done))) | ((with_reducible apply Wp.kenu); (focus (rfl; done))) | ((with_reducible apply Wp.w_aug); (focus (rfl; done))) | ((with_reducible apply Wp.kaug); (focus (rfl; done)); (focus ((first | with_reducible assumption | with_reducible exact Wp.gEq_e _ _ | with_reducible exact Wp.gEq_n _ _ | with_reducible exact Wp.gEq_i _ _ _ | exact Wp.gAppend_ok (by assumption) | exact Wp.gIx_l (by assumption) | exact Wp.gIx_t (by assumption) | exact Wp.gStr_ok (by assumption) | exact Ev.gLenS_ok (by assumption) | exact Wp.gAdd_ss (by assumption) | exact Ev.gMulX_ok (by assumption) | exact Wp.gAdd_tt (by assumption) | exact Wp.gAdd_ll (by assumption) | exact Wp.gMul_ok (by assumption) | exact Wp.gMod_ok (by assumption) | exact Wp.gDiv_ok (by assumption) (by assumption) | rfl | assumption | exact Ev.gPowW_ok (by assumption)); done)); (focus (exact (by first | rfl | exact Wp.isLent_of rfl (by assumption)); done))) | ((with_reducible apply Wp.kelt); (focus (rfl; done))) | ((with_reducible apply Wp.ksm1b); (focus ((first | assumption | rfl); done))) | ((with_reducible apply Wp.ksm0); (focus ((first | assumption | rfl); done))) | ((with_reducible apply Wp.ksls3); (focus (assumption; done)))))
/-! ### integers read -/
theorem gEq_str (k : Bool → Bool) {x y : Str} (hx : PyData.strOk x = true) (hy : PyData.strOk y = true) : gEq k (.str x) (.str y) = some (.r (.bool (k (x == y)))) := by
  have h1 : SeqAt.shaped (.str x) = true := by unfold SeqAt.shaped; simp [PyData.canLay0, PyData.depth, hx]
  have h2 : SeqAt.shaped (.str y) = true := by unfold SeqAt.shaped; simp [PyData.canLay0, PyData.depth, hy]
  show (if (SeqAt.shaped (.str x) && SeqAt.shaped (.str y)) = true then some (Od.r (.bool (k (PyData.eqv (.str x) (.str y))))) else none) = _
  rw [h1, h2]
  rfl
theorem ok_zero : PyData.strOk ("0" : Str) = true := ok_of _
theorem told_int {i : Int} (h : 0 ≤ i ∧ i < 10 ^ 40) : m_told_integer [.v (.str (numS i))] = .ok (.r (.int i)) [.v (.str (numS i))] := by
  obtain ⟨n, rfl⟩ := numS_nat h.1
  have hl := numS_len h
  have hs : (numS (n : Int)).length ≤ sizeLine := by unfold sizeLine; omega
  have f1 : fAscii (numS (n : Int)) = some (.r (.bool true)) := by unfold fAscii; rw [asc_num]
  have f2 : fDigit (numS (n : Int)) = some (.r (.bool true)) := by unfold fDigit; rw [dig_num]
  have f3 := int_num h.2
  have f4 := gEq_str not (ok_num (n : Int)) ok_zero
  have hz : n = 0 → (numS (n : Int) == ("0" : Str)) = true := fun e => by subst e; rw [show ((0 : Nat) : Int) = 0 from rfl, zero_s]; exact beq_self_eq_true _
  have h0 : n = 0 ∨ 0 < n := by omega
  clear h
  refine w_eq ?_
  unfold m_told_integer
  (apply Wp.w_fun; (focus (rfl; done)); (focus (((try simp only [List.cons_append, List.nil_append, List.length_cons, List.length_nil, Nat.reduceAdd, Nat.reduceSub, Nat.zero_add, Nat.sub_zero, List.replicate_succ, List.replicate_zero, List.append_nil]); rfl); done)))
  unfold b_told_integer
  repeat' decreasing_trivial_pre_omega
  refine kif_f (decide_eq_false (by omega)) ?_
  repeat' decreasing_trivial_pre_omega
  have st0 : n = 0 → Txt.startswith (numS (n : Int)) "0" = true := fun e => by subst e; rw [show ((0 : Nat) : Int) = 0 from rfl, zero_s]; decide +kernel
  rcases h0 with h0 | h0
  · refine kand_t (st0 h0) ?_
    repeat' decreasing_trivial_pre_omega
    refine kif_f (by rw [hz h0]; rfl) ?_
    repeat' decreasing_trivial_pre_omega
    exact ⟨rfl, rfl⟩
  · refine kand_f (st_zero n h0) ?_
    repeat' decreasing_trivial_pre_omega
    exact ⟨rfl, rfl⟩
theorem gIn_non (ts : List T) (hs : SeqAt.shaped (.list ts) = true) (h : ∀ t ∈ ts, PyData.eqv t .none = false) : gIn id .none (.list ts) = some (.r (.bool false)) := by
  have h1 : SeqAt.shaped .none = true := by decide +kernel
  show (if (SeqAt.shaped .none && SeqAt.shaped (.list ts)) = true then _ else _) = _
  rw [h1, hs]
  have e : ts.any (fun z => PyData.eqv z .none) = false := List.any_eq_false.mpr fun t ht => by rw [h t ht]; decide
  rw [e]
  rfl
theorem ints_sh (r : List Int) (hl : r.length ≤ 100000) : SeqAt.shaped (.list (r.map PyData.int)) = true := (pl_map (n := 0) PyData.int (fun i => .int 0 i) r hl).shaped (by decide)
theorem map_str {α : Type} (f : α → Str) (xs : List α) : (xs.map f).map PyData.str = xs.map fun x => PyData.str (f x) := by rw [List.map_map]; rfl
def fzS (ys : List Str) : Sl := .fz (.l (ys.map PyData.str))
theorem told_ints {r : List Int} (h : OkR r) (hl : r.length ≤ 4) (k : Nat) (hk : r.length = k) : m__told_integers [.ow true (.l ((r.map numS).map PyData.str)), .v (nT k)] = .ok (.r (rowT r)) [fzS (r.map numS), .v (nT k)] := by
  have hrg := h.rng
  have g1 := gIn_non (r.map PyData.int) (ints_sh r (by omega)) fun t ht => by obtain ⟨i, _, rfl⟩ := List.mem_map.mp ht; rfl
  clear h
  refine w_eq ?_
  unfold m__told_integers
  (apply Wp.w_fun; (focus (rfl; done)); (focus (((try simp only [List.cons_append, List.nil_append, List.length_cons, List.length_nil, Nat.reduceAdd, Nat.reduceSub, Nat.zero_add, Nat.sub_zero, List.replicate_succ, List.replicate_zero, List.append_nil]); rfl); done)))
  unfold b__told_integers x1__told_integers
  repeat' decreasing_trivial_pre_omega
  rw [map_str]
  refine comp_map_w (fun i => PyData.str (numS i)) (fun i => PyData.int i) r (by unfold sizeLine; omega) (fun i hi => ⟨_, rfl, ?_⟩) ?_
  · repeat' decreasing_trivial_pre_omega
    refine w_of (told_int (hrg i hi)) ?_
    repeat' decreasing_trivial_pre_omega
    exact ⟨rfl, rfl⟩
  · repeat' decreasing_trivial_pre_omega
    refine kor_f (decide_eq_false (by rw [List.length_map, hk]; simp)) ?_
    repeat' decreasing_trivial_pre_omega
    refine ⟨rfl, ?_⟩
    unfold fzS
    rw [map_str]
    rfl
/-! ### rows read -/
theorem rows_sh (rs : List (List Int)) (hl : rs.length ≤ 100000) (h : ∀ r ∈ rs, r.length ≤ 100000) : SeqAt.shaped (.list (rs.map rowT)) = true := by
  refine (Pl.lst (n := 1) (fun x hx => ?_) (by rw [List.length_map]; exact hl)).shaped (by decide)
  obtain ⟨r, hr, rfl⟩ := List.mem_map.mp hx
  exact .tup (fun y hy => by obtain ⟨i, _, rfl⟩ := List.mem_map.mp hy; exact .int _ _) (by rw [List.length_map]; exact h r hr)
theorem rows_non (rs : List (List Int)) (hl : rs.length ≤ 20) (h : ∀ r ∈ rs, OkR r) : gIn id .none (.list (rs.map rowT)) = some (.r (.bool false)) :=
  gIn_non _ (rows_sh rs (by omega) fun r hr => by have := (h r hr).len; omega) fun t ht => by obtain ⟨r, _, rfl⟩ := List.mem_map.mp ht; rfl
theorem told_rows {rs : List (List Int)} (hl : rs.length ≤ 20) (hn : rs ≠ []) (h : ∀ r ∈ rs, OkR r) (h3 : ∀ r ∈ rs, r.length = 3) : m__told_rows [.v (.str (rowsS rs))] = .ok (.r (rowsT rs)) [.v (.str (rowsS rs))] := by
  have s1 := spl_rows h hn hl
  have g1 := rows_non rs hl h
  refine w_eq ?_
  unfold m__told_rows
  (apply Wp.w_fun; (focus (rfl; done)); (focus (((try simp only [List.cons_append, List.nil_append, List.length_cons, List.length_nil, Nat.reduceAdd, Nat.reduceSub, Nat.zero_add, Nat.sub_zero, List.replicate_succ, List.replicate_zero, List.append_nil]); rfl); done)))
  unfold b__told_rows x1__told_rows
  repeat' decreasing_trivial_pre_omega
  rw [map_str]
  refine comp_map_w (fun r => PyData.str (rowS r)) rowT rs (by unfold sizeLine; omega) (fun r hr => ⟨_, rfl, ?_⟩) ?_
  · have s2 := spl_row (h r hr) (by intro e; have := h3 r hr; rw [e] at this; cases this)
    have t2 := told_ints (h r hr) (by have := h3 r hr; omega) 3 (h3 r hr)
    clear g1 s1
    repeat' decreasing_trivial_pre_omega
    refine w_of t2 ?_
    clear t2
    repeat' decreasing_trivial_pre_omega
    exact ⟨rfl, rfl⟩
  · repeat' decreasing_trivial_pre_omega
    exact ⟨rfl, rfl⟩
/-! ### what stands alone -/
theorem first_line {a : Str} (h : 10 ∉ tl a) (hl : a.length + 2 ≤ sizeLine) : m__first_line [.v (.str a)] = .ok (.r (.str a)) [.v (.str a)] := by
  have s1 := one_line h hl
  refine w_eq ?_
  unfold m__first_line
  (apply Wp.w_fun; (focus (rfl; done)); (focus (((try simp only [List.cons_append, List.nil_append, List.length_cons, List.length_nil, Nat.reduceAdd, Nat.reduceSub, Nat.zero_add, Nat.sub_zero, List.replicate_succ, List.replicate_zero, List.append_nil]); rfl); done)))
  unfold b__first_line
  repeat' decreasing_trivial_pre_omega
  exact ⟨rfl, rfl⟩
theorem alone_w {a : Str} (h : 10 ∉ tl a) (ts : List T) : m__alone [.v (.str a), .v (.tuple ts)] = .ok (.r (.tuple ts)) [.v (.str a), .v (.tuple ts)] := by
  have g1 : gInS (.str "\n") (.str a) = some (.r (.bool false)) := by
    have e : (("\n" : Str).cps.toList) = [10] := tl_nl
    simp only [gInS, e]
    rw [decide_eq_false h]
  refine w_eq ?_
  unfold m__alone
  (apply Wp.w_fun; (focus (rfl; done)); (focus (((try simp only [List.cons_append, List.nil_append, List.length_cons, List.length_nil, Nat.reduceAdd, Nat.reduceSub, Nat.zero_add, Nat.sub_zero, List.replicate_succ, List.replicate_zero, List.append_nil]); rfl); done)))
  unfold b__alone
  repeat' decreasing_trivial_pre_omega
  exact ⟨rfl, rfl⟩
theorem read_cell {r : List Int} (h : OkR r) (h2 : r.length = 2) : m_read_cell [.v (.str (rowS r))] = .ok (.r (rowT r)) [.v (.str (rowS r))] := by
  have hf : 10 ∉ tl (rowS r) := row_free h (by omega)
  have f1 := first_line hf (by have := rowS_len h; unfold sizeLine; omega)
  have s1 := spl_row h (by intro e; rw [e] at h2; cases h2)
  have t1 := told_ints h (by omega) 2 h2
  have a1 := alone_w hf (r.map PyData.int)
  clear hf
  refine w_eq ?_
  unfold m_read_cell
  (apply Wp.w_fun; (focus (rfl; done)); (focus (((try simp only [List.cons_append, List.nil_append, List.length_cons, List.length_nil, Nat.reduceAdd, Nat.reduceSub, Nat.zero_add, Nat.sub_zero, List.replicate_succ, List.replicate_zero, List.append_nil]); rfl); done)))
  unfold b_read_cell
  repeat' decreasing_trivial_pre_omega
  refine w_of f1 ?_
  clear f1
  repeat' decreasing_trivial_pre_omega
  refine w_of t1 ?_
  clear t1
  repeat' decreasing_trivial_pre_omega
  refine w_of a1 ?_
  clear a1
  repeat' decreasing_trivial_pre_omega
  exact ⟨rfl, rfl⟩
end Lw

set_option linter.all false
set_option maxRecDepth 100000
set_option maxHeartbeats 4000000
namespace Lw
open PySem PySem.Spec Ev Pu Mt Wp
local macro_rules | `(tactic| decreasing_trivial_pre_omega) => `(tactic| (first | with_reducible apply Wp.w_seq | with_reducible apply Wp.w_drop | with_reducible apply Wp.w_if | with_reducible apply Wp.w_set | with_reducible apply Wp.w_ret | with_reducible apply Wp.w_asg | with_reducible apply Wp.w_par | with_reducible apply Wp.w_op2 | with_reducible apply Wp.w_acons | with_reducible apply Wp.w_fng | with_reducible apply Wp.w_tup | with_reducible apply Wp.w_lst | with_reducible apply Wp.w_call | with_reducible apply Wp.w_callk | with_reducible apply Wp.w_eand | with_reducible apply Wp.w_eor | with_reducible apply Wp.w_enot | with_reducible apply Wp.w_eif | with_reducible apply Wp.w_tb | with_reducible apply Wp.w_tnot | with_reducible apply Wp.w_tand | with_reducible apply Wp.w_tor | with_reducible apply Wp.w_neg | with_reducible apply Wp.w_isi | with_reducible apply Wp.w_sl | with_reducible apply Wp.w_pso | with_reducible apply Wp.w_rev | with_reducible apply Wp.w_index | with_reducible apply Wp.w_for | with_reducible apply Wp.w_iof | with_reducible apply Wp.w_r1 | with_reducible apply Wp.w_r2 | with_reducible apply Wp.w_comp | with_reducible apply Wp.w_compG | with_reducible apply Wp.w_izip | with_reducible apply Wp.w_izip2 | with_reducible apply Wp.w_ienu | with_reducible apply Wp.w_setix | with_reducible apply Wp.w_join | with_reducible apply Wp.kjoin1 | with_reducible apply Wp.w_fmt | with_reducible apply Wp.w_js_nil | with_reducible apply Wp.w_js | with_reducible apply Wp.w_dictp | with_reducible apply Wp.w_putS | with_reducible apply Wp.putS_nil | with_reducible apply Wp.w_r2w | with_reducible apply Wp.w_nil | with_reducible apply Wp.w_brk | with_reducible apply Wp.w_cnt | with_reducible apply Wp.w_retN | with_reducible apply Wp.w_k | with_reducible apply Wp.w_anil | with_reducible apply Wp.w_pno | with_reducible apply Wp.w_true | with_reducible apply Wp.w_rep | with_reducible apply Wp.krep1 | with_reducible apply Wp.w_mdict1 | with_reducible apply Wp.w_mnew | with_reducible apply Wp.w_min | with_reducible apply Wp.w_mput | with_reducible apply Wp.w_dput | with_reducible apply Wp.kmd1 | with_reducible apply Wp.ksl_ | with_reducible apply Wp.ksl1 | with_reducible apply Wp.ktwo1 | with_reducible apply Wp.kcons1 | with_reducible apply Wp.kseq_rt | with_reducible apply Wp.kseq_bk | with_reducible apply Wp.kseq_ct | with_reducible apply Wp.kret_r | with_reducible apply Wp.kret_b | with_reducible apply Wp.ktb | with_reducible apply Wp.kfun_rt | with_reducible apply Wp.kfun_nx | with_reducible apply Wp.kturn_nx | with_reducible apply Wp.kturn_ct | with_reducible apply Wp.kturn_rt | with_reducible apply Wp.kturn_bk | with_reducible apply Wp.w_sm1 | with_reducible apply Wp.w_sm0 | with_reducible apply Wp.w_slS | with_reducible apply Wp.ksm1 | with_reducible apply Wp.ksls1 | with_reducible apply Wp.ksls2 | ((with_reducible apply Wp.kseq_nx_n); (focus (((try simp only [Ev.wb, Ev.bk, List.set_cons_zero, List.set_cons_succ, List.getElem?_cons_zero, List.getElem?_cons_succ, List.cons_append, List.nil_append, List.append_nil]); rfl); done))) | ((with_reducible apply Wp.kback_r_n); (focus (((try simp only [Ev.wb, Ev.bk, List.set_cons_zero, List.set_cons_succ, List.getElem?_cons_zero, List.getElem?_cons_succ, List.cons_append, List.nil_append, List.append_nil]); rfl); done))) | ((with_reducible apply Wp.kback_b_n); (focus (((try simp only [Ev.wb, Ev.bk, List.set_cons_zero, List.set_cons_succ, List.getElem?_cons_zero, List.getElem?_cons_succ, List.cons_append, List.nil_append, List.append_nil]); rfl); done))) | ((with_reducible apply Wp.w_var_v); (focus (rfl; done))) | ((with_reducible apply Wp.w_var_o); (focus (rfl; done))) | ((with_reducible apply Wp.w_var_f); (focus (rfl; done))) | ((with_reducible apply Wp.kset_r); (focus (exact (by first | rfl | exact Wp.isLent_of rfl (by assumption)); done))) | ((with_reducible apply Wp.kset_b); (focus (exact (by first | rfl | exact Wp.isLent_of rfl (by assumption)); done))) | ((with_reducible apply Wp.kset_s); (focus (exact (by first | rfl | exact Wp.isLent_of rfl (by assumption)); done)); (focus (rfl; done))) | ((with_reducible apply Wp.kret_so); (focus (rfl; done))) | ((with_reducible apply Wp.kasg); (focus (rfl; done)); (focus ((first | rfl | (repeat' (first | refine Wp.gN_ok (by first | rfl | exact Wp.isLent_of rfl (by assumption)) rfl | refine Wp.gsNil_ok rfl | with_reducible apply Wp.gsCons_ok | apply Wp.gT_ok rfl))); done))) | ((with_reducible apply Wp.kpar); (focus (rfl; done)); (focus ((repeat (first | refine Wp.setOs_nil rfl | (apply Wp.setOs_r; (focus exact (by first | rfl | exact Wp.isLent_of rfl (by assumption)))) | (apply Wp.setOs_b; (focus exact (by first | rfl | exact Wp.isLent_of rfl (by assumption)))))); done))) | ((with_reducible apply Wp.ktwo2); (focus (rfl; done)); (focus (rfl; done)); (focus ((first | with_reducible assumption | with_reducible exact Wp.gEq_e _ _ | with_reducible exact Wp.gEq_n _ _ | with_reducible exact Wp.gEq_i _ _ _ | exact Wp.gAppend_ok (by assumption) | exact Wp.gIx_l (by assumption) | exact Wp.gIx_t (by assumption) | exact Wp.gStr_ok (by assumption) | exact Ev.gLenS_ok (by assumption) | exact Wp.gAdd_ss (by assumption) | exact Ev.gMulX_ok (by assumption) | exact Wp.gAdd_tt (by assumption) | exact Wp.gAdd_ll (by assumption) | exact Wp.gMul_ok (by assumption) | exact Wp.gMod_ok (by assumption) | exact Wp.gDiv_ok (by assumption) (by assumption) | rfl | assumption | exact Ev.gPowW_ok (by assumption)); done))) | ((with_reducible apply Wp.kfng); (focus (rfl; done)); (focus ((first | with_reducible assumption | with_reducible exact Wp.gEq_e _ _ | with_reducible exact Wp.gEq_n _ _ | with_reducible exact Wp.gEq_i _ _ _ | exact Wp.gAppend_ok (by assumption) | exact Wp.gIx_l (by assumption) | exact Wp.gIx_t (by assumption) | exact Wp.gStr_ok (by assumption) | exact Ev.gLenS_ok (by assumption) | exact Wp.gAdd_ss (by assumption) | exact Ev.gMulX_ok (by assumption) | exact Wp.gAdd_tt (by assumption) | exact Wp.gAdd_ll (by assumption) | exact Wp.gMul_ok (by assumption) | exact Wp.gMod_ok (by assumption) | exact Wp.gDiv_ok (by assumption) (by assumption) | rfl | assumption | exact Ev.gPowW_ok (by assumption)); done))) | ((with_reducible apply Wp.kdisp_t); (focus (rfl; done)); (focus (rfl; done))) | ((with_reducible apply Wp.kdisp_l); (focus (rfl; done)); (focus (rfl; done))) | ((with_reducible apply Wp.kcall); (focus (rfl; done)); (focus (rfl; done)); (focus (exact of_decide_eq_true rfl; done))) | ((with_reducible apply Wp.kcallk); (focus (decide; done)); (focus (exact ⟨rfl, rfl⟩; done)); (focus (rfl; done)); (focus (exact of_decide_eq_true rfl; done))) | ((with_reducible apply Wp.w_mut); (focus (rfl; done))) | ((with_reducible apply Wp.kmut2); (focus (rfl; done)); (focus (rfl; done)); (focus ((first | with_reducible assumption | with_reducible exact Wp.gEq_e _ _ | with_reducible exact Wp.gEq_n _ _ | with_reducible exact Wp.gEq_i _ _ _ | exact Wp.gAppend_ok (by assumption) | exact Wp.gIx_l (by assumption) | exact Wp.gIx_t (by assumption) | exact Wp.gStr_ok (by assumption) | exact Ev.gLenS_ok (by assumption) | exact Wp.gAdd_ss (by assumption) | exact Ev.gMulX_ok (by assumption) | exact Wp.gAdd_tt (by assumption) | exact Wp.gAdd_ll (by assumption) | exact Wp.gMul_ok (by assumption) | exact Wp.gMod_ok (by assumption) | exact Wp.gDiv_ok (by assumption) (by assumption) | rfl | assumption | exact Ev.gPowW_ok (by assumption)); done))) | ((with_reducible apply Wp.kif_t); (focus (rfl; done))) | ((with_reducible apply Wp.kif_f); (focus (rfl; done))) | ((with_reducible apply Wp.kif_t); (focus (assumption; done))) | ((with_reducible apply Wp.kif_f); (focus (assumption; done))) | ((with_reducible apply Wp.kife_t); (focus (rfl; done))) | ((with_reducible apply Wp.kife_f); (focus (rfl; done))) | ((with_reducible apply Wp.kand_t); (focus (rfl; done))) | ((with_reducible apply Wp.kand_f); (focus (rfl; done))) | ((with_reducible apply Wp.kor_t); (focus (rfl; done))) | ((with_reducible apply Wp.kor_f); (focus (rfl; done))) | ((with_reducible apply Wp.kande_t); (focus (rfl; done))) | ((with_reducible apply Wp.kande_f); (focus (rfl; done))) | ((with_reducible apply Wp.kore_t); (focus (rfl; done))) | ((with_reducible apply Wp.kore_f); (focus (rfl; done))) | ((with_reducible apply Wp.ktb_s); (focus (rfl; done))) | ((with_reducible apply Wp.kneg); (focus (rfl; done))) | ((with_reducible apply Wp.kisi); (focus (rfl; done))) | ((with_reducible apply Wp.kpso); (focus (rfl; done))) | ((with_reducible apply Wp.kof_l); (focus (rfl; done))) | ((with_reducible apply Wp.kof_t); (focus (rfl; done))) | ((with_reducible apply Wp.krev_l); (focus (rfl; done))) | ((with_reducible apply Wp.krev_t); (focus (rfl; done))) | ((with_reducible apply Wp.kindex1_); (focus (rfl; done))) | ((with_reducible apply Wp.kjoin2); (focus (rfl; done)); (focus (assumption; done)); (focus (assumption; done))) | ((with_reducible apply Wp.kfmt_s); (focus (rfl; done)); (focus (assumption; done))) | ((with_reducible apply Wp.kfmt_i); (focus (rfl; done)); (focus (assumption; done))) | ((with_reducible apply Wp.kjs); (focus (assumption; done))) | ((with_reducible apply Wp.ksl2_l); (focus (rfl; done))) | ((with_reducible apply Wp.ksl2_t); (focus (rfl; done))) | ((with_reducible apply Wp.w_mget); (focus (rfl; done))) | ((with_reducible apply Wp.kmget); (focus (rfl; done)); (focus (rfl; done)); (focus (rfl; done)); (focus (assumption; done))) | ((with_reducible apply Wp.kmin); (focus (rfl; done)); (focus (rfl; done)); (focus (rfl; done)); (focus (assumption; done))) | ((with_reducible apply Wp.kmput1); (focus (rfl; done))) | ((with_reducible apply Wp.kmput2); (focus (rfl; done)); (focus (rfl; done)); (focus (rfl; done)); (focus (rfl; done)); (focus (assumption; done))) | ((with_reducible apply Wp.kmd2); (focus (rfl; done)); (focus (rfl; done))) | ((with_reducible apply Wp.w_dget); (focus (rfl; done))) | ((with_reducible apply Wp.kdget); (focus (rfl; done)); (focus (rfl; done)); (focus (rfl; done)); (focus (assumption; done))) | ((with_reducible apply Wp.kdput1); (focus (rfl; done))) | ((with_reducible apply Wp.kdput2); (focus (rfl; done)); (focus (rfl; done)); (focus (rfl; done)); (focus (rfl; done)); (focus (assumption; done))) | ((with_reducible apply Wp.ksetix1); (focus (rfl; done))) | ((with_reducible apply Wp.ksetix2); (focus (rfl; done)); (focus (rfl; done)); (focus (rfl; done)); (focus ((first | rfl | assumption | exact Wp.ixN_nat (by assumption)); done))) | ((with_reducible apply Wp.kdictp); (focus (rfl; done)); (focus (assumption; done))) | ((with_reducible apply Wp.kputS); (focus (rfl; done)); (focus (rfl; done)); (focus (rfl; done))) | ((with_reducible apply Wp.putS_l); (focus (rfl; done))) | ((with_reducible apply Wp.putS_d); (focus (rfl; done))) | ((with_reducible apply Wp.kputL); (focus (rfl; done)); (focus (rfl; done)); (focus ((first | rfl | assumption | exact Wp.ixN_nat (by assumption)); done))) | ((with_reducible apply Wp.kputD); (focus (rfl; done)); (focus (rfl; done)); (focus (rfl; done)); (focus (assumption; done))) | ((with_reducible apply Wp.kr2w); (focus (rfl; done))) | ((with_reducible apply Wp.kzip); (focus (rfl; done))) | ((with_reducible apply Wp.w_inmG); (focus (rfl; done)); (focus (rfl; done))) | ((with_reducible apply Wp.w_izipV_l); (focus (rfl; done)); (focus (rfl; done)); (focus (rfl; done)); (focus (rfl; done))) | ((with_reducible apply Wp.w_izipV_r); (focus (rfl; done)); (focus (rfl; done)); (focus (rfl; done)); (focus (rfl; done))) | ((with_reducible apply Wp.kzip2_l); (focus (rfl; done))) | ((with_reducible apply Wp.kzip2_t); (focus (rfl; done))) | ((with_reducible apply Wp.kenu); (focus (rfl; done))) | ((with_reducible apply Wp.w_aug); (focus (rfl; done))) | ((with_reducible apply Wp.kaug); (focus (rfl; done)); (focus ((first | with_reducible assumption | with_reducible exact Wp.gEq_e _ _ | with_reducible exact Wp.gEq_n _ _ | with_reducible exact Wp.gEq_i _ _ _ | exact Wp.gAppend_ok (by assumption) | exact Wp.gIx_l (by assumption) | exact Wp.gIx_t (by assumption) | exact Wp.gStr_ok (by assumption) | exact Ev.gLenS_ok (by assumption) | exact Wp.gAdd_ss (by assumption) | exact Ev.gMulX_ok (by assumption) | exact Wp.gAdd_tt (by assumption) | exact Wp.gAdd_ll (by assumption) | exact Wp.gMul_ok (by assumption) | exact Wp.gMod_ok (by assumption) | exact Wp.gDiv_ok (by assumption) (by assumption) | rfl | assumption | exact Ev.gPowW_ok (by assumption)); done)); (focus (exact (by first | rfl | exact Wp.isLent_of rfl (by assumption)); done))) | ((with_reducible apply Wp.kelt); (focus (rfl; done))) | ((with_reducible apply Wp.ksm1b); (focus ((first | assumption | rfl); done))) | ((with_reducible apply Wp.ksm0); (focus ((first | assumption | rfl); done))) | ((with_reducible apply Wp.ksls3); (focus (assumption; done)))))
theorem cut_drop {α : Type} (xs : List α) (k : Nat) : cutT xs (some ((k : Int) + 1)) none = xs.drop (k + 1) := by
  unfold cutT
  rw [show ((k : Int) + 1) = ((k + 1 : Nat) : Int) from rfl, HT.sIx_nat, HT.sIx_none]
  by_cases h : k + 1 ≤ xs.length
  · rw [Nat.min_eq_left h, List.take_of_length_le (by simp)]
  · rw [Nat.min_eq_right (by omega), List.drop_of_length_le (Nat.le_refl _), List.drop_of_length_le (by omega)]; simp
theorem isC_int {i : Int} (h : 0 ≤ i) : m_is_count [.v (.int i)] = .ok (.r (.bool true)) [.v (.int i)] := by
  rw [is_count_ok]
  show Out.ok (Od.r (.bool (decide (0 ≤ i)))) _ = _
  rw [decide_eq_true h]
theorem isI_int {i n : Int} (h : 0 ≤ i ∧ i < n) : m_is_index [.v (.int i), .v (.int n)] = .ok (.r (.bool true)) [.v (.int i), .v (.int n)] := by
  rw [is_index_ok]
  show Out.ok (Od.r (.bool (decide (0 ≤ i ∧ i < n)))) _ = _
  rw [decide_eq_true h]
theorem all_tt {α : Type} (xs : List α) : gAll [.list (xs.map fun _ => PyData.bool true)] = some (.r (.bool true)) := by
  have := gAll_b (xs.map fun _ => true)
  rw [List.map_map] at this
  have e : (xs.map fun _ => true).all id = true := List.all_eq_true.mpr fun b hb => by obtain ⟨_, _, rfl⟩ := List.mem_map.mp hb; rfl
  rw [e] at this
  exact this
/-! ### boxes -/
theorem is_box_w {a b c d : Int} (ha : 0 ≤ a) (hb : 0 ≤ b) (h1 : a < c) (h2 : b < d) : m_is_box [.v (rowT [a, b, c, d])] = .ok (.r (.bool true)) [.v (rowT [a, b, c, d])] := by
  have g := all_tt [a, b, c, d]
  have hall : ∀ i ∈ [a, b, c, d], 0 ≤ i := fun i hi => by
    simp only [List.mem_cons, List.not_mem_nil, or_false] at hi
    omega
  refine w_eq ?_
  unfold m_is_box
  (apply Wp.w_fun; (focus (rfl; done)); (focus (((try simp only [List.cons_append, List.nil_append, List.length_cons, List.length_nil, Nat.reduceAdd, Nat.reduceSub, Nat.zero_add, Nat.sub_zero, List.replicate_succ, List.replicate_zero, List.append_nil]); rfl); done)))
  unfold b_is_box x1_is_box
  repeat' decreasing_trivial_pre_omega
  refine comp_map_w PyData.int (fun _ => PyData.bool true) [a, b, c, d] (by unfold sizeLine; simp) (fun i hi => ⟨_, rfl, ?_⟩) ?_
  · have hc := hall i hi
    clear g hall
    repeat' decreasing_trivial_pre_omega
    refine w_of (isC_int hc) ?_
    repeat' decreasing_trivial_pre_omega
    exact ⟨rfl, rfl⟩
  · repeat' decreasing_trivial_pre_omega
    refine kande_t (decide_eq_true h1) ?_
    repeat' decreasing_trivial_pre_omega
    refine ⟨?_, rfl⟩
    show Od.r (.bool (decide (b < d))) = _
    rw [decide_eq_true h2]
theorem read_box {a b c d : Int} (h : OkR [a, b, c, d]) (h1 : a < c) (h2 : b < d) : m_read_box [.v (.str (rowS [a, b, c, d]))] = .ok (.r (rowT [a, b, c, d])) [.v (.str (rowS [a, b, c, d]))] := by
  have hf : 10 ∉ tl (rowS [a, b, c, d]) := row_free h (by omega)
  have f1 := first_line hf (by have := rowS_len h; unfold sizeLine; omega)
  have s1 := spl_row h (by simp)
  have t1 := told_ints h (by simp) 4 rfl
  have a1 := alone_w hf ([a, b, c, d].map PyData.int)
  have b1 := is_box_w (h.rng a (by simp)).1 (h.rng b (by simp)).1 h1 h2
  clear hf
  have t2 : m__told_box [.v (.str (rowS [a, b, c, d]))] = .ok (.r (rowT [a, b, c, d])) [.v (.str (rowS [a, b, c, d]))] := by
    clear f1 a1
    refine w_eq ?_
    unfold m__told_box
    (apply Wp.w_fun; (focus (rfl; done)); (focus (((try simp only [List.cons_append, List.nil_append, List.length_cons, List.length_nil, Nat.reduceAdd, Nat.reduceSub, Nat.zero_add, Nat.sub_zero, List.replicate_succ, List.replicate_zero, List.append_nil]); rfl); done)))
    unfold b__told_box
    repeat' decreasing_trivial_pre_omega
    refine w_of t1 ?_
    clear t1
    repeat' decreasing_trivial_pre_omega
    refine w_of b1 ?_
    clear b1
    repeat' decreasing_trivial_pre_omega
    exact ⟨rfl, rfl⟩
  clear t1 b1 s1
  refine w_eq ?_
  unfold m_read_box
  (apply Wp.w_fun; (focus (rfl; done)); (focus (((try simp only [List.cons_append, List.nil_append, List.length_cons, List.length_nil, Nat.reduceAdd, Nat.reduceSub, Nat.zero_add, Nat.sub_zero, List.replicate_succ, List.replicate_zero, List.append_nil]); rfl); done)))
  unfold b_read_box
  repeat' decreasing_trivial_pre_omega
  refine w_of f1 ?_
  clear f1
  repeat' decreasing_trivial_pre_omega
  refine w_of t2 ?_
  clear t2
  repeat' decreasing_trivial_pre_omega
  refine w_of a1 ?_
  clear a1
  repeat' decreasing_trivial_pre_omega
  exact ⟨rfl, rfl⟩
/-! ### makes -/
def OkT (r : List Int) : Prop := ∃ w m b : Int, r = [w, m, b] ∧ (0 ≤ w ∧ w < 4) ∧ (0 ≤ m ∧ m < 2) ∧ (0 ≤ b ∧ b < 2)
theorem is_turn_w {r : List Int} (h : OkT r) : m_is_turn [.v (rowT r)] = .ok (.r (.bool true)) [.v (rowT r)] := by
  obtain ⟨w, m, b, rfl, h1, h2, h3⟩ := h
  have p1 : m_is_posture [.v (.tuple [.int w, .int m])] = .ok (.r (.bool true)) [.v (.tuple [.int w, .int m])] := by
    refine w_eq ?_
    unfold m_is_posture
    (apply Wp.w_fun; (focus (rfl; done)); (focus (((try simp only [List.cons_append, List.nil_append, List.length_cons, List.length_nil, Nat.reduceAdd, Nat.reduceSub, Nat.zero_add, Nat.sub_zero, List.replicate_succ, List.replicate_zero, List.append_nil]); rfl); done)))
    unfold b_is_posture
    repeat' decreasing_trivial_pre_omega
    refine w_of (isI_int h1) ?_
    repeat' decreasing_trivial_pre_omega
    refine w_of (isI_int h2) ?_
    repeat' decreasing_trivial_pre_omega
    exact ⟨rfl, rfl⟩
  have c1 : cutT [PyData.int w, .int m, .int b] none (some 2) = [.int w, .int m] := rfl
  refine w_eq ?_
  unfold m_is_turn
  (apply Wp.w_fun; (focus (rfl; done)); (focus (((try simp only [List.cons_append, List.nil_append, List.length_cons, List.length_nil, Nat.reduceAdd, Nat.reduceSub, Nat.zero_add, Nat.sub_zero, List.replicate_succ, List.replicate_zero, List.append_nil]); rfl); done)))
  unfold b_is_turn rowT
  repeat' decreasing_trivial_pre_omega
  refine w_of p1 ?_
  clear p1
  repeat' decreasing_trivial_pre_omega
  refine w_of (isI_int h3) ?_
  repeat' decreasing_trivial_pre_omega
  exact ⟨rfl, rfl⟩
theorem read_make {rs : List (List Int)} (hl : rs.length = 4 ∨ rs.length = 9) (h : ∀ r ∈ rs, OkR r) (ht : ∀ r ∈ rs, OkT r) : m_read_make [.v (.str (rowsS rs))] = .ok (.r (rowsT rs)) [.v (.str (rowsS rs))] := by
  have hl2 : rs.length ≤ 20 := by omega
  have hf : 10 ∉ tl (rowsS rs) := rows_free h (by omega)
  have f1 := first_line hf (by have := rowsS_len hl2 h; unfold sizeLine; omega)
  have hn : rs ≠ [] := by intro e; rw [e] at hl; simp at hl
  have t1 := told_rows hl2 hn h fun r hr => by obtain ⟨_, _, _, rfl, _⟩ := ht r hr; rfl
  have a1 := alone_w hf (rs.map rowT)
  have g1 := all_tt rs
  have i1 := gIn2 not 4 9 (rs.length : Int)
  clear hf
  have t2 : m__told_make [.v (.str (rowsS rs))] = .ok (.r (rowsT rs)) [.v (.str (rowsS rs))] := by
    clear f1 a1
    refine w_eq ?_
    unfold m__told_make
    (apply Wp.w_fun; (focus (rfl; done)); (focus (((try simp only [List.cons_append, List.nil_append, List.length_cons, List.length_nil, Nat.reduceAdd, Nat.reduceSub, Nat.zero_add, Nat.sub_zero, List.replicate_succ, List.replicate_zero, List.append_nil]); rfl); done)))
    unfold b__told_make
    repeat' decreasing_trivial_pre_omega
    refine w_of t1 ?_
    clear t1
    unfold rowsT
    repeat' decreasing_trivial_pre_omega
    rw [List.length_map]
    clear i1
    refine kif_f ?_ ?_
    · rcases hl with e | e
      · rw [e]; rfl
      · rw [e]; rfl
    · unfold x1__told_make
      repeat' decreasing_trivial_pre_omega
      refine comp_map_w rowT (fun _ => PyData.bool true) rs (by unfold sizeLine; omega) (fun r hr => ⟨_, rfl, ?_⟩) ?_
      · have tt := is_turn_w (ht r hr)
        clear g1
        repeat' decreasing_trivial_pre_omega
        refine w_of tt ?_
        clear tt
        repeat' decreasing_trivial_pre_omega
        exact ⟨rfl, rfl⟩
      · repeat' decreasing_trivial_pre_omega
        exact ⟨rfl, rfl⟩
  clear t1 i1 g1
  refine w_eq ?_
  unfold m_read_make
  (apply Wp.w_fun; (focus (rfl; done)); (focus (((try simp only [List.cons_append, List.nil_append, List.length_cons, List.length_nil, Nat.reduceAdd, Nat.reduceSub, Nat.zero_add, Nat.sub_zero, List.replicate_succ, List.replicate_zero, List.append_nil]); rfl); done)))
  unfold b_read_make
  repeat' decreasing_trivial_pre_omega
  refine w_of f1 ?_
  clear f1
  repeat' decreasing_trivial_pre_omega
  refine w_of t2 ?_
  clear t2
  repeat' decreasing_trivial_pre_omega
  refine w_of a1 ?_
  clear a1
  repeat' decreasing_trivial_pre_omega
  exact ⟨rfl, rfl⟩
end Lw

set_option linter.all false
set_option maxRecDepth 100000
set_option maxHeartbeats 4000000
namespace Lw
open PySem PySem.Spec Ev Pu Mt Wp
local macro_rules | `(tactic| decreasing_trivial_pre_omega) => `(tactic| (first | with_reducible apply Wp.w_seq | with_reducible apply Wp.w_drop | with_reducible apply Wp.w_if | with_reducible apply Wp.w_set | with_reducible apply Wp.w_ret | with_reducible apply Wp.w_asg | with_reducible apply Wp.w_par | with_reducible apply Wp.w_op2 | with_reducible apply Wp.w_acons | with_reducible apply Wp.w_fng | with_reducible apply Wp.w_tup | with_reducible apply Wp.w_lst | with_reducible apply Wp.w_call | with_reducible apply Wp.w_callk | with_reducible apply Wp.w_eand | with_reducible apply Wp.w_eor | with_reducible apply Wp.w_enot | with_reducible apply Wp.w_eif | with_reducible apply Wp.w_tb | with_reducible apply Wp.w_tnot | with_reducible apply Wp.w_tand | with_reducible apply Wp.w_tor | with_reducible apply Wp.w_neg | with_reducible apply Wp.w_isi | with_reducible apply Wp.w_sl | with_reducible apply Wp.w_pso | with_reducible apply Wp.w_rev | with_reducible apply Wp.w_index | with_reducible apply Wp.w_for | with_reducible apply Wp.w_iof | with_reducible apply Wp.w_r1 | with_reducible apply Wp.w_r2 | with_reducible apply Wp.w_comp | with_reducible apply Wp.w_compG | with_reducible apply Wp.w_izip | with_reducible apply Wp.w_izip2 | with_reducible apply Wp.w_ienu | with_reducible apply Wp.w_setix | with_reducible apply Wp.w_join | with_reducible apply Wp.kjoin1 | with_reducible apply Wp.w_fmt | with_reducible apply Wp.w_js_nil | with_reducible apply Wp.w_js | with_reducible apply Wp.w_dictp | with_reducible apply Wp.w_putS | with_reducible apply Wp.putS_nil | with_reducible apply Wp.w_r2w | with_reducible apply Wp.w_nil | with_reducible apply Wp.w_brk | with_reducible apply Wp.w_cnt | with_reducible apply Wp.w_retN | with_reducible apply Wp.w_k | with_reducible apply Wp.w_anil | with_reducible apply Wp.w_pno | with_reducible apply Wp.w_true | with_reducible apply Wp.w_rep | with_reducible apply Wp.krep1 | with_reducible apply Wp.w_mdict1 | with_reducible apply Wp.w_mnew | with_reducible apply Wp.w_min | with_reducible apply Wp.w_mput | with_reducible apply Wp.w_dput | with_reducible apply Wp.kmd1 | with_reducible apply Wp.ksl_ | with_reducible apply Wp.ksl1 | with_reducible apply Wp.ktwo1 | with_reducible apply Wp.kcons1 | with_reducible apply Wp.kseq_rt | with_reducible apply Wp.kseq_bk | with_reducible apply Wp.kseq_ct | with_reducible apply Wp.kret_r | with_reducible apply Wp.kret_b | with_reducible apply Wp.ktb | with_reducible apply Wp.kfun_rt | with_reducible apply Wp.kfun_nx | with_reducible apply Wp.kturn_nx | with_reducible apply Wp.kturn_ct | with_reducible apply Wp.kturn_rt | with_reducible apply Wp.kturn_bk | with_reducible apply Wp.w_sm1 | with_reducible apply Wp.w_sm0 | with_reducible apply Wp.w_slS | with_reducible apply Wp.ksm1 | with_reducible apply Wp.ksls1 | with_reducible apply Wp.ksls2 | ((with_reducible apply Wp.kseq_nx_n); (focus (((try simp only [Ev.wb, Ev.bk, List.set_cons_zero, List.set_cons_succ, List.getElem?_cons_zero, List.getElem?_cons_succ, List.cons_append, List.nil_append, List.append_nil]); rfl); done))) | ((with_reducible apply Wp.kback_r_n); (focus (((try simp only [Ev.wb, Ev.bk, List.set_cons_zero, List.set_cons_succ, List.getElem?_cons_zero, List.getElem?_cons_succ, List.cons_append, List.nil_append, List.append_nil]); rfl); done))) | ((with_reducible apply Wp.kback_b_n); (focus (((try simp only [Ev.wb, Ev.bk, List.set_cons_zero, List.set_cons_succ, List.getElem?_cons_zero, List.getElem?_cons_succ, List.cons_append, List.nil_append, List.append_nil]); rfl); done))) | ((with_reducible apply Wp.w_var_v); (focus (rfl; done))) | ((with_reducible apply Wp.w_var_o); (focus (rfl; done))) | ((with_reducible apply Wp.w_var_f); (focus (rfl; done))) | ((with_reducible apply Wp.kset_r); (focus (exact (by first | rfl | exact Wp.isLent_of rfl (by assumption)); done))) | ((with_reducible apply Wp.kset_b); (focus (exact (by first | rfl | exact Wp.isLent_of rfl (by assumption)); done))) | ((with_reducible apply Wp.kset_s); (focus (exact (by first | rfl | exact Wp.isLent_of rfl (by assumption)); done)); (focus (rfl; done))) | ((with_reducible apply Wp.kret_so); (focus (rfl; done))) | ((with_reducible apply Wp.kasg); (focus (rfl; done)); (focus ((first | rfl | (repeat' (first | refine Wp.gN_ok (by first | rfl | exact Wp.isLent_of rfl (by assumption)) rfl | refine Wp.gsNil_ok rfl | with_reducible apply Wp.gsCons_ok | apply Wp.gT_ok rfl))); done))) | ((with_reducible apply Wp.kpar); (focus (rfl; done)); (focus ((repeat (first | refine Wp.setOs_nil rfl | (apply Wp.setOs_r; (focus exact (by first | rfl | exact Wp.isLent_of rfl (by assumption)))) | (apply Wp.setOs_b; (focus exact (by first | rfl | exact Wp.isLent_of rfl (by assumption)))))); done))) | ((with_reducible apply Wp.ktwo2); (focus (rfl; done)); (focus (rfl; done)); (focus ((first | with_reducible assumption | with_reducible exact Wp.gEq_e _ _ | with_reducible exact Wp.gEq_n _ _ | with_reducible exact Wp.gEq_i _ _ _ | exact Wp.gAppend_ok (by assumption) | exact Wp.gIx_l (by assumption) | exact Wp.gIx_t (by assumption) | exact Wp.gStr_ok (by assumption) | exact Ev.gLenS_ok (by assumption) | exact Wp.gAdd_ss (by assumption) | exact Ev.gMulX_ok (by assumption) | exact Wp.gAdd_tt (by assumption) | exact Wp.gAdd_ll (by assumption) | exact Wp.gMul_ok (by assumption) | exact Wp.gMod_ok (by assumption) | exact Wp.gDiv_ok (by assumption) (by assumption) | rfl | assumption | exact Ev.gPowW_ok (by assumption)); done))) | ((with_reducible apply Wp.kfng); (focus (rfl; done)); (focus ((first | with_reducible assumption | with_reducible exact Wp.gEq_e _ _ | with_reducible exact Wp.gEq_n _ _ | with_reducible exact Wp.gEq_i _ _ _ | exact Wp.gAppend_ok (by assumption) | exact Wp.gIx_l (by assumption) | exact Wp.gIx_t (by assumption) | exact Wp.gStr_ok (by assumption) | exact Ev.gLenS_ok (by assumption) | exact Wp.gAdd_ss (by assumption) | exact Ev.gMulX_ok (by assumption) | exact Wp.gAdd_tt (by assumption) | exact Wp.gAdd_ll (by assumption) | exact Wp.gMul_ok (by assumption) | exact Wp.gMod_ok (by assumption) | exact Wp.gDiv_ok (by assumption) (by assumption) | rfl | assumption | exact Ev.gPowW_ok (by assumption)); done))) | ((with_reducible apply Wp.kdisp_t); (focus (rfl; done)); (focus (rfl; done))) | ((with_reducible apply Wp.kdisp_l); (focus (rfl; done)); (focus (rfl; done))) | ((with_reducible apply Wp.kcall); (focus (rfl; done)); (focus (rfl; done)); (focus (exact of_decide_eq_true rfl; done))) | ((with_reducible apply Wp.kcallk); (focus (decide; done)); (focus (exact ⟨rfl, rfl⟩; done)); (focus (rfl; done)); (focus (exact of_decide_eq_true rfl; done))) | ((with_reducible apply Wp.w_mut); (focus (rfl; done))) | ((with_reducible apply Wp.kmut2); (focus (rfl; done)); (focus (rfl; done)); (focus ((first | with_reducible assumption | with_reducible exact Wp.gEq_e _ _ | with_reducible exact Wp.gEq_n _ _ | with_reducible exact Wp.gEq_i _ _ _ | exact Wp.gAppend_ok (by assumption) | exact Wp.gIx_l (by assumption) | exact Wp.gIx_t (by assumption) | exact Wp.gStr_ok (by assumption) | exact Ev.gLenS_ok (by assumption) | exact Wp.gAdd_ss (by assumption) | exact Ev.gMulX_ok (by assumption) | exact Wp.gAdd_tt (by assumption) | exact Wp.gAdd_ll (by assumption) | exact Wp.gMul_ok (by assumption) | exact Wp.gMod_ok (by assumption) | exact Wp.gDiv_ok (by assumption) (by assumption) | rfl | assumption | exact Ev.gPowW_ok (by assumption)); done))) | ((with_reducible apply Wp.kif_t); (focus (rfl; done))) | ((with_reducible apply Wp.kif_f); (focus (rfl; done))) | ((with_reducible apply Wp.kif_t); (focus (assumption; done))) | ((with_reducible apply Wp.kif_f); (focus (assumption; done))) | ((with_reducible apply Wp.kife_t); (focus (rfl; done))) | ((with_reducible apply Wp.kife_f); (focus (rfl; done))) | ((with_reducible apply Wp.kand_t); (focus (rfl; done))) | ((with_reducible apply Wp.kand_f); (focus (rfl; done))) | ((with_reducible apply Wp.kor_t); (focus (rfl; done))) | ((with_reducible apply Wp.kor_f); (focus (rfl; done))) | ((with_reducible apply Wp.kande_t); (focus (rfl; done))) | ((with_reducible apply Wp.kande_f); (focus (rfl; done))) | ((with_reducible apply Wp.kore_t); (focus (rfl; done))) | ((with_reducible apply Wp.kore_f); (focus (rfl; done))) | ((with_reducible apply Wp.ktb_s); (focus (rfl; done))) | ((with_reducible apply Wp.kneg); (focus (rfl; done))) | ((with_reducible apply Wp.kisi); (focus (rfl; done))) | ((with_reducible apply Wp.kpso); (focus (rfl; done))) | ((with_reducible apply Wp.kof_l); (focus (rfl; done))) | ((with_reducible apply Wp.kof_t); (focus (rfl; done))) | ((with_reducible apply Wp.krev_l); (focus (rfl; done))) | ((with_reducible apply Wp.krev_t); (focus (rfl; done))) | ((with_reducible apply Wp.kindex1_); (focus (rfl; done))) | ((with_reducible apply Wp.kjoin2); (focus (rfl; done)); (focus (assumption; done)); (focus (assumption; done))) | ((with_reducible apply Wp.kfmt_s); (focus (rfl; done)); (focus (assumption; done))) | ((with_reducible apply Wp.kfmt_i); (focus (rfl; done)); (focus (assumption; done))) | ((with_reducible apply Wp.kjs); (focus (assumption; done))) | ((with_reducible apply Wp.ksl2_l); (focus (rfl; done))) | ((with_reducible apply Wp.ksl2_t); (focus (rfl; done))) | ((with_reducible apply Wp.w_mget); (focus (rfl; done))) | ((with_reducible apply Wp.kmget); (focus (rfl; done)); (focus (rfl; done)); (focus (rfl; done)); (focus (assumption; done))) | ((with_reducible apply Wp.kmin); (focus (rfl; done)); (focus (rfl; done)); (focus (rfl; done)); (focus (assumption; done))) | ((with_reducible apply Wp.kmput1); (focus (rfl; done))) | ((with_reducible apply Wp.kmput2); (focus (rfl; done)); (focus (rfl; done)); (focus (rfl; done)); (focus (rfl; done)); (focus (assumption; done))) | ((with_reducible apply Wp.kmd2); (focus (rfl; done)); (focus (rfl; done))) | ((with_reducible apply Wp.w_dget); (focus (rfl; done))) | ((with_reducible apply Wp.kdget); (focus (rfl; done)); (focus (rfl; done)); (focus (rfl; done)); (focus (assumption; done))) | ((with_reducible apply Wp.kdput1); (focus (rfl; done))) | ((with_reducible apply Wp.kdput2); (focus (rfl; done)); (focus (rfl; done)); (focus (rfl; done)); (focus (rfl; done)); (focus (assumption; done))) | ((with_reducible apply Wp.ksetix1); (focus (rfl; done))) | ((with_reducible apply Wp.ksetix2); (focus (rfl; done)); (focus (rfl; done)); (focus (rfl; done)); (focus ((first | rfl | assumption | exact Wp.ixN_nat (by assumption)); done))) | ((with_reducible apply Wp.kdictp); (focus (rfl; done)); (focus (assumption; done))) | ((with_reducible apply Wp.kputS); (focus (rfl; done)); (focus (rfl; done)); (focus (rfl; done))) | ((with_reducible apply Wp.putS_l); (focus (rfl; done))) | ((with_reducible apply Wp.putS_d); (focus (rfl; done))) | ((with_reducible apply Wp.kputL); (focus (rfl; done)); (focus (rfl; done)); (focus ((first | rfl | assumption | exact Wp.ixN_nat (by assumption)); done))) | ((with_reducible apply Wp.kputD); (focus (rfl; done)); (focus (rfl; done)); (focus (rfl; done)); (focus (assumption; done))) | ((with_reducible apply Wp.kr2w); (focus (rfl; done))) | ((with_reducible apply Wp.kzip); (focus (rfl; done))) | ((with_reducible apply Wp.w_inmG); (focus (rfl; done)); (focus (rfl; done))) | ((with_reducible apply Wp.w_izipV_l); (focus (rfl; done)); (focus (rfl; done)); (focus (rfl; done)); (focus (rfl; done))) | ((with_reducible apply Wp.w_izipV_r); (focus (rfl; done)); (focus (rfl; done)); (focus (rfl; done)); (focus (rfl; done))) | ((with_reducible apply Wp.kzip2_l); (focus (rfl; done))) | ((with_reducible apply Wp.kzip2_t); (focus (rfl; done))) | ((with_reducible apply Wp.kenu); (focus (rfl; done))) | ((with_reducible apply Wp.w_aug); (focus (rfl; done))) | ((with_reducible apply Wp.kaug); (focus (rfl; done)); (focus ((first | with_reducible assumption | with_reducible exact Wp.gEq_e _ _ | with_reducible exact Wp.gEq_n _ _ | with_reducible exact Wp.gEq_i _ _ _ | exact Wp.gAppend_ok (by assumption) | exact Wp.gIx_l (by assumption) | exact Wp.gIx_t (by assumption) | exact Wp.gStr_ok (by assumption) | exact Ev.gLenS_ok (by assumption) | exact Wp.gAdd_ss (by assumption) | exact Ev.gMulX_ok (by assumption) | exact Wp.gAdd_tt (by assumption) | exact Wp.gAdd_ll (by assumption) | exact Wp.gMul_ok (by assumption) | exact Wp.gMod_ok (by assumption) | exact Wp.gDiv_ok (by assumption) (by assumption) | rfl | assumption | exact Ev.gPowW_ok (by assumption)); done)); (focus (exact (by first | rfl | exact Wp.isLent_of rfl (by assumption)); done))) | ((with_reducible apply Wp.kelt); (focus (rfl; done))) | ((with_reducible apply Wp.ksm1b); (focus ((first | assumption | rfl); done))) | ((with_reducible apply Wp.ksm0); (focus ((first | assumption | rfl); done))) | ((with_reducible apply Wp.ksls3); (focus (assumption; done)))))
/-! ### spans -/
def endsL (ps : List (Int × Int)) : List Int := ps.flatMap fun p => [p.1, p.2]
structure OkS (ps : List (Int × Int)) : Prop where
  pos : ps ≠ []
  few : ps.length ≤ 1000
  ok : ∀ p ∈ ps, OkP p
  asc : ∀ k a b, (endsL ps)[k]? = some a → (endsL ps)[k + 1]? = some b → a < b
theorem ends_len (ps : List (Int × Int)) : (endsL ps).length = 2 * ps.length := by
  unfold endsL
  induction ps with
  | nil => rfl
  | cons p ps ih => rw [List.flatMap_cons, List.length_append, ih, List.length_cons]; simp; omega
theorem okr_span {p : Int × Int} (h : OkP p) : OkR [p.1, p.2] := okr2 h.a h.b
theorem told_spans {ps : List (Int × Int)} (o : OkS ps) : m__told_spans [.v (.str (spansS ps))] = .ok (.r (spansT ps)) [.v (.str (spansS ps))] := by
  have s1 := spl_spans o.ok o.pos o.few
  have hl := o.few
  have hok := o.ok
  have hasc := o.asc
  have hpos : 0 < ps.length := List.length_pos_iff.mpr o.pos
  have hel := ends_len ps
  clear o
  have g1 : gIn id .none (.list (ps.map cT)) = some (.r (.bool false)) := gIn_non _ ((pl_map cT pl_cT ps (by omega)).shaped (by decide)) fun t ht => by obtain ⟨p, _, rfl⟩ := List.mem_map.mp ht; rfl
  have g2 := all_tt (List.range ((endsL ps).length - 1))
  refine w_eq ?_
  unfold m__told_spans
  (apply Wp.w_fun; (focus (rfl; done)); (focus (((try simp only [List.cons_append, List.nil_append, List.length_cons, List.length_nil, Nat.reduceAdd, Nat.reduceSub, Nat.zero_add, Nat.sub_zero, List.replicate_succ, List.replicate_zero, List.append_nil]); rfl); done)))
  unfold b__told_spans x1__told_spans
  repeat' decreasing_trivial_pre_omega
  rw [map_str]
  refine comp_map_w (fun p => PyData.str (spanS p)) cT ps (by unfold sizeLine; omega) (fun p hp => ⟨_, rfl, ?_⟩) ?_
  · have s2 := spl_span (hok p hp)
    have t2 := told_ints (okr_span (hok p hp)) (by simp) 2 rfl
    clear g1 g2 s1
    repeat' decreasing_trivial_pre_omega
    refine w_of t2 ?_
    clear t2
    repeat' decreasing_trivial_pre_omega
    exact ⟨rfl, rfl⟩
  · clear s1
    repeat' decreasing_trivial_pre_omega
    unfold l1__told_spans
    repeat' decreasing_trivial_pre_omega
    refine for_on_w cT ps (fun don e => ∃ l3 : Sl, lentS l3 = false ∧ e = [.v (.str (spansS ps)), .v (.list (ps.map cT)), .ow false (.l ((endsL don).map PyData.int)), l3, .un, .un]) ⟨.un, rfl, rfl⟩ ?_ ?_
    · rintro don p rest hd e ⟨l3, a3, rfl⟩
      have hdl : don.length < ps.length := by rw [hd]; simp
      refine ⟨_, gN_ok (by first | rfl | exact Wp.isLent_of rfl (by assumption)) rfl, ?_⟩
      have hx : gExtT ((endsL don).map PyData.int) [cT p] = some ((endsL don).map PyData.int ++ [.int p.1, .int p.2], .none) := by
        show (if ((endsL don).map PyData.int).length + [PyData.int p.1, .int p.2].length ≤ sizeLine then _ else _) = _
        rw [if_pos]
        rw [List.length_map, ends_len]
        unfold sizeLine
        simp
        omega
      clear g1 g2
      unfold y1__told_spans
      repeat' decreasing_trivial_pre_omega
      refine ⟨.v (cT p), rfl, ?_⟩
      show [_, _, Sl.ow false (.l ((endsL don).map PyData.int ++ [.int p.1, .int p.2])), _, _, _] = _
      unfold endsL
      rw [List.flatMap_append, List.map_append]
      rfl
    · rintro e ⟨l3, a3, rfl⟩
      repeat' decreasing_trivial_pre_omega
      unfold x2__told_spans
      repeat' decreasing_trivial_pre_omega
      refine kr1_eq ((endsL ps).length - 1) rfl (by rw [List.length_map]; omega) (by omega) ?_
      unfold below
      refine comp_map_w (fun (k : Nat) => PyData.int (k : Int)) (fun _ => PyData.bool true) (List.range ((endsL ps).length - 1)) (by rw [List.length_range]; unfold sizeLine; omega) (fun k hk => ⟨_, rfl, ?_⟩) ?_
      · have hk := List.mem_range.mp hk
        have q1 : ((endsL ps).map PyData.int)[k]? = some (.int (endsL ps)[k]) := by rw [List.getElem?_map, List.getElem?_eq_getElem (by omega)]; rfl
        have q2 : ((endsL ps).map PyData.int)[k + 1]? = some (.int (endsL ps)[k + 1]) := by rw [List.getElem?_map, List.getElem?_eq_getElem (by omega)]; rfl
        have q3 := hasc k _ _ (List.getElem?_eq_getElem (by omega)) (List.getElem?_eq_getElem (by omega))
        have e1 : (k : Int) + 1 = ((k + 1 : Nat) : Int) := by simp
        generalize (endsL ps)[k] = a at q1 q3
        generalize (endsL ps)[k + 1] = b at q2 q3
        clear g1 g2
        repeat' decreasing_trivial_pre_omega
        refine ⟨?_, rfl⟩
        show PyData.bool (decide (a < b)) = _
        rw [decide_eq_true q3]
      · repeat' decreasing_trivial_pre_omega
        exact ⟨rfl, rfl⟩
theorem spans_free {ps : List (Int × Int)} (h : ∀ p ∈ ps, OkP p) : 10 ∉ tl (spansS ps) := join_free (by rw [tl_sp]; simp) fun q hq => by
  obtain ⟨p, hp, rfl⟩ := List.mem_map.mp hq
  exact span_free (h p hp) (by omega)
theorem read_spans {ps : List (Int × Int)} (o : OkS ps) : m_read_spans [.v (.str (spansS ps))] = .ok (.r (spansT ps)) [.v (.str (spansS ps))] := by
  have hf := spans_free o.ok
  have f1 := first_line hf (by
    have h1 := join_len " " (ps.map spanS)
    have h2 := spans_fit o.few o.ok
    unfold spansS sizeLine
    have h3 := sum_le (B := 121) (ps.map spanS) fun y hy => by
      obtain ⟨p, hp, rfl⟩ := List.mem_map.mp hy
      exact spanS_len (o.ok p hp)
    have h4 : (" " : Str).length = 1 := by decide +kernel
    have h5 := o.few
    rw [List.length_map, h4] at h1
    rw [List.length_map] at h3
    have h6 : ps.length * 121 ≤ 121000 := by omega
    omega)
  have t1 := told_spans o
  have a1 := alone_w hf (ps.map cT)
  clear hf
  refine w_eq ?_
  unfold m_read_spans
  (apply Wp.w_fun; (focus (rfl; done)); (focus (((try simp only [List.cons_append, List.nil_append, List.length_cons, List.length_nil, Nat.reduceAdd, Nat.reduceSub, Nat.zero_add, Nat.sub_zero, List.replicate_succ, List.replicate_zero, List.append_nil]); rfl); done)))
  unfold b_read_spans
  repeat' decreasing_trivial_pre_omega
  refine w_of f1 ?_
  clear f1
  repeat' decreasing_trivial_pre_omega
  refine w_of t1 ?_
  clear t1
  repeat' decreasing_trivial_pre_omega
  refine w_of a1 ?_
  clear a1
  repeat' decreasing_trivial_pre_omega
  exact ⟨rfl, rfl⟩
end Lw

set_option linter.all false
set_option maxRecDepth 100000
set_option maxHeartbeats 4000000
namespace Lw
open PySem PySem.Spec Ev Pu Mt Wp
local macro_rules | `(tactic| decreasing_trivial_pre_omega) => `(tactic| (first | with_reducible apply Wp.w_seq | with_reducible apply Wp.w_drop | with_reducible apply Wp.w_if | with_reducible apply Wp.w_set | with_reducible apply Wp.w_ret | with_reducible apply Wp.w_asg | with_reducible apply Wp.w_par | with_reducible apply Wp.w_op2 | with_reducible apply Wp.w_acons | with_reducible apply Wp.w_fng | with_reducible apply Wp.w_tup | with_reducible apply Wp.w_lst | with_reducible apply Wp.w_call | with_reducible apply Wp.w_callk | with_reducible apply Wp.w_eand | with_reducible apply Wp.w_eor | with_reducible apply Wp.w_enot | with_reducible apply Wp.w_eif | with_reducible apply Wp.w_tb | with_reducible apply Wp.w_tnot | with_reducible apply Wp.w_tand | with_reducible apply Wp.w_tor | with_reducible apply Wp.w_neg | with_reducible apply Wp.w_isi | with_reducible apply Wp.w_sl | with_reducible apply Wp.w_pso | with_reducible apply Wp.w_rev | with_reducible apply Wp.w_index | with_reducible apply Wp.w_for | with_reducible apply Wp.w_iof | with_reducible apply Wp.w_r1 | with_reducible apply Wp.w_r2 | with_reducible apply Wp.w_comp | with_reducible apply Wp.w_compG | with_reducible apply Wp.w_izip | with_reducible apply Wp.w_izip2 | with_reducible apply Wp.w_ienu | with_reducible apply Wp.w_setix | with_reducible apply Wp.w_join | with_reducible apply Wp.kjoin1 | with_reducible apply Wp.w_fmt | with_reducible apply Wp.w_js_nil | with_reducible apply Wp.w_js | with_reducible apply Wp.w_dictp | with_reducible apply Wp.w_putS | with_reducible apply Wp.putS_nil | with_reducible apply Wp.w_r2w | with_reducible apply Wp.w_nil | with_reducible apply Wp.w_brk | with_reducible apply Wp.w_cnt | with_reducible apply Wp.w_retN | with_reducible apply Wp.w_k | with_reducible apply Wp.w_anil | with_reducible apply Wp.w_pno | with_reducible apply Wp.w_true | with_reducible apply Wp.w_rep | with_reducible apply Wp.krep1 | with_reducible apply Wp.w_mdict1 | with_reducible apply Wp.w_mnew | with_reducible apply Wp.w_min | with_reducible apply Wp.w_mput | with_reducible apply Wp.w_dput | with_reducible apply Wp.kmd1 | with_reducible apply Wp.ksl_ | with_reducible apply Wp.ksl1 | with_reducible apply Wp.ktwo1 | with_reducible apply Wp.kcons1 | with_reducible apply Wp.kseq_rt | with_reducible apply Wp.kseq_bk | with_reducible apply Wp.kseq_ct | with_reducible apply Wp.kret_r | with_reducible apply Wp.kret_b | with_reducible apply Wp.ktb | with_reducible apply Wp.kfun_rt | with_reducible apply Wp.kfun_nx | with_reducible apply Wp.kturn_nx | with_reducible apply Wp.kturn_ct | with_reducible apply Wp.kturn_rt | with_reducible apply Wp.kturn_bk | with_reducible apply Wp.w_sm1 | with_reducible apply Wp.w_sm0 | with_reducible apply Wp.w_slS | with_reducible apply Wp.ksm1 | with_reducible apply Wp.ksls1 | with_reducible apply Wp.ksls2 | ((with_reducible apply Wp.kseq_nx_n); (focus (((try simp only [Ev.wb, Ev.bk, List.set_cons_zero, List.set_cons_succ, List.getElem?_cons_zero, List.getElem?_cons_succ, List.cons_append, List.nil_append, List.append_nil]); rfl); done))) | ((with_reducible apply Wp.kback_r_n); (focus (((try simp only [Ev.wb, Ev.bk, List.set_cons_zero, List.set_cons_succ, List.getElem?_cons_zero, List.getElem?_cons_succ, List.cons_append, List.nil_append, List.append_nil]); rfl); done))) | ((with_reducible apply Wp.kback_b_n); (focus (((try simp only [Ev.wb, Ev.bk, List.set_cons_zero, List.set_cons_succ, List.getElem?_cons_zero, List.getElem?_cons_succ, List.cons_append, List.nil_append, List.append_nil]); rfl); done))) | ((with_reducible apply Wp.w_var_v); (focus (rfl; done))) | ((with_reducible apply Wp.w_var_o); (focus (rfl; done))) | ((with_reducible apply Wp.w_var_f); (focus (rfl; done))) | ((with_reducible apply Wp.kset_r); (focus (exact (by first | rfl | exact Wp.isLent_of rfl (by assumption)); done))) | ((with_reducible apply Wp.kset_b); (focus (exact (by first | rfl | exact Wp.isLent_of rfl (by assumption)); done))) | ((with_reducible apply Wp.kset_s); (focus (exact (by first | rfl | exact Wp.isLent_of rfl (by assumption)); done)); (focus (rfl; done))) | ((with_reducible apply Wp.kret_so); (focus (rfl; done))) | ((with_reducible apply Wp.kasg); (focus (rfl; done)); (focus ((first | rfl | (repeat' (first | refine Wp.gN_ok (by first | rfl | exact Wp.isLent_of rfl (by assumption)) rfl | refine Wp.gsNil_ok rfl | with_reducible apply Wp.gsCons_ok | apply Wp.gT_ok rfl))); done))) | ((with_reducible apply Wp.kpar); (focus (rfl; done)); (focus ((repeat (first | refine Wp.setOs_nil rfl | (apply Wp.setOs_r; (focus exact (by first | rfl | exact Wp.isLent_of rfl (by assumption)))) | (apply Wp.setOs_b; (focus exact (by first | rfl | exact Wp.isLent_of rfl (by assumption)))))); done))) | ((with_reducible apply Wp.ktwo2); (focus (rfl; done)); (focus (rfl; done)); (focus ((first | with_reducible assumption | with_reducible exact Wp.gEq_e _ _ | with_reducible exact Wp.gEq_n _ _ | with_reducible exact Wp.gEq_i _ _ _ | exact Wp.gAppend_ok (by assumption) | exact Wp.gIx_l (by assumption) | exact Wp.gIx_t (by assumption) | exact Wp.gStr_ok (by assumption) | exact Ev.gLenS_ok (by assumption) | exact Wp.gAdd_ss (by assumption) | exact Ev.gMulX_ok (by assumption) | exact Wp.gAdd_tt (by assumption) | exact Wp.gAdd_ll (by assumption) | exact Wp.gMul_ok (by assumption) | exact Wp.gMod_ok (by assumption) | exact Wp.gDiv_ok (by assumption) (by assumption) | rfl | assumption | exact Ev.gPowW_ok (by assumption)); done))) | ((with_reducible apply Wp.kfng); (focus (rfl; done)); (focus ((first | with_reducible assumption | with_reducible exact Wp.gEq_e _ _ | with_reducible exact Wp.gEq_n _ _ | with_reducible exact Wp.gEq_i _ _ _ | exact Wp.gAppend_ok (by assumption) | exact Wp.gIx_l (by assumption) | exact Wp.gIx_t (by assumption) | exact Wp.gStr_ok (by assumption) | exact Ev.gLenS_ok (by assumption) | exact Wp.gAdd_ss (by assumption) | exact Ev.gMulX_ok (by assumption) | exact Wp.gAdd_tt (by assumption) | exact Wp.gAdd_ll (by assumption) | exact Wp.gMul_ok (by assumption) | exact Wp.gMod_ok (by assumption) | exact Wp.gDiv_ok (by assumption) (by assumption) | rfl | assumption | exact Ev.gPowW_ok (by assumption)); done))) | ((with_reducible apply Wp.kdisp_t); (focus (rfl; done)); (focus (rfl; done))) | ((with_reducible apply Wp.kdisp_l); (focus (rfl; done)); (focus (rfl; done))) | ((with_reducible apply Wp.kcall); (focus (rfl; done)); (focus (rfl; done)); (focus (exact of_decide_eq_true rfl; done))) | ((with_reducible apply Wp.kcallk); (focus (decide; done)); (focus (exact ⟨rfl, rfl⟩; done)); (focus (rfl; done)); (focus (exact of_decide_eq_true rfl; done))) | ((with_reducible apply Wp.w_mut); (focus (rfl; done))) | ((with_reducible apply Wp.kmut2); (focus (rfl; done)); (focus (rfl; done)); (focus ((first | with_reducible assumption | with_reducible exact Wp.gEq_e _ _ | with_reducible exact Wp.gEq_n _ _ | with_reducible exact Wp.gEq_i _ _ _ | exact Wp.gAppend_ok (by assumption) | exact Wp.gIx_l (by assumption) | exact Wp.gIx_t (by assumption) | exact Wp.gStr_ok (by assumption) | exact Ev.gLenS_ok (by assumption) | exact Wp.gAdd_ss (by assumption) | exact Ev.gMulX_ok (by assumption) | exact Wp.gAdd_tt (by assumption) | exact Wp.gAdd_ll (by assumption) | exact Wp.gMul_ok (by assumption) | exact Wp.gMod_ok (by assumption) | exact Wp.gDiv_ok (by assumption) (by assumption) | rfl | assumption | exact Ev.gPowW_ok (by assumption)); done))) | ((with_reducible apply Wp.kif_t); (focus (rfl; done))) | ((with_reducible apply Wp.kif_f); (focus (rfl; done))) | ((with_reducible apply Wp.kif_t); (focus (assumption; done))) | ((with_reducible apply Wp.kif_f); (focus (assumption; done))) | ((with_reducible apply Wp.kife_t); (focus (rfl; done))) | ((with_reducible apply Wp.kife_f); (focus (rfl; done))) | ((with_reducible apply Wp.kand_t); (focus (rfl; done))) | ((with_reducible apply Wp.kand_f); (focus (rfl; done))) | ((with_reducible apply Wp.kor_t); (focus (rfl; done))) | ((with_reducible apply Wp.kor_f); (focus (rfl; done))) | ((with_reducible apply Wp.kande_t); (focus (rfl; done))) | ((with_reducible apply Wp.kande_f); (focus (rfl; done))) | ((with_reducible apply Wp.kore_t); (focus (rfl; done))) | ((with_reducible apply Wp.kore_f); (focus (rfl; done))) | ((with_reducible apply Wp.ktb_s); (focus (rfl; done))) | ((with_reducible apply Wp.kneg); (focus (rfl; done))) | ((with_reducible apply Wp.kisi); (focus (rfl; done))) | ((with_reducible apply Wp.kpso); (focus (rfl; done))) | ((with_reducible apply Wp.kof_l); (focus (rfl; done))) | ((with_reducible apply Wp.kof_t); (focus (rfl; done))) | ((with_reducible apply Wp.krev_l); (focus (rfl; done))) | ((with_reducible apply Wp.krev_t); (focus (rfl; done))) | ((with_reducible apply Wp.kindex1_); (focus (rfl; done))) | ((with_reducible apply Wp.kjoin2); (focus (rfl; done)); (focus (assumption; done)); (focus (assumption; done))) | ((with_reducible apply Wp.kfmt_s); (focus (rfl; done)); (focus (assumption; done))) | ((with_reducible apply Wp.kfmt_i); (focus (rfl; done)); (focus (assumption; done))) | ((with_reducible apply Wp.kjs); (focus (assumption; done))) | ((with_reducible apply Wp.ksl2_l); (focus (rfl; done))) | ((with_reducible apply Wp.ksl2_t); (focus (rfl; done))) | ((with_reducible apply Wp.w_mget); (focus (rfl; done))) | ((with_reducible apply Wp.kmget); (focus (rfl; done)); (focus (rfl; done)); (focus (rfl; done)); (focus (assumption; done))) | ((with_reducible apply Wp.kmin); (focus (rfl; done)); (focus (rfl; done)); (focus (rfl; done)); (focus (assumption; done))) | ((with_reducible apply Wp.kmput1); (focus (rfl; done))) | ((with_reducible apply Wp.kmput2); (focus (rfl; done)); (focus (rfl; done)); (focus (rfl; done)); (focus (rfl; done)); (focus (assumption; done))) | ((with_reducible apply Wp.kmd2); (focus (rfl; done)); (focus (rfl; done))) | ((with_reducible apply Wp.w_dget); (focus (rfl; done))) | ((with_reducible apply Wp.kdget); (focus (rfl; done)); (focus (rfl; done)); (focus (rfl; done)); (focus (assumption; done))) | ((with_reducible apply Wp.kdput1); (focus (rfl; done))) | ((with_reducible apply Wp.kdput2); (focus (rfl; done)); (focus (rfl; done)); (focus (rfl; done)); (focus (rfl; done)); (focus (assumption; done))) | ((with_reducible apply Wp.ksetix1); (focus (rfl; done))) | ((with_reducible apply Wp.ksetix2); (focus (rfl; done)); (focus (rfl; done)); (focus (rfl; done)); (focus ((first | rfl | assumption | exact Wp.ixN_nat (by assumption)); done))) | ((with_reducible apply Wp.kdictp); (focus (rfl; done)); (focus (assumption; done))) | ((with_reducible apply Wp.kputS); (focus (rfl; done)); (focus (rfl; done)); (focus (rfl; done))) | ((with_reducible apply Wp.putS_l); (focus (rfl; done))) | ((with_reducible apply Wp.putS_d); (focus (rfl; done))) | ((with_reducible apply Wp.kputL); (focus (rfl; done)); (focus (rfl; done)); (focus ((first | rfl | assumption | exact Wp.ixN_nat (by assumption)); done))) | ((with_reducible apply Wp.kputD); (focus (rfl; done)); (focus (rfl; done)); (focus (rfl; done)); (focus (assumption; done))) | ((with_reducible apply Wp.kr2w); (focus (rfl; done))) | ((with_reducible apply Wp.kzip); (focus (rfl; done))) | ((with_reducible apply Wp.w_inmG); (focus (rfl; done)); (focus (rfl; done))) | ((with_reducible apply Wp.w_izipV_l); (focus (rfl; done)); (focus (rfl; done)); (focus (rfl; done)); (focus (rfl; done))) | ((with_reducible apply Wp.w_izipV_r); (focus (rfl; done)); (focus (rfl; done)); (focus (rfl; done)); (focus (rfl; done))) | ((with_reducible apply Wp.kzip2_l); (focus (rfl; done))) | ((with_reducible apply Wp.kzip2_t); (focus (rfl; done))) | ((with_reducible apply Wp.kenu); (focus (rfl; done))) | ((with_reducible apply Wp.w_aug); (focus (rfl; done))) | ((with_reducible apply Wp.kaug); (focus (rfl; done)); (focus ((first | with_reducible assumption | with_reducible exact Wp.gEq_e _ _ | with_reducible exact Wp.gEq_n _ _ | with_reducible exact Wp.gEq_i _ _ _ | exact Wp.gAppend_ok (by assumption) | exact Wp.gIx_l (by assumption) | exact Wp.gIx_t (by assumption) | exact Wp.gStr_ok (by assumption) | exact Ev.gLenS_ok (by assumption) | exact Wp.gAdd_ss (by assumption) | exact Ev.gMulX_ok (by assumption) | exact Wp.gAdd_tt (by assumption) | exact Wp.gAdd_ll (by assumption) | exact Wp.gMul_ok (by assumption) | exact Wp.gMod_ok (by assumption) | exact Wp.gDiv_ok (by assumption) (by assumption) | rfl | assumption | exact Ev.gPowW_ok (by assumption)); done)); (focus (exact (by first | rfl | exact Wp.isLent_of rfl (by assumption)); done))) | ((with_reducible apply Wp.kelt); (focus (rfl; done))) | ((with_reducible apply Wp.ksm1b); (focus ((first | assumption | rfl); done))) | ((with_reducible apply Wp.ksm0); (focus ((first | assumption | rfl); done))) | ((with_reducible apply Wp.ksls3); (focus (assumption; done)))))
/-! ### books -/
def ptL (p : Pt) : List Int := [p.1, p.2.1, (p.2.2 : Int)]
def ksL (ks : List (List Pt)) : List (List (List Int)) := ks.map fun ps => ps.map ptL
theorem kT_rows (ps : List Pt) : kT ps = rowsT (ps.map ptL) := by unfold kT rowsT; rw [List.map_map]; rfl
theorem bk_book (B : Nat) (ks : List (List Pt)) : bkT B ks = bookT B (ksL ks) := by
  unfold bkT bookT ksL
  rw [List.map_map]
  have : (ks.map kT) = ks.map (rowsT ∘ fun ps => ps.map ptL) := List.map_congr_left fun ps _ => kT_rows ps
  rw [this]
theorem okb_of {B : Nat} {ks : List (List Pt)} (g : Good B ks) : OkB B (ksL ks) := by
  have hB3 : (B : Int) ≤ 3 := by rcases g.hb with h | h <;> rw [h] <;> decide
  have hB9 : B * B ≤ 9 := by rcases g.hb with h | h <;> rw [h] <;> decide
  have hf := g.few
  have hp := g.pos
  refine ⟨g.hb, by unfold ksL; rw [List.length_map]; exact ⟨hp, hf⟩, fun rs hr => ?_, fun rs hr r hr2 => ?_⟩
  · obtain ⟨ps, h, rfl⟩ := List.mem_map.mp hr
    rw [List.length_map, g.len ps h]; exact hB9
  · obtain ⟨ps, h, rfl⟩ := List.mem_map.mp hr
    obtain ⟨p, hp2, rfl⟩ := List.mem_map.mp hr2
    have := g.rng ps h p hp2
    exact okr3 (by omega) (by omega) (by omega)
theorem starts_a (a y : Str) : Txt.startswith (a ++ y) a = true := by
  have la : a.cps.toList.length = a.length := Array.length_toList
  have s : Builtin.Str.subAt (a ++ y) a 0 = true := by
    rw [StrLaws.subAt_eq, List.drop_zero]
    have : (a ++ y).cps.toList = a.cps.toList ++ y.cps.toList := TL.tl_append a y
    rw [this, ← la, List.take_left]
    exact beq_self_eq_true _
  unfold Txt.startswith
  rw [s, Bool.and_true]
  exact decide_eq_true (by rw [app_len]; omega)
theorem cut_app (a y : Str) (k : Nat) (hk : a.length = k) : L2.cutS (a ++ y) (some (k : Int)) none = y := by
  refine TL.ext_tl ?_
  have la : a.cps.toList.length = a.length := Array.length_toList
  have ly : y.cps.toList.length = y.length := Array.length_toList
  have e : (a ++ y).cps.toList = a.cps.toList ++ y.cps.toList := TL.tl_append a y
  show ((((a ++ y).cps.toList.drop (HT.sIx (a ++ y).length 0 (some (k : Int)))).take (HT.sIx (a ++ y).length (a ++ y).length none - HT.sIx (a ++ y).length 0 (some (k : Int)))).toArray).toList = y.cps.toList
  rw [HT.sIx_nat, HT.sIx_none, app_len, Nat.min_eq_left (by omega), e, ← hk, ← la, List.drop_left]
  rw [List.take_of_length_le (by omega)]
theorem l_book : ("book " : Str).length = 5 := by decide +kernel
theorem l_field : ("field " : Str).length = 6 := by decide +kernel
theorem told_b {B : Nat} (hB : B = 2 ∨ B = 3) : m__told_b [.v (.str (lineS B))] = .ok (.r (nT B)) [.v (.str (lineS B))] := by
  have f1 : fStarts (lineS B) "book " = some (.r (.bool true)) := by unfold fStarts lineS; rw [starts_a]
  have f2 : L2.cutS (lineS B) (some 5) none = numS (B : Int) := cut_app _ _ 5 l_book
  have f3 : (lineS B).length ≤ sizeLine := by have := lineS_len (B := B) (by omega); unfold sizeLine; omega
  have f4 := told_int (i := (B : Int)) (by omega)
  refine w_eq ?_
  unfold m__told_b
  (apply Wp.w_fun; (focus (rfl; done)); (focus (((try simp only [List.cons_append, List.nil_append, List.length_cons, List.length_nil, Nat.reduceAdd, Nat.reduceSub, Nat.zero_add, Nat.sub_zero, List.replicate_succ, List.replicate_zero, List.append_nil]); rfl); done)))
  unfold b__told_b
  repeat' decreasing_trivial_pre_omega
  rw [f2]
  refine w_of f4 ?_
  clear f4
  repeat' decreasing_trivial_pre_omega
  exact ⟨rfl, rfl⟩
theorem told_book {B : Nat} {ks : List (List (List Int))} (o : OkB B ks) (h3 : ∀ rs ∈ ks, rs ≠ [] ∧ ∀ r ∈ rs, r.length = 3) (k : Nat) :
    m__told_book [.ow true (.l ((lineS B :: ks.map rowsS).map PyData.str)), .v (nT k)] = .ok (.r (bookT B ks)) [.ow true (.l ((lineS B :: ks.map rowsS).map PyData.str)), .v (nT k)] := by
  have t1 := told_b o.b
  have hn := o.n
  have ix0 : gIx (.list ((lineS B :: ks.map rowsS).map PyData.str)) (.int 0) = some (.r (.str (lineS B))) := ix_list _ 0 _ rfl
  have ct : cutT ((lineS B :: ks.map rowsS).map PyData.str) (some 1) none = ks.map fun rs => PyData.str (rowsS rs) := by
    have := cut_drop ((lineS B :: ks.map rowsS).map PyData.str) 0
    rw [show ((0 : Nat) : Int) + 1 = 1 from rfl] at this
    rw [this]
    show (ks.map rowsS).map PyData.str = _
    rw [map_str]
  have g1 : gIn id .none (.list (ks.map rowsT)) = some (.r (.bool false)) := by
    refine gIn_non _ ((Pl.lst (n := 2) (fun x hx => ?_) (by rw [List.length_map]; omega)).shaped (by decide)) fun t ht => by obtain ⟨r, _, rfl⟩ := List.mem_map.mp ht; rfl
    obtain ⟨rs, hr, rfl⟩ := List.mem_map.mp hx
    have hl := o.len rs hr
    refine .tup (fun y hy => ?_) (by rw [List.length_map]; omega)
    obtain ⟨r, hr2, rfl⟩ := List.mem_map.mp hy
    have hl2 := (o.rows rs hr r hr2).len
    exact .tup (fun z hz => by obtain ⟨i, _, rfl⟩ := List.mem_map.mp hz; exact .int _ _) (by rw [List.length_map]; omega)
  generalize hL : (lineS B :: ks.map rowsS).map PyData.str = L at ix0 ct ⊢
  refine w_eq ?_
  unfold m__told_book
  (apply Wp.w_fun; (focus (rfl; done)); (focus (((try simp only [List.cons_append, List.nil_append, List.length_cons, List.length_nil, Nat.reduceAdd, Nat.reduceSub, Nat.zero_add, Nat.sub_zero, List.replicate_succ, List.replicate_zero, List.append_nil]); rfl); done)))
  unfold b__told_book
  repeat' decreasing_trivial_pre_omega
  refine w_of t1 ?_
  clear t1
  repeat' decreasing_trivial_pre_omega
  unfold x1__told_book
  repeat' decreasing_trivial_pre_omega
  rw [ct]
  refine comp_map_w (fun rs => PyData.str (rowsS rs)) rowsT ks (by unfold sizeLine; omega) (fun rs hr => ⟨_, rfl, ?_⟩) ?_
  · have t2 := told_rows (by have := o.len rs hr; omega) (h3 rs hr).1 (o.rows rs hr) (h3 rs hr).2
    clear g1 ix0 ct
    repeat' decreasing_trivial_pre_omega
    refine w_of t2 ?_
    clear t2
    repeat' decreasing_trivial_pre_omega
    exact ⟨rfl, rfl⟩
  · repeat' decreasing_trivial_pre_omega
    exact ⟨rfl, rfl⟩
theorem is_book_w {B : Nat} {ks : List (List Pt)} (g : Good B ks) : m_is_book [.v (bkT B ks)] = .ok (.r (.bool true)) [.v (bkT B ks)] := by
  rw [is_book_ok _ (good_few g), good_bk g]
theorem rows3 {B : Nat} {ks : List (List Pt)} (g : Good B ks) : ∀ rs ∈ ksL ks, rs ≠ [] ∧ ∀ r ∈ rs, r.length = 3 := fun rs hr => by
  obtain ⟨ps, h, rfl⟩ := List.mem_map.mp hr
  refine ⟨fun e => ?_, fun r hr => by obtain ⟨p, _, rfl⟩ := List.mem_map.mp hr; rfl⟩
  have := g.len ps h
  have e2 : ps = [] := by simpa using e
  rw [e2] at this
  have := g.N0
  simp at *
  omega
theorem read_book {B : Nat} {ks : List (List Pt)} (g : Good B ks) : m_read_book [.v (.str (bookS B (ksL ks)))] = .ok (.r (bkT B ks)) [.v (.str (bookS B (ksL ks)))] := by
  have s1 := spl_book (okb_of g)
  have t1 := told_book (okb_of g) (rows3 g) 1
  have b1 := is_book_w g
  rw [← bk_book] at t1
  refine w_eq ?_
  unfold m_read_book
  (apply Wp.w_fun; (focus (rfl; done)); (focus (((try simp only [List.cons_append, List.nil_append, List.length_cons, List.length_nil, Nat.reduceAdd, Nat.reduceSub, Nat.zero_add, Nat.sub_zero, List.replicate_succ, List.replicate_zero, List.append_nil]); rfl); done)))
  unfold b_read_book
  repeat' decreasing_trivial_pre_omega
  refine w_of t1 ?_
  clear t1
  repeat' decreasing_trivial_pre_omega
  refine w_of b1 ?_
  clear b1
  repeat' decreasing_trivial_pre_omega
  exact ⟨rfl, rfl⟩
/-! ### fields -/
theorem w_lenset {m : SemE} {Q : Od → En → Prop} {e : En} (h : W (m e) fun r e1 => ∃ ts ns, r.val e1 = some (.list ts) ∧ tupsOf ts = some ns ∧ ns.length < 64 ∧ Q (.r (.int (dd ns).length)) e1) : W (eLenSet m e) Q := by
  unfold eLenSet
  refine w_bind (w_imp h fun r e1 ⟨ts, ns, h1, h2, h3, q⟩ => ?_)
  refine w_of ?_ q
  simp only [h1, h2]
  rw [if_pos h3]
theorem dd_self {α : Type} [DecidableEq α] : ∀ {xs : List α}, xs.Nodup → dd xs = xs
  | [], _ => rfl
  | x :: xs, h => by
    have h := List.nodup_cons.mp h
    unfold dd
    rw [if_neg h.1, dd_self h.2]
theorem tups_c (cs : List (Int × Int)) : tupsOf (cs.map cT) = some (cs.map fun c => [c.1, c.2]) := by
  induction cs with
  | nil => rfl
  | cons c cs ih =>
    rw [List.map_cons]
    show (match intsOf [.int c.1, .int c.2], tupsOf (cs.map cT) with
      | some a, some b => some (a :: b)
      | _, _ => none) = _
    rw [ih]
    rfl
theorem places_row (ps : List Pt) (hl : ps.length ≤ 1000) : m_places_of [.v (kT ps)] = .ok (.b (.l ((ps.map fun p => (p.1, p.2.1)).map cT))) [.v (kT ps)] := by
  have := places_ok (ps.map ptT) (by rw [List.length_map]; unfold sizeLine; omega) fun t ht => by
    obtain ⟨p, _, rfl⟩ := List.mem_map.mp ht
    exact ⟨_, _, _, rfl⟩
  rw [List.map_map] at this
  rw [List.map_map]
  exact this
theorem is_square_w {n : Nat} {p : Pt} (h : (0 ≤ p.1 ∧ p.1 < 10 ^ 40) ∧ (0 ≤ p.2.1 ∧ p.2.1 < 10 ^ 40) ∧ p.2.2 < n) : m__is_square [.v (nT n), .v (ptT p)] = .ok (.r (.bool true)) [.v (nT n), .v (ptT p)] := by
  have c1 := isC_int h.1.1
  have c2 := isC_int h.2.1.1
  have c3 := isI_int (i := (p.2.2 : Int)) (n := (n : Int)) (by omega)
  clear h
  refine w_eq ?_
  unfold m__is_square
  (apply Wp.w_fun; (focus (rfl; done)); (focus (((try simp only [List.cons_append, List.nil_append, List.length_cons, List.length_nil, Nat.reduceAdd, Nat.reduceSub, Nat.zero_add, Nat.sub_zero, List.replicate_succ, List.replicate_zero, List.append_nil]); rfl); done)))
  unfold b__is_square
  repeat' decreasing_trivial_pre_omega
  refine w_of c1 ?_
  clear c1
  repeat' decreasing_trivial_pre_omega
  refine w_of c2 ?_
  clear c2
  repeat' decreasing_trivial_pre_omega
  refine w_of c3 ?_
  clear c3
  repeat' decreasing_trivial_pre_omega
  exact ⟨rfl, rfl⟩
theorem is_field_w {B : Nat} {ks : List (List Pt)} {qs : List Pt} (g : Good B ks) (s : SqOk ks.length qs) : m_is_field [.v (.tuple [bkT B ks, kT qs])] = .ok (.r (.bool true)) [.v (.tuple [bkT B ks, kT qs])] := by
  have b1 := is_book_w g
  have p1 := places_row qs (by have := s.few; omega)
  have g1 := all_tt qs
  have hf := s.few
  have hp := s.pos
  have el : ((ks.map kT).length : Int) = (ks.length : Int) := by rw [List.length_map]
  refine w_eq ?_
  unfold m_is_field
  (apply Wp.w_fun; (focus (rfl; done)); (focus (((try simp only [List.cons_append, List.nil_append, List.length_cons, List.length_nil, Nat.reduceAdd, Nat.reduceSub, Nat.zero_add, Nat.sub_zero, List.replicate_succ, List.replicate_zero, List.append_nil]); rfl); done)))
  unfold b_is_field
  repeat' decreasing_trivial_pre_omega
  refine w_of b1 ?_
  clear b1
  repeat' decreasing_trivial_pre_omega
  refine kif_f (decide_eq_false (by rw [List.length_map]; omega)) ?_
  repeat' decreasing_trivial_pre_omega
  unfold x1_is_field
  repeat' decreasing_trivial_pre_omega
  refine comp_map_w ptT (fun _ => PyData.bool true) qs (by unfold sizeLine; omega) (fun p hp2 => ⟨_, rfl, ?_⟩) ?_
  · have q := is_square_w (s.rng p hp2)
    clear g1 p1
    have gi : gIx (bkT B ks) (.int 1) = some (.r (.tuple (ks.map kT))) := rfl
    repeat' decreasing_trivial_pre_omega
    rw [el]
    refine w_of q ?_
    clear q
    repeat' decreasing_trivial_pre_omega
    exact ⟨rfl, rfl⟩
  · repeat' decreasing_trivial_pre_omega
    refine w_lenset ?_
    repeat' decreasing_trivial_pre_omega
    refine w_of p1 ?_
    clear p1
    repeat' decreasing_trivial_pre_omega
    refine ⟨_, _, rfl, tups_c _, by rw [List.length_map, List.length_map]; omega, ?_⟩
    have e1 : (dd ((qs.map fun p => (p.1, p.2.1)).map fun c => [c.1, c.2])).length = qs.length := by
      rw [dd_self]
      · rw [List.length_map, List.length_map]
      · refine List.Pairwise.map _ (fun a b hab z => hab ?_) s.nod
        simp only [List.cons.injEq, and_true] at z
        exact Prod.ext z.1 z.2
    rw [e1]
    repeat' decreasing_trivial_pre_omega
    refine ⟨?_, rfl⟩
    rw [List.length_map]
    simp
/-- what stands in front of the squares -/
def flS (qs : List Pt) : Str := ("field " : Str) ++ rowsS (qs.map ptL)
theorem sq_ok {n : Nat} {qs : List Pt} (s : SqOk n qs) (hn : n ≤ 100) : ∀ r ∈ qs.map ptL, OkR r := fun r hr => by
  obtain ⟨p, hp, rfl⟩ := List.mem_map.mp hr
  have := s.rng p hp
  exact okr3 (by omega) (by omega) (by omega)
theorem told_squares {n : Nat} {qs : List Pt} (s : SqOk n qs) (hn : n ≤ 100) : m__told_squares [.v (.str (flS qs))] = .ok (.r (kT qs)) [.v (.str (flS qs))] := by
  have hr := sq_ok s hn
  have hl : (qs.map ptL).length ≤ 20 := by rw [List.length_map]; exact s.few
  have f1 : fStarts (flS qs) "field " = some (.r (.bool true)) := by unfold fStarts flS; rw [starts_a]
  have f2 : L2.cutS (flS qs) (some 6) none = rowsS (qs.map ptL) := cut_app _ _ 6 l_field
  have f3 : (flS qs).length ≤ sizeLine := by
    have := rowsS_len hl hr
    unfold flS sizeLine
    rw [app_len, l_field]
    omega
  have f4 := told_rows hl (fun e => by
    have h0 := s.pos
    have e2 : qs = [] := by simpa using e
    rw [e2] at h0
    exact absurd h0 (by simp)) hr fun r hr => by obtain ⟨p, _, rfl⟩ := List.mem_map.mp hr; rfl
  rw [← kT_rows] at f4
  clear hr
  refine w_eq ?_
  unfold m__told_squares
  (apply Wp.w_fun; (focus (rfl; done)); (focus (((try simp only [List.cons_append, List.nil_append, List.length_cons, List.length_nil, Nat.reduceAdd, Nat.reduceSub, Nat.zero_add, Nat.sub_zero, List.replicate_succ, List.replicate_zero, List.append_nil]); rfl); done)))
  unfold b__told_squares
  repeat' decreasing_trivial_pre_omega
  rw [f2]
  refine w_of f4 ?_
  clear f4
  repeat' decreasing_trivial_pre_omega
  exact ⟨rfl, rfl⟩
theorem read_field {B : Nat} {ks : List (List Pt)} {qs : List Pt} (g : Good B ks) (s : SqOk ks.length qs) : m_read_field [.v (.str (fieldS B (ksL ks) (qs.map ptL)))] = .ok (.r (.tuple [bkT B ks, kT qs])) [.v (.str (fieldS B (ksL ks) (qs.map ptL)))] := by
  have hk : ks.length ≤ 100 := by have := g.few; omega
  have s1 := spl_field (okb_of g) (by rw [List.length_map]; exact s.few) (sq_ok s hk)
  have t1 := told_squares s hk
  have t2 := told_book (okb_of g) (rows3 g) 2
  have b1 := is_field_w g s
  rw [← bk_book] at t2
  have ix0 : gIx (.list ((flS qs :: lineS B :: (ksL ks).map rowsS).map PyData.str)) (.int 0) = some (.r (.str (flS qs))) := ix_list _ 0 _ rfl
  have ct : cutT ((flS qs :: lineS B :: (ksL ks).map rowsS).map PyData.str) (some 1) none = (lineS B :: (ksL ks).map rowsS).map PyData.str := by
    have := cut_drop ((flS qs :: lineS B :: (ksL ks).map rowsS).map PyData.str) 0
    rw [show ((0 : Nat) : Int) + 1 = 1 from rfl] at this
    rw [this]
    rfl
  have hlen : ((flS qs :: lineS B :: (ksL ks).map rowsS).map PyData.str).length = ks.length + 2 := by unfold ksL; simp
  rw [show ((("field " : Str) ++ rowsS (qs.map ptL)) :: lineS B :: (ksL ks).map rowsS) = (flS qs :: lineS B :: (ksL ks).map rowsS) from rfl] at s1
  generalize hL : (flS qs :: lineS B :: (ksL ks).map rowsS).map PyData.str = L at ix0 ct hlen s1
  generalize hM : (lineS B :: (ksL ks).map rowsS).map PyData.str = M at ct t2
  clear hL hM
  refine w_eq ?_
  unfold m_read_field
  (apply Wp.w_fun; (focus (rfl; done)); (focus (((try simp only [List.cons_append, List.nil_append, List.length_cons, List.length_nil, Nat.reduceAdd, Nat.reduceSub, Nat.zero_add, Nat.sub_zero, List.replicate_succ, List.replicate_zero, List.append_nil]); rfl); done)))
  unfold b_read_field
  repeat' decreasing_trivial_pre_omega
  refine w_of t1 ?_
  clear t1
  repeat' decreasing_trivial_pre_omega
  refine kif_f (decide_eq_false (by rw [hlen]; omega)) ?_
  repeat' decreasing_trivial_pre_omega
  rw [ct]
  refine w_of t2 ?_
  clear t2
  repeat' decreasing_trivial_pre_omega
  refine w_of b1 ?_
  clear b1
  repeat' decreasing_trivial_pre_omega
  exact ⟨rfl, rfl⟩
end Lw

set_option linter.all false
set_option maxRecDepth 100000
set_option maxHeartbeats 4000000
namespace Lw
open PySem PySem.Spec Ev Pu Mt Wp
local macro_rules | `(tactic| decreasing_trivial_pre_omega) => `(tactic| (first | with_reducible apply Wp.w_seq | with_reducible apply Wp.w_drop | with_reducible apply Wp.w_if | with_reducible apply Wp.w_set | with_reducible apply Wp.w_ret | with_reducible apply Wp.w_asg | with_reducible apply Wp.w_par | with_reducible apply Wp.w_op2 | with_reducible apply Wp.w_acons | with_reducible apply Wp.w_fng | with_reducible apply Wp.w_tup | with_reducible apply Wp.w_lst | with_reducible apply Wp.w_call | with_reducible apply Wp.w_callk | with_reducible apply Wp.w_eand | with_reducible apply Wp.w_eor | with_reducible apply Wp.w_enot | with_reducible apply Wp.w_eif | with_reducible apply Wp.w_tb | with_reducible apply Wp.w_tnot | with_reducible apply Wp.w_tand | with_reducible apply Wp.w_tor | with_reducible apply Wp.w_neg | with_reducible apply Wp.w_isi | with_reducible apply Wp.w_sl | with_reducible apply Wp.w_pso | with_reducible apply Wp.w_rev | with_reducible apply Wp.w_index | with_reducible apply Wp.w_for | with_reducible apply Wp.w_iof | with_reducible apply Wp.w_r1 | with_reducible apply Wp.w_r2 | with_reducible apply Wp.w_comp | with_reducible apply Wp.w_compG | with_reducible apply Wp.w_izip | with_reducible apply Wp.w_izip2 | with_reducible apply Wp.w_ienu | with_reducible apply Wp.w_setix | with_reducible apply Wp.w_join | with_reducible apply Wp.kjoin1 | with_reducible apply Wp.w_fmt | with_reducible apply Wp.w_js_nil | with_reducible apply Wp.w_js | with_reducible apply Wp.w_dictp | with_reducible apply Wp.w_putS | with_reducible apply Wp.putS_nil | with_reducible apply Wp.w_r2w | with_reducible apply Wp.w_nil | with_reducible apply Wp.w_brk | with_reducible apply Wp.w_cnt | with_reducible apply Wp.w_retN | with_reducible apply Wp.w_k | with_reducible apply Wp.w_anil | with_reducible apply Wp.w_pno | with_reducible apply Wp.w_true | with_reducible apply Wp.w_rep | with_reducible apply Wp.krep1 | with_reducible apply Wp.w_mdict1 | with_reducible apply Wp.w_mnew | with_reducible apply Wp.w_min | with_reducible apply Wp.w_mput | with_reducible apply Wp.w_dput | with_reducible apply Wp.kmd1 | with_reducible apply Wp.ksl_ | with_reducible apply Wp.ksl1 | with_reducible apply Wp.ktwo1 | with_reducible apply Wp.kcons1 | with_reducible apply Wp.kseq_rt | with_reducible apply Wp.kseq_bk | with_reducible apply Wp.kseq_ct | with_reducible apply Wp.kret_r | with_reducible apply Wp.kret_b | with_reducible apply Wp.ktb | with_reducible apply Wp.kfun_rt | with_reducible apply Wp.kfun_nx | with_reducible apply Wp.kturn_nx | with_reducible apply Wp.kturn_ct | with_reducible apply Wp.kturn_rt | with_reducible apply Wp.kturn_bk | with_reducible apply Wp.w_sm1 | with_reducible apply Wp.w_sm0 | with_reducible apply Wp.w_slS | with_reducible apply Wp.ksm1 | with_reducible apply Wp.ksls1 | with_reducible apply Wp.ksls2 | ((with_reducible apply Wp.kseq_nx_n); (focus (((try simp only [Ev.wb, Ev.bk, List.set_cons_zero, List.set_cons_succ, List.getElem?_cons_zero, List.getElem?_cons_succ, List.cons_append, List.nil_append, List.append_nil]); rfl); done))) | ((with_reducible apply Wp.kback_r_n); (focus (((try simp only [Ev.wb, Ev.bk, List.set_cons_zero, List.set_cons_succ, List.getElem?_cons_zero, List.getElem?_cons_succ, List.cons_append, List.nil_append, List.append_nil]); rfl); done))) | ((with_reducible apply Wp.kback_b_n); (focus (((try simp only [Ev.wb, Ev.bk, List.set_cons_zero, List.set_cons_succ, List.getElem?_cons_zero, List.getElem?_cons_succ, List.cons_append, List.nil_append, List.append_nil]); rfl); done))) | ((with_reducible apply Wp.w_var_v); (focus (rfl; done))) | ((with_reducible apply Wp.w_var_o); (focus (rfl; done))) | ((with_reducible apply Wp.w_var_f); (focus (rfl; done))) | ((with_reducible apply Wp.kset_r); (focus (exact (by first | rfl | exact Wp.isLent_of rfl (by assumption)); done))) | ((with_reducible apply Wp.kset_b); (focus (exact (by first | rfl | exact Wp.isLent_of rfl (by assumption)); done))) | ((with_reducible apply Wp.kset_s); (focus (exact (by first | rfl | exact Wp.isLent_of rfl (by assumption)); done)); (focus (rfl; done))) | ((with_reducible apply Wp.kret_so); (focus (rfl; done))) | ((with_reducible apply Wp.kasg); (focus (rfl; done)); (focus ((first | rfl | (repeat' (first | refine Wp.gN_ok (by first | rfl | exact Wp.isLent_of rfl (by assumption)) rfl | refine Wp.gsNil_ok rfl | with_reducible apply Wp.gsCons_ok | apply Wp.gT_ok rfl))); done))) | ((with_reducible apply Wp.kpar); (focus (rfl; done)); (focus ((repeat (first | refine Wp.setOs_nil rfl | (apply Wp.setOs_r; (focus exact (by first | rfl | exact Wp.isLent_of rfl (by assumption)))) | (apply Wp.setOs_b; (focus exact (by first | rfl | exact Wp.isLent_of rfl (by assumption)))))); done))) | ((with_reducible apply Wp.ktwo2); (focus (rfl; done)); (focus (rfl; done)); (focus ((first | with_reducible assumption | with_reducible exact Wp.gEq_e _ _ | with_reducible exact Wp.gEq_n _ _ | with_reducible exact Wp.gEq_i _ _ _ | exact Wp.gAppend_ok (by assumption) | exact Wp.gIx_l (by assumption) | exact Wp.gIx_t (by assumption) | exact Wp.gStr_ok (by assumption) | exact Ev.gLenS_ok (by assumption) | exact Wp.gAdd_ss (by assumption) | exact Ev.gMulX_ok (by assumption) | exact Wp.gAdd_tt (by assumption) | exact Wp.gAdd_ll (by assumption) | exact Wp.gMul_ok (by assumption) | exact Wp.gMod_ok (by assumption) | exact Wp.gDiv_ok (by assumption) (by assumption) | rfl | assumption | exact Ev.gPowW_ok (by assumption)); done))) | ((with_reducible apply Wp.kfng); (focus (rfl; done)); (focus ((first | with_reducible assumption | with_reducible exact Wp.gEq_e _ _ | with_reducible exact Wp.gEq_n _ _ | with_reducible exact Wp.gEq_i _ _ _ | exact Wp.gAppend_ok (by assumption) | exact Wp.gIx_l (by assumption) | exact Wp.gIx_t (by assumption) | exact Wp.gStr_ok (by assumption) | exact Ev.gLenS_ok (by assumption) | exact Wp.gAdd_ss (by assumption) | exact Ev.gMulX_ok (by assumption) | exact Wp.gAdd_tt (by assumption) | exact Wp.gAdd_ll (by assumption) | exact Wp.gMul_ok (by assumption) | exact Wp.gMod_ok (by assumption) | exact Wp.gDiv_ok (by assumption) (by assumption) | rfl | assumption | exact Ev.gPowW_ok (by assumption)); done))) | ((with_reducible apply Wp.kdisp_t); (focus (rfl; done)); (focus (rfl; done))) | ((with_reducible apply Wp.kdisp_l); (focus (rfl; done)); (focus (rfl; done))) | ((with_reducible apply Wp.kcall); (focus (rfl; done)); (focus (rfl; done)); (focus (exact of_decide_eq_true rfl; done))) | ((with_reducible apply Wp.kcallk); (focus (decide; done)); (focus (exact ⟨rfl, rfl⟩; done)); (focus (rfl; done)); (focus (exact of_decide_eq_true rfl; done))) | ((with_reducible apply Wp.w_mut); (focus (rfl; done))) | ((with_reducible apply Wp.kmut2); (focus (rfl; done)); (focus (rfl; done)); (focus ((first | with_reducible assumption | with_reducible exact Wp.gEq_e _ _ | with_reducible exact Wp.gEq_n _ _ | with_reducible exact Wp.gEq_i _ _ _ | exact Wp.gAppend_ok (by assumption) | exact Wp.gIx_l (by assumption) | exact Wp.gIx_t (by assumption) | exact Wp.gStr_ok (by assumption) | exact Ev.gLenS_ok (by assumption) | exact Wp.gAdd_ss (by assumption) | exact Ev.gMulX_ok (by assumption) | exact Wp.gAdd_tt (by assumption) | exact Wp.gAdd_ll (by assumption) | exact Wp.gMul_ok (by assumption) | exact Wp.gMod_ok (by assumption) | exact Wp.gDiv_ok (by assumption) (by assumption) | rfl | assumption | exact Ev.gPowW_ok (by assumption)); done))) | ((with_reducible apply Wp.kif_t); (focus (rfl; done))) | ((with_reducible apply Wp.kif_f); (focus (rfl; done))) | ((with_reducible apply Wp.kif_t); (focus (assumption; done))) | ((with_reducible apply Wp.kif_f); (focus (assumption; done))) | ((with_reducible apply Wp.kife_t); (focus (rfl; done))) | ((with_reducible apply Wp.kife_f); (focus (rfl; done))) | ((with_reducible apply Wp.kand_t); (focus (rfl; done))) | ((with_reducible apply Wp.kand_f); (focus (rfl; done))) | ((with_reducible apply Wp.kor_t); (focus (rfl; done))) | ((with_reducible apply Wp.kor_f); (focus (rfl; done))) | ((with_reducible apply Wp.kande_t); (focus (rfl; done))) | ((with_reducible apply Wp.kande_f); (focus (rfl; done))) | ((with_reducible apply Wp.kore_t); (focus (rfl; done))) | ((with_reducible apply Wp.kore_f); (focus (rfl; done))) | ((with_reducible apply Wp.ktb_s); (focus (rfl; done))) | ((with_reducible apply Wp.kneg); (focus (rfl; done))) | ((with_reducible apply Wp.kisi); (focus (rfl; done))) | ((with_reducible apply Wp.kpso); (focus (rfl; done))) | ((with_reducible apply Wp.kof_l); (focus (rfl; done))) | ((with_reducible apply Wp.kof_t); (focus (rfl; done))) | ((with_reducible apply Wp.krev_l); (focus (rfl; done))) | ((with_reducible apply Wp.krev_t); (focus (rfl; done))) | ((with_reducible apply Wp.kindex1_); (focus (rfl; done))) | ((with_reducible apply Wp.kjoin2); (focus (rfl; done)); (focus (assumption; done)); (focus (assumption; done))) | ((with_reducible apply Wp.kfmt_s); (focus (rfl; done)); (focus (assumption; done))) | ((with_reducible apply Wp.kfmt_i); (focus (rfl; done)); (focus (assumption; done))) | ((with_reducible apply Wp.kjs); (focus (assumption; done))) | ((with_reducible apply Wp.ksl2_l); (focus (rfl; done))) | ((with_reducible apply Wp.ksl2_t); (focus (rfl; done))) | ((with_reducible apply Wp.w_mget); (focus (rfl; done))) | ((with_reducible apply Wp.kmget); (focus (rfl; done)); (focus (rfl; done)); (focus (rfl; done)); (focus (assumption; done))) | ((with_reducible apply Wp.kmin); (focus (rfl; done)); (focus (rfl; done)); (focus (rfl; done)); (focus (assumption; done))) | ((with_reducible apply Wp.kmput1); (focus (rfl; done))) | ((with_reducible apply Wp.kmput2); (focus (rfl; done)); (focus (rfl; done)); (focus (rfl; done)); (focus (rfl; done)); (focus (assumption; done))) | ((with_reducible apply Wp.kmd2); (focus (rfl; done)); (focus (rfl; done))) | ((with_reducible apply Wp.w_dget); (focus (rfl; done))) | ((with_reducible apply Wp.kdget); (focus (rfl; done)); (focus (rfl; done)); (focus (rfl; done)); (focus (assumption; done))) | ((with_reducible apply Wp.kdput1); (focus (rfl; done))) | ((with_reducible apply Wp.kdput2); (focus (rfl; done)); (focus (rfl; done)); (focus (rfl; done)); (focus (rfl; done)); (focus (assumption; done))) | ((with_reducible apply Wp.ksetix1); (focus (rfl; done))) | ((with_reducible apply Wp.ksetix2); (focus (rfl; done)); (focus (rfl; done)); (focus (rfl; done)); (focus ((first | rfl | assumption | exact Wp.ixN_nat (by assumption)); done))) | ((with_reducible apply Wp.kdictp); (focus (rfl; done)); (focus (assumption; done))) | ((with_reducible apply Wp.kputS); (focus (rfl; done)); (focus (rfl; done)); (focus (rfl; done))) | ((with_reducible apply Wp.putS_l); (focus (rfl; done))) | ((with_reducible apply Wp.putS_d); (focus (rfl; done))) | ((with_reducible apply Wp.kputL); (focus (rfl; done)); (focus (rfl; done)); (focus ((first | rfl | assumption | exact Wp.ixN_nat (by assumption)); done))) | ((with_reducible apply Wp.kputD); (focus (rfl; done)); (focus (rfl; done)); (focus (rfl; done)); (focus (assumption; done))) | ((with_reducible apply Wp.kr2w); (focus (rfl; done))) | ((with_reducible apply Wp.kzip); (focus (rfl; done))) | ((with_reducible apply Wp.w_inmG); (focus (rfl; done)); (focus (rfl; done))) | ((with_reducible apply Wp.w_izipV_l); (focus (rfl; done)); (focus (rfl; done)); (focus (rfl; done)); (focus (rfl; done))) | ((with_reducible apply Wp.w_izipV_r); (focus (rfl; done)); (focus (rfl; done)); (focus (rfl; done)); (focus (rfl; done))) | ((with_reducible apply Wp.kzip2_l); (focus (rfl; done))) | ((with_reducible apply Wp.kzip2_t); (focus (rfl; done))) | ((with_reducible apply Wp.kenu); (focus (rfl; done))) | ((with_reducible apply Wp.w_aug); (focus (rfl; done))) | ((with_reducible apply Wp.kaug); (focus (rfl; done)); (focus ((first | with_reducible assumption | with_reducible exact Wp.gEq_e _ _ | with_reducible exact Wp.gEq_n _ _ | with_reducible exact Wp.gEq_i _ _ _ | exact Wp.gAppend_ok (by assumption) | exact Wp.gIx_l (by assumption) | exact Wp.gIx_t (by assumption) | exact Wp.gStr_ok (by assumption) | exact Ev.gLenS_ok (by assumption) | exact Wp.gAdd_ss (by assumption) | exact Ev.gMulX_ok (by assumption) | exact Wp.gAdd_tt (by assumption) | exact Wp.gAdd_ll (by assumption) | exact Wp.gMul_ok (by assumption) | exact Wp.gMod_ok (by assumption) | exact Wp.gDiv_ok (by assumption) (by assumption) | rfl | assumption | exact Ev.gPowW_ok (by assumption)); done)); (focus (exact (by first | rfl | exact Wp.isLent_of rfl (by assumption)); done))) | ((with_reducible apply Wp.kelt); (focus (rfl; done))) | ((with_reducible apply Wp.ksm1b); (focus ((first | assumption | rfl); done))) | ((with_reducible apply Wp.ksm0); (focus ((first | assumption | rfl); done))) | ((with_reducible apply Wp.ksls3); (focus (assumption; done)))))
/-! ### a tree is the same as itself -/
theorem same_s (y : Str) (hy : PyData.strOk y = true) : m__law_same 8 [.v (.str y), .v (.str y)] = .ok (.r (.bool true)) [.v (.str y), .v (.str y)] := by
  have g := gEq_str id hy hy
  refine w_eq ?_
  rw [m__law_same]
  (apply Wp.w_fun; (focus (rfl; done)); (focus (((try simp only [List.cons_append, List.nil_append, List.length_cons, List.length_nil, Nat.reduceAdd, Nat.reduceSub, Nat.zero_add, Nat.sub_zero, List.replicate_succ, List.replicate_zero, List.append_nil]); rfl); done)))
  repeat' decreasing_trivial_pre_omega
  refine ⟨?_, rfl⟩
  show Od.r (.bool (y == y)) = _
  rw [beq_self_eq_true]
theorem same_t : ∀ (n : Nat) (t : T), Pl n t → ∀ fuel, n < fuel → m__law_same fuel [.v t, .v t] = .ok (.r (.bool true)) [.v t, .v t] := by
  intro n t h
  induction h with
  | int n i =>
    intro fuel hf
    obtain ⟨f, rfl⟩ : ∃ f, fuel = f + 1 := ⟨fuel - 1, by omega⟩
    refine w_eq ?_
    rw [m__law_same]
    (apply Wp.w_fun; (focus (rfl; done)); (focus (((try simp only [List.cons_append, List.nil_append, List.length_cons, List.length_nil, Nat.reduceAdd, Nat.reduceSub, Nat.zero_add, Nat.sub_zero, List.replicate_succ, List.replicate_zero, List.append_nil]); rfl); done)))
    repeat' decreasing_trivial_pre_omega
    exact ⟨by simp, rfl⟩
  | @tup n xs h hl ih =>
    intro fuel hf
    obtain ⟨f, rfl⟩ : ∃ f, fuel = f + 1 := ⟨fuel - 1, by omega⟩
    have g := all_tt (List.range xs.length)
    refine w_eq ?_
    rw [m__law_same]
    (apply Wp.w_fun; (focus (rfl; done)); (focus (((try simp only [List.cons_append, List.nil_append, List.length_cons, List.length_nil, Nat.reduceAdd, Nat.reduceSub, Nat.zero_add, Nat.sub_zero, List.replicate_succ, List.replicate_zero, List.append_nil]); rfl); done)))
    repeat' decreasing_trivial_pre_omega
    refine kande_t (by simp) ?_
    unfold x1__law_same
    repeat' decreasing_trivial_pre_omega
    refine kr1_eq xs.length rfl rfl (by omega) ?_
    unfold below
    refine comp_map_w (fun (k : Nat) => PyData.int (k : Int)) (fun _ => PyData.bool true) (List.range xs.length) (by rw [List.length_range]; unfold sizeLine; omega) (fun k hk => ⟨_, rfl, ?_⟩) ?_
    · have hk := List.mem_range.mp hk
      have q1 := List.getElem?_eq_getElem hk
      have q2 := ih _ (List.getElem_mem hk) f (by omega)
      generalize xs[k] = x at q1 q2
      clear g ih h
      repeat' decreasing_trivial_pre_omega
      refine w_of q2 ?_
      repeat' decreasing_trivial_pre_omega
      exact ⟨rfl, rfl⟩
    · clear ih h
      repeat' decreasing_trivial_pre_omega
      exact ⟨rfl, rfl⟩
  | @lst n xs h hl ih =>
    intro fuel hf
    obtain ⟨f, rfl⟩ : ∃ f, fuel = f + 1 := ⟨fuel - 1, by omega⟩
    have g := all_tt (List.range xs.length)
    refine w_eq ?_
    rw [m__law_same]
    (apply Wp.w_fun; (focus (rfl; done)); (focus (((try simp only [List.cons_append, List.nil_append, List.length_cons, List.length_nil, Nat.reduceAdd, Nat.reduceSub, Nat.zero_add, Nat.sub_zero, List.replicate_succ, List.replicate_zero, List.append_nil]); rfl); done)))
    repeat' decreasing_trivial_pre_omega
    refine kande_t (by simp) ?_
    unfold x1__law_same
    repeat' decreasing_trivial_pre_omega
    refine kr1_eq xs.length rfl rfl (by omega) ?_
    unfold below
    refine comp_map_w (fun (k : Nat) => PyData.int (k : Int)) (fun _ => PyData.bool true) (List.range xs.length) (by rw [List.length_range]; unfold sizeLine; omega) (fun k hk => ⟨_, rfl, ?_⟩) ?_
    · have hk := List.mem_range.mp hk
      have q1 := List.getElem?_eq_getElem hk
      have q2 := ih _ (List.getElem_mem hk) f (by omega)
      generalize xs[k] = x at q1 q2
      clear g ih h
      repeat' decreasing_trivial_pre_omega
      refine w_of q2 ?_
      repeat' decreasing_trivial_pre_omega
      exact ⟨rfl, rfl⟩
    · clear ih h
      repeat' decreasing_trivial_pre_omega
      exact ⟨rfl, rfl⟩
/-! ### things and their texts -/
structure Dn (k : Nat) (t : T) (y : Str) : Prop where
  rd : ∀ n : Bool, m__law_read [.v (nT k), .v (.str y), .v (.bool n)] = .ok (.r t) [.v (nT k), .v (.str y), .v (.bool n)]
  sh : m__law_shown [.v (nT k), .v t] = .ok (.r (.str y)) [.v (nT k), .v t]
  pl : Pl 6 t
  fit : y.length ≤ sizeLine
  ok : PyData.strOk y = true
theorem rowT_pl {r : List Int} (h : OkR r) : Pl 1 (rowT r) := .tup (fun x hx => by obtain ⟨i, _, rfl⟩ := List.mem_map.mp hx; exact .int _ _) (by have := h.len; rw [List.length_map]; omega)
theorem rowsT_pl {rs : List (List Int)} (hl : rs.length ≤ 20) (h : ∀ r ∈ rs, OkR r) : Pl 2 (rowsT rs) := .tup (fun x hx => by obtain ⟨r, hr, rfl⟩ := List.mem_map.mp hx; exact rowT_pl (h r hr)) (by rw [List.length_map]; omega)
theorem dn0 {a b : Int} (h : OkR [a, b]) : Dn 0 (rowT [a, b]) (rowS [a, b]) := by
  have t1 := read_cell h rfl
  have t2 := show_cell h
  refine ⟨fun n => ?_, ?_, pl_mono (rowT_pl h) 6 (by omega), fit_row h, ok_row _⟩
  · clear t2 h
    refine w_eq ?_
    unfold m__law_read
    (apply Wp.w_fun; (focus (rfl; done)); (focus (((try simp only [List.cons_append, List.nil_append, List.length_cons, List.length_nil, Nat.reduceAdd, Nat.reduceSub, Nat.zero_add, Nat.sub_zero, List.replicate_succ, List.replicate_zero, List.append_nil]); rfl); done)))
    unfold b__law_read
    repeat' decreasing_trivial_pre_omega
    cases n with
    | true =>
      repeat' decreasing_trivial_pre_omega
      refine w_of t1 ?_
      clear t1
      repeat' decreasing_trivial_pre_omega
      exact ⟨rfl, rfl⟩
    | false =>
      repeat' decreasing_trivial_pre_omega
      refine w_of t1 ?_
      clear t1
      repeat' decreasing_trivial_pre_omega
      exact ⟨rfl, rfl⟩
  · clear t1 h
    refine w_eq ?_
    unfold m__law_shown
    (apply Wp.w_fun; (focus (rfl; done)); (focus (((try simp only [List.cons_append, List.nil_append, List.length_cons, List.length_nil, Nat.reduceAdd, Nat.reduceSub, Nat.zero_add, Nat.sub_zero, List.replicate_succ, List.replicate_zero, List.append_nil]); rfl); done)))
    unfold b__law_shown
    repeat' decreasing_trivial_pre_omega
    refine w_of t2 ?_
    clear t2
    repeat' decreasing_trivial_pre_omega
    exact ⟨rfl, rfl⟩
theorem dn1 {a b c d : Int} (h : OkR [a, b, c, d]) (h1 : a < c) (h2 : b < d) : Dn 1 (rowT [a, b, c, d]) (rowS [a, b, c, d]) := by
  have t1 := read_box h h1 h2
  have t2 := show_box h
  have pl := pl_mono (rowT_pl h) 6 (by omega)
  have ft := fit_row h
  refine ⟨fun n => ?_, ?_, pl, ft, ok_row _⟩
  · clear t2
    refine w_eq ?_
    unfold m__law_read
    (apply Wp.w_fun; (focus (rfl; done)); (focus (((try simp only [List.cons_append, List.nil_append, List.length_cons, List.length_nil, Nat.reduceAdd, Nat.reduceSub, Nat.zero_add, Nat.sub_zero, List.replicate_succ, List.replicate_zero, List.append_nil]); rfl); done)))
    unfold b__law_read
    repeat' decreasing_trivial_pre_omega
    cases n with
    | true =>
      repeat' decreasing_trivial_pre_omega
      refine w_of t1 ?_
      clear t1
      repeat' decreasing_trivial_pre_omega
      exact ⟨rfl, rfl⟩
    | false =>
      repeat' decreasing_trivial_pre_omega
      refine w_of t1 ?_
      clear t1
      repeat' decreasing_trivial_pre_omega
      exact ⟨rfl, rfl⟩
  · clear t1
    refine w_eq ?_
    unfold m__law_shown
    (apply Wp.w_fun; (focus (rfl; done)); (focus (((try simp only [List.cons_append, List.nil_append, List.length_cons, List.length_nil, Nat.reduceAdd, Nat.reduceSub, Nat.zero_add, Nat.sub_zero, List.replicate_succ, List.replicate_zero, List.append_nil]); rfl); done)))
    unfold b__law_shown
    repeat' decreasing_trivial_pre_omega
    refine w_of t2 ?_
    clear t2
    repeat' decreasing_trivial_pre_omega
    exact ⟨rfl, rfl⟩
theorem dn2 {ps : List (Int × Int)} (o : OkS ps) : Dn 2 (spansT ps) (spansS ps) := by
  have t1 := read_spans o
  have t2 := show_spans o.few o.ok
  have pl := (show Pl 6 (spansT ps) from .tup (fun x hx => by obtain ⟨p, _, rfl⟩ := List.mem_map.mp hx; exact pl_mono (pl_cT p) 5 (by omega)) (by have := o.few; rw [List.length_map]; omega))
  have ft := fit_spans o.few o.ok
  refine ⟨fun n => ?_, ?_, pl, ft, ok_spans _⟩
  · clear t2
    refine w_eq ?_
    unfold m__law_read
    (apply Wp.w_fun; (focus (rfl; done)); (focus (((try simp only [List.cons_append, List.nil_append, List.length_cons, List.length_nil, Nat.reduceAdd, Nat.reduceSub, Nat.zero_add, Nat.sub_zero, List.replicate_succ, List.replicate_zero, List.append_nil]); rfl); done)))
    unfold b__law_read
    repeat' decreasing_trivial_pre_omega
    cases n with
    | true =>
      repeat' decreasing_trivial_pre_omega
      refine w_of t1 ?_
      clear t1
      repeat' decreasing_trivial_pre_omega
      exact ⟨rfl, rfl⟩
    | false =>
      repeat' decreasing_trivial_pre_omega
      refine w_of t1 ?_
      clear t1
      repeat' decreasing_trivial_pre_omega
      exact ⟨rfl, rfl⟩
  · clear t1
    refine w_eq ?_
    unfold m__law_shown
    (apply Wp.w_fun; (focus (rfl; done)); (focus (((try simp only [List.cons_append, List.nil_append, List.length_cons, List.length_nil, Nat.reduceAdd, Nat.reduceSub, Nat.zero_add, Nat.sub_zero, List.replicate_succ, List.replicate_zero, List.append_nil]); rfl); done)))
    unfold b__law_shown
    repeat' decreasing_trivial_pre_omega
    refine w_of t2 ?_
    clear t2
    repeat' decreasing_trivial_pre_omega
    exact ⟨rfl, rfl⟩
theorem dn3 {rs : List (List Int)} (hl : rs.length = 4 ∨ rs.length = 9) (h : ∀ r ∈ rs, OkR r) (ht : ∀ r ∈ rs, OkT r) : Dn 3 (rowsT rs) (rowsS rs) := by
  have t1 := read_make hl h ht
  have t2 := show_make (show rs.length ≤ 20 by omega) h
  have pl := pl_mono (rowsT_pl (show rs.length ≤ 20 by omega) h) 6 (by omega)
  have ft := fit_rows (show rs.length ≤ 20 by omega) h
  refine ⟨fun n => ?_, ?_, pl, ft, ok_rows _⟩
  · clear t2
    refine w_eq ?_
    unfold m__law_read
    (apply Wp.w_fun; (focus (rfl; done)); (focus (((try simp only [List.cons_append, List.nil_append, List.length_cons, List.length_nil, Nat.reduceAdd, Nat.reduceSub, Nat.zero_add, Nat.sub_zero, List.replicate_succ, List.replicate_zero, List.append_nil]); rfl); done)))
    unfold b__law_read
    repeat' decreasing_trivial_pre_omega
    cases n with
    | true =>
      repeat' decreasing_trivial_pre_omega
      refine w_of t1 ?_
      clear t1
      repeat' decreasing_trivial_pre_omega
      exact ⟨rfl, rfl⟩
    | false =>
      repeat' decreasing_trivial_pre_omega
      refine w_of t1 ?_
      clear t1
      repeat' decreasing_trivial_pre_omega
      exact ⟨rfl, rfl⟩
  · clear t1
    refine w_eq ?_
    unfold m__law_shown
    (apply Wp.w_fun; (focus (rfl; done)); (focus (((try simp only [List.cons_append, List.nil_append, List.length_cons, List.length_nil, Nat.reduceAdd, Nat.reduceSub, Nat.zero_add, Nat.sub_zero, List.replicate_succ, List.replicate_zero, List.append_nil]); rfl); done)))
    unfold b__law_shown
    repeat' decreasing_trivial_pre_omega
    refine w_of t2 ?_
    clear t2
    repeat' decreasing_trivial_pre_omega
    exact ⟨rfl, rfl⟩
theorem dn4 {B : Nat} {ks : List (List Pt)} (g : Good B ks) : Dn 4 (bkT B ks) (bookS B (ksL ks)) := by
  have t1 := read_book g
  have t2 := (by rw [bk_book]; exact show_book (okb_of g) : m_show_book [.v (bkT B ks)] = .ok (.r (.str (bookS B (ksL ks)))) [.v (bkT B ks)])
  have pl := pl_mono (pl_bkT g) 6 (by omega)
  have ft := fit_book (okb_of g)
  refine ⟨fun n => ?_, ?_, pl, ft, ok_book _ _⟩
  · clear t2
    refine w_eq ?_
    unfold m__law_read
    (apply Wp.w_fun; (focus (rfl; done)); (focus (((try simp only [List.cons_append, List.nil_append, List.length_cons, List.length_nil, Nat.reduceAdd, Nat.reduceSub, Nat.zero_add, Nat.sub_zero, List.replicate_succ, List.replicate_zero, List.append_nil]); rfl); done)))
    unfold b__law_read
    repeat' decreasing_trivial_pre_omega
    cases n with
    | true =>
      repeat' decreasing_trivial_pre_omega
      refine w_of t1 ?_
      clear t1
      repeat' decreasing_trivial_pre_omega
      exact ⟨rfl, rfl⟩
    | false =>
      repeat' decreasing_trivial_pre_omega
      refine w_of t1 ?_
      clear t1
      repeat' decreasing_trivial_pre_omega
      exact ⟨rfl, rfl⟩
  · clear t1
    refine w_eq ?_
    unfold m__law_shown
    (apply Wp.w_fun; (focus (rfl; done)); (focus (((try simp only [List.cons_append, List.nil_append, List.length_cons, List.length_nil, Nat.reduceAdd, Nat.reduceSub, Nat.zero_add, Nat.sub_zero, List.replicate_succ, List.replicate_zero, List.append_nil]); rfl); done)))
    unfold b__law_shown
    repeat' decreasing_trivial_pre_omega
    refine w_of t2 ?_
    clear t2
    repeat' decreasing_trivial_pre_omega
    exact ⟨rfl, rfl⟩
theorem kT_pl {qs : List Pt} (hl : qs.length ≤ 100) : Pl 5 (kT qs) := .tup (fun x hx => by obtain ⟨p, _, rfl⟩ := List.mem_map.mp hx; exact pl_mono (pl_ptT p) 4 (by omega)) (by rw [List.length_map]; omega)
theorem fld_eq (B : Nat) (ks : List (List Pt)) (qs : List Pt) : PyData.tuple [bkT B ks, kT qs] = fieldT B (ksL ks) (qs.map ptL) := by unfold fieldT; rw [← bk_book, ← kT_rows]
theorem dn5 {B : Nat} {ks : List (List Pt)} {qs : List Pt} (g : Good B ks) (s : SqOk ks.length qs) : Dn 5 (.tuple [bkT B ks, kT qs]) (fieldS B (ksL ks) (qs.map ptL)) := by
  have t1 := read_field g s
  have t2 := (by rw [fld_eq]; exact show_field (okb_of g) (by rw [List.length_map]; exact s.few) (sq_ok s (by have := g.few; omega)) : m_show_field [.v (.tuple [bkT B ks, kT qs])] = .ok (.r (.str (fieldS B (ksL ks) (qs.map ptL)))) [.v (.tuple [bkT B ks, kT qs])])
  have pl := (show Pl 6 (.tuple [bkT B ks, kT qs]) from .tup (fun x hx => by
    rcases List.mem_cons.mp hx with rfl | hx
    · exact pl_mono (pl_bkT g) 5 (by omega)
    · rw [List.mem_singleton.mp hx]; exact kT_pl (by have := s.few; omega)) (by simp))
  have ft := fit_field (okb_of g) (by rw [List.length_map]; exact s.few) (sq_ok s (by have := g.few; omega))
  refine ⟨fun n => ?_, ?_, pl, ft, ok_field _ _ _⟩
  · clear t2
    refine w_eq ?_
    unfold m__law_read
    (apply Wp.w_fun; (focus (rfl; done)); (focus (((try simp only [List.cons_append, List.nil_append, List.length_cons, List.length_nil, Nat.reduceAdd, Nat.reduceSub, Nat.zero_add, Nat.sub_zero, List.replicate_succ, List.replicate_zero, List.append_nil]); rfl); done)))
    unfold b__law_read
    repeat' decreasing_trivial_pre_omega
    cases n with
    | true =>
      repeat' decreasing_trivial_pre_omega
      refine w_of t1 ?_
      clear t1
      repeat' decreasing_trivial_pre_omega
      exact ⟨rfl, rfl⟩
    | false =>
      repeat' decreasing_trivial_pre_omega
      refine w_of t1 ?_
      clear t1
      repeat' decreasing_trivial_pre_omega
      exact ⟨rfl, rfl⟩
  · clear t1
    refine w_eq ?_
    unfold m__law_shown
    (apply Wp.w_fun; (focus (rfl; done)); (focus (((try simp only [List.cons_append, List.nil_append, List.length_cons, List.length_nil, Nat.reduceAdd, Nat.reduceSub, Nat.zero_add, Nat.sub_zero, List.replicate_succ, List.replicate_zero, List.append_nil]); rfl); done)))
    unfold b__law_shown
    repeat' decreasing_trivial_pre_omega
    refine w_of t2 ?_
    clear t2
    repeat' decreasing_trivial_pre_omega
    exact ⟨rfl, rfl⟩
end Lw

set_option linter.all false
set_option maxRecDepth 100000
set_option maxHeartbeats 4000000
namespace Lw
open PySem PySem.Spec Ev Pu Mt Wp
local macro_rules | `(tactic| decreasing_trivial_pre_omega) => `(tactic| (first | with_reducible apply Wp.w_seq | with_reducible apply Wp.w_drop | with_reducible apply Wp.w_if | with_reducible apply Wp.w_set | with_reducible apply Wp.w_ret | with_reducible apply Wp.w_asg | with_reducible apply Wp.w_par | with_reducible apply Wp.w_op2 | with_reducible apply Wp.w_acons | with_reducible apply Wp.w_fng | with_reducible apply Wp.w_tup | with_reducible apply Wp.w_lst | with_reducible apply Wp.w_call | with_reducible apply Wp.w_callk | with_reducible apply Wp.w_eand | with_reducible apply Wp.w_eor | with_reducible apply Wp.w_enot | with_reducible apply Wp.w_eif | with_reducible apply Wp.w_tb | with_reducible apply Wp.w_tnot | with_reducible apply Wp.w_tand | with_reducible apply Wp.w_tor | with_reducible apply Wp.w_neg | with_reducible apply Wp.w_isi | with_reducible apply Wp.w_sl | with_reducible apply Wp.w_pso | with_reducible apply Wp.w_rev | with_reducible apply Wp.w_index | with_reducible apply Wp.w_for | with_reducible apply Wp.w_iof | with_reducible apply Wp.w_r1 | with_reducible apply Wp.w_r2 | with_reducible apply Wp.w_comp | with_reducible apply Wp.w_compG | with_reducible apply Wp.w_izip | with_reducible apply Wp.w_izip2 | with_reducible apply Wp.w_ienu | with_reducible apply Wp.w_setix | with_reducible apply Wp.w_join | with_reducible apply Wp.kjoin1 | with_reducible apply Wp.w_fmt | with_reducible apply Wp.w_js_nil | with_reducible apply Wp.w_js | with_reducible apply Wp.w_dictp | with_reducible apply Wp.w_putS | with_reducible apply Wp.putS_nil | with_reducible apply Wp.w_r2w | with_reducible apply Wp.w_nil | with_reducible apply Wp.w_brk | with_reducible apply Wp.w_cnt | with_reducible apply Wp.w_retN | with_reducible apply Wp.w_k | with_reducible apply Wp.w_anil | with_reducible apply Wp.w_pno | with_reducible apply Wp.w_true | with_reducible apply Wp.w_rep | with_reducible apply Wp.krep1 | with_reducible apply Wp.w_mdict1 | with_reducible apply Wp.w_mnew | with_reducible apply Wp.w_min | with_reducible apply Wp.w_mput | with_reducible apply Wp.w_dput | with_reducible apply Wp.kmd1 | with_reducible apply Wp.ksl_ | with_reducible apply Wp.ksl1 | with_reducible apply Wp.ktwo1 | with_reducible apply Wp.kcons1 | with_reducible apply Wp.kseq_rt | with_reducible apply Wp.kseq_bk | with_reducible apply Wp.kseq_ct | with_reducible apply Wp.kret_r | with_reducible apply Wp.kret_b | with_reducible apply Wp.ktb | with_reducible apply Wp.kfun_rt | with_reducible apply Wp.kfun_nx | with_reducible apply Wp.kturn_nx | with_reducible apply Wp.kturn_ct | with_reducible apply Wp.kturn_rt | with_reducible apply Wp.kturn_bk | with_reducible apply Wp.w_sm1 | with_reducible apply Wp.w_sm0 | with_reducible apply Wp.w_slS | with_reducible apply Wp.ksm1 | with_reducible apply Wp.ksls1 | with_reducible apply Wp.ksls2 | ((with_reducible apply Wp.kseq_nx_n); (focus (((try simp only [Ev.wb, Ev.bk, List.set_cons_zero, List.set_cons_succ, List.getElem?_cons_zero, List.getElem?_cons_succ, List.cons_append, List.nil_append, List.append_nil]); rfl); done))) | ((with_reducible apply Wp.kback_r_n); (focus (((try simp only [Ev.wb, Ev.bk, List.set_cons_zero, List.set_cons_succ, List.getElem?_cons_zero, List.getElem?_cons_succ, List.cons_append, List.nil_append, List.append_nil]); rfl); done))) | ((with_reducible apply Wp.kback_b_n); (focus (((try simp only [Ev.wb, Ev.bk, List.set_cons_zero, List.set_cons_succ, List.getElem?_cons_zero, List.getElem?_cons_succ, List.cons_append, List.nil_append, List.append_nil]); rfl); done))) | ((with_reducible apply Wp.w_var_v); (focus (rfl; done))) | ((with_reducible apply Wp.w_var_o); (focus (rfl; done))) | ((with_reducible apply Wp.w_var_f); (focus (rfl; done))) | ((with_reducible apply Wp.kset_r); (focus (exact (by first | rfl | exact Wp.isLent_of rfl (by assumption)); done))) | ((with_reducible apply Wp.kset_b); (focus (exact (by first | rfl | exact Wp.isLent_of rfl (by assumption)); done))) | ((with_reducible apply Wp.kset_s); (focus (exact (by first | rfl | exact Wp.isLent_of rfl (by assumption)); done)); (focus (rfl; done))) | ((with_reducible apply Wp.kret_so); (focus (rfl; done))) | ((with_reducible apply Wp.kasg); (focus (rfl; done)); (focus ((first | rfl | (repeat' (first | refine Wp.gN_ok (by first | rfl | exact Wp.isLent_of rfl (by assumption)) rfl | refine Wp.gsNil_ok rfl | with_reducible apply Wp.gsCons_ok | apply Wp.gT_ok rfl))); done))) | ((with_reducible apply Wp.kpar); (focus (rfl; done)); (focus ((repeat (first | refine Wp.setOs_nil rfl | (apply Wp.setOs_r; (focus exact (by first | rfl | exact Wp.isLent_of rfl (by assumption)))) | (apply Wp.setOs_b; (focus exact (by first | rfl | exact Wp.isLent_of rfl (by assumption)))))); done))) | ((with_reducible apply Wp.ktwo2); (focus (rfl; done)); (focus (rfl; done)); (focus ((first | with_reducible assumption | with_reducible exact Wp.gEq_e _ _ | with_reducible exact Wp.gEq_n _ _ | with_reducible exact Wp.gEq_i _ _ _ | exact Wp.gAppend_ok (by assumption) | exact Wp.gIx_l (by assumption) | exact Wp.gIx_t (by assumption) | exact Wp.gStr_ok (by assumption) | exact Ev.gLenS_ok (by assumption) | exact Wp.gAdd_ss (by assumption) | exact Ev.gMulX_ok (by assumption) | exact Wp.gAdd_tt (by assumption) | exact Wp.gAdd_ll (by assumption) | exact Wp.gMul_ok (by assumption) | exact Wp.gMod_ok (by assumption) | exact Wp.gDiv_ok (by assumption) (by assumption) | rfl | assumption | exact Ev.gPowW_ok (by assumption)); done))) | ((with_reducible apply Wp.kfng); (focus (rfl; done)); (focus ((first | with_reducible assumption | with_reducible exact Wp.gEq_e _ _ | with_reducible exact Wp.gEq_n _ _ | with_reducible exact Wp.gEq_i _ _ _ | exact Wp.gAppend_ok (by assumption) | exact Wp.gIx_l (by assumption) | exact Wp.gIx_t (by assumption) | exact Wp.gStr_ok (by assumption) | exact Ev.gLenS_ok (by assumption) | exact Wp.gAdd_ss (by assumption) | exact Ev.gMulX_ok (by assumption) | exact Wp.gAdd_tt (by assumption) | exact Wp.gAdd_ll (by assumption) | exact Wp.gMul_ok (by assumption) | exact Wp.gMod_ok (by assumption) | exact Wp.gDiv_ok (by assumption) (by assumption) | rfl | assumption | exact Ev.gPowW_ok (by assumption)); done))) | ((with_reducible apply Wp.kdisp_t); (focus (rfl; done)); (focus (rfl; done))) | ((with_reducible apply Wp.kdisp_l); (focus (rfl; done)); (focus (rfl; done))) | ((with_reducible apply Wp.kcall); (focus (rfl; done)); (focus (rfl; done)); (focus (exact of_decide_eq_true rfl; done))) | ((with_reducible apply Wp.kcallk); (focus (decide; done)); (focus (exact ⟨rfl, rfl⟩; done)); (focus (rfl; done)); (focus (exact of_decide_eq_true rfl; done))) | ((with_reducible apply Wp.w_mut); (focus (rfl; done))) | ((with_reducible apply Wp.kmut2); (focus (rfl; done)); (focus (rfl; done)); (focus ((first | with_reducible assumption | with_reducible exact Wp.gEq_e _ _ | with_reducible exact Wp.gEq_n _ _ | with_reducible exact Wp.gEq_i _ _ _ | exact Wp.gAppend_ok (by assumption) | exact Wp.gIx_l (by assumption) | exact Wp.gIx_t (by assumption) | exact Wp.gStr_ok (by assumption) | exact Ev.gLenS_ok (by assumption) | exact Wp.gAdd_ss (by assumption) | exact Ev.gMulX_ok (by assumption) | exact Wp.gAdd_tt (by assumption) | exact Wp.gAdd_ll (by assumption) | exact Wp.gMul_ok (by assumption) | exact Wp.gMod_ok (by assumption) | exact Wp.gDiv_ok (by assumption) (by assumption) | rfl | assumption | exact Ev.gPowW_ok (by assumption)); done))) | ((with_reducible apply Wp.kif_t); (focus (rfl; done))) | ((with_reducible apply Wp.kif_f); (focus (rfl; done))) | ((with_reducible apply Wp.kif_t); (focus (assumption; done))) | ((with_reducible apply Wp.kif_f); (focus (assumption; done))) | ((with_reducible apply Wp.kife_t); (focus (rfl; done))) | ((with_reducible apply Wp.kife_f); (focus (rfl; done))) | ((with_reducible apply Wp.kand_t); (focus (rfl; done))) | ((with_reducible apply Wp.kand_f); (focus (rfl; done))) | ((with_reducible apply Wp.kor_t); (focus (rfl; done))) | ((with_reducible apply Wp.kor_f); (focus (rfl; done))) | ((with_reducible apply Wp.kande_t); (focus (rfl; done))) | ((with_reducible apply Wp.kande_f); (focus (rfl; done))) | ((with_reducible apply Wp.kore_t); (focus (rfl; done))) | ((with_reducible apply Wp.kore_f); (focus (rfl; done))) | ((with_reducible apply Wp.ktb_s); (focus (rfl; done))) | ((with_reducible apply Wp.kneg); (focus (rfl; done))) | ((with_reducible apply Wp.kisi); (focus (rfl; done))) | ((with_reducible apply Wp.kpso); (focus (rfl; done))) | ((with_reducible apply Wp.kof_l); (focus (rfl; done))) | ((with_reducible apply Wp.kof_t); (focus (rfl; done))) | ((with_reducible apply Wp.krev_l); (focus (rfl; done))) | ((with_reducible apply Wp.krev_t); (focus (rfl; done))) | ((with_reducible apply Wp.kindex1_); (focus (rfl; done))) | ((with_reducible apply Wp.kjoin2); (focus (rfl; done)); (focus (assumption; done)); (focus (assumption; done))) | ((with_reducible apply Wp.kfmt_s); (focus (rfl; done)); (focus (assumption; done))) | ((with_reducible apply Wp.kfmt_i); (focus (rfl; done)); (focus (assumption; done))) | ((with_reducible apply Wp.kjs); (focus (assumption; done))) | ((with_reducible apply Wp.ksl2_l); (focus (rfl; done))) | ((with_reducible apply Wp.ksl2_t); (focus (rfl; done))) | ((with_reducible apply Wp.w_mget); (focus (rfl; done))) | ((with_reducible apply Wp.kmget); (focus (rfl; done)); (focus (rfl; done)); (focus (rfl; done)); (focus (assumption; done))) | ((with_reducible apply Wp.kmin); (focus (rfl; done)); (focus (rfl; done)); (focus (rfl; done)); (focus (assumption; done))) | ((with_reducible apply Wp.kmput1); (focus (rfl; done))) | ((with_reducible apply Wp.kmput2); (focus (rfl; done)); (focus (rfl; done)); (focus (rfl; done)); (focus (rfl; done)); (focus (assumption; done))) | ((with_reducible apply Wp.kmd2); (focus (rfl; done)); (focus (rfl; done))) | ((with_reducible apply Wp.w_dget); (focus (rfl; done))) | ((with_reducible apply Wp.kdget); (focus (rfl; done)); (focus (rfl; done)); (focus (rfl; done)); (focus (assumption; done))) | ((with_reducible apply Wp.kdput1); (focus (rfl; done))) | ((with_reducible apply Wp.kdput2); (focus (rfl; done)); (focus (rfl; done)); (focus (rfl; done)); (focus (rfl; done)); (focus (assumption; done))) | ((with_reducible apply Wp.ksetix1); (focus (rfl; done))) | ((with_reducible apply Wp.ksetix2); (focus (rfl; done)); (focus (rfl; done)); (focus (rfl; done)); (focus ((first | rfl | assumption | exact Wp.ixN_nat (by assumption)); done))) | ((with_reducible apply Wp.kdictp); (focus (rfl; done)); (focus (assumption; done))) | ((with_reducible apply Wp.kputS); (focus (rfl; done)); (focus (rfl; done)); (focus (rfl; done))) | ((with_reducible apply Wp.putS_l); (focus (rfl; done))) | ((with_reducible apply Wp.putS_d); (focus (rfl; done))) | ((with_reducible apply Wp.kputL); (focus (rfl; done)); (focus (rfl; done)); (focus ((first | rfl | assumption | exact Wp.ixN_nat (by assumption)); done))) | ((with_reducible apply Wp.kputD); (focus (rfl; done)); (focus (rfl; done)); (focus (rfl; done)); (focus (assumption; done))) | ((with_reducible apply Wp.kr2w); (focus (rfl; done))) | ((with_reducible apply Wp.kzip); (focus (rfl; done))) | ((with_reducible apply Wp.w_inmG); (focus (rfl; done)); (focus (rfl; done))) | ((with_reducible apply Wp.w_izipV_l); (focus (rfl; done)); (focus (rfl; done)); (focus (rfl; done)); (focus (rfl; done))) | ((with_reducible apply Wp.w_izipV_r); (focus (rfl; done)); (focus (rfl; done)); (focus (rfl; done)); (focus (rfl; done))) | ((with_reducible apply Wp.kzip2_l); (focus (rfl; done))) | ((with_reducible apply Wp.kzip2_t); (focus (rfl; done))) | ((with_reducible apply Wp.kenu); (focus (rfl; done))) | ((with_reducible apply Wp.w_aug); (focus (rfl; done))) | ((with_reducible apply Wp.kaug); (focus (rfl; done)); (focus ((first | with_reducible assumption | with_reducible exact Wp.gEq_e _ _ | with_reducible exact Wp.gEq_n _ _ | with_reducible exact Wp.gEq_i _ _ _ | exact Wp.gAppend_ok (by assumption) | exact Wp.gIx_l (by assumption) | exact Wp.gIx_t (by assumption) | exact Wp.gStr_ok (by assumption) | exact Ev.gLenS_ok (by assumption) | exact Wp.gAdd_ss (by assumption) | exact Ev.gMulX_ok (by assumption) | exact Wp.gAdd_tt (by assumption) | exact Wp.gAdd_ll (by assumption) | exact Wp.gMul_ok (by assumption) | exact Wp.gMod_ok (by assumption) | exact Wp.gDiv_ok (by assumption) (by assumption) | rfl | assumption | exact Ev.gPowW_ok (by assumption)); done)); (focus (exact (by first | rfl | exact Wp.isLent_of rfl (by assumption)); done))) | ((with_reducible apply Wp.kelt); (focus (rfl; done))) | ((with_reducible apply Wp.ksm1b); (focus ((first | assumption | rfl); done))) | ((with_reducible apply Wp.ksm0); (focus ((first | assumption | rfl); done))) | ((with_reducible apply Wp.ksls3); (focus (assumption; done)))))
def DoorQ (D : Dk) (k : Nat) : Od → En → Prop := fun r e => ∃ (D' : Dk) (t : T) (y : Str), D'.c ≤ D.c + 2000 ∧ Dn k t y ∧ r = .r (.tuple [t, .str y]) ∧ e = [.ow true (.l (dkT D')), .v (nT k), .v (.int 40), .v (.int 20)]
theorem door0 (D : Dk) (hc : D.c + 2000 ≤ 10 ^ 9) : W (m__law_door [.ow true (.l (dkT D)), .v (nT 0), .v (.int 40), .v (.int 20)]) (DoorQ D 0) := by
  unfold m__law_door
  (apply Wp.w_fun; (focus (rfl; done)); (focus (((try simp only [List.cons_append, List.nil_append, List.length_cons, List.length_nil, Nat.reduceAdd, Nat.reduceSub, Nat.zero_add, Nat.sub_zero, List.replicate_succ, List.replicate_zero, List.append_nil]); rfl); done)))
  unfold b__law_door
  repeat' decreasing_trivial_pre_omega
  refine w_imp (integer_w D 40 (10 ^ 40) rfl (by decide) (by decide) (by omega)) ?_
  rintro _ _ ⟨D1, v, hc1, hv, rfl, rfl⟩
  repeat' decreasing_trivial_pre_omega
  refine w_imp (integer_w D1 40 (10 ^ 40) rfl (by decide) (by decide) (by omega)) ?_
  rintro _ _ ⟨D2, w, hc2, hw, rfl, rfl⟩
  have hr : OkR [(v : Int), (w : Int)] := okr2 (by omega) (by omega)
  have ee : PyData.tuple [nT v, nT w] = rowT [(v : Int), (w : Int)] := rfl
  have s0 : m__law_said [.v (.tuple [nT v, nT w])] = .ok (.r (.str (rowS [(v : Int), (w : Int)]))) [.v (.tuple [nT v, nT w])] := by rw [ee]; exact said_row hr
  have t0 : Dn 0 (.tuple [nT v, nT w]) (rowS [(v : Int), (w : Int)]) := by rw [ee]; exact dn0 hr
  clear hr
  repeat' decreasing_trivial_pre_omega
  refine w_of s0 ?_
  repeat' decreasing_trivial_pre_omega
  exact ⟨D2, _, _, by omega, t0, rfl, rfl⟩
theorem door1 (D : Dk) (hc : D.c + 2000 ≤ 10 ^ 9) : W (m__law_door [.ow true (.l (dkT D)), .v (nT 1), .v (.int 40), .v (.int 20)]) (DoorQ D 1) := by
  unfold m__law_door
  (apply Wp.w_fun; (focus (rfl; done)); (focus (((try simp only [List.cons_append, List.nil_append, List.length_cons, List.length_nil, Nat.reduceAdd, Nat.reduceSub, Nat.zero_add, Nat.sub_zero, List.replicate_succ, List.replicate_zero, List.append_nil]); rfl); done)))
  unfold b__law_door
  repeat' decreasing_trivial_pre_omega
  refine w_imp (integer_w D 38 (10 ^ 38) rfl (by decide) (by decide) (by omega)) ?_
  rintro _ _ ⟨D1, v, hc1, hv, rfl, rfl⟩
  repeat' decreasing_trivial_pre_omega
  refine w_imp (integer_w D1 38 (10 ^ 38) rfl (by decide) (by decide) (by omega)) ?_
  rintro _ _ ⟨D2, w, hc2, hw, rfl, rfl⟩
  repeat' decreasing_trivial_pre_omega
  refine w_imp (above_w D2 v 38 (10 ^ 38) rfl (by decide) (by decide) (by omega)) ?_
  rintro _ _ ⟨D3, v2, hc3, hv2, rfl, rfl⟩
  repeat' decreasing_trivial_pre_omega
  refine w_imp (above_w D3 w 38 (10 ^ 38) rfl (by decide) (by decide) (by omega)) ?_
  rintro _ _ ⟨D4, w2, hc4, hw2, rfl, rfl⟩
  have hr : OkR [(v : Int), (w : Int), (v2 : Int), (w2 : Int)] := okr4 (by omega) (by omega) (by omega) (by omega)
  have ee : PyData.tuple ([nT v, nT w] ++ [nT v2, nT w2]) = rowT [(v : Int), (w : Int), (v2 : Int), (w2 : Int)] := rfl
  have s0 : m__law_said [.v (.tuple ([nT v, nT w] ++ [nT v2, nT w2]))] = .ok (.r (.str (rowS [(v : Int), (w : Int), (v2 : Int), (w2 : Int)]))) [.v (.tuple ([nT v, nT w] ++ [nT v2, nT w2]))] := by rw [ee]; exact said_row hr
  have t0 : Dn 1 (.tuple ([nT v, nT w] ++ [nT v2, nT w2])) (rowS [(v : Int), (w : Int), (v2 : Int), (w2 : Int)]) := by rw [ee]; exact dn1 hr (by omega) (by omega)
  have ha : [nT v, nT w].length + [nT v2, nT w2].length ≤ sizeLine := by unfold sizeLine; simp
  clear hr
  repeat' decreasing_trivial_pre_omega
  refine w_of s0 ?_
  repeat' decreasing_trivial_pre_omega
  exact ⟨D4, _, _, by omega, t0, rfl, rfl⟩
theorem door3 (D : Dk) (hc : D.c + 2000 ≤ 10 ^ 9) : W (m__law_door [.ow true (.l (dkT D)), .v (nT 3), .v (.int 40), .v (.int 20)]) (DoorQ D 3) := by
  unfold m__law_door
  (apply Wp.w_fun; (focus (rfl; done)); (focus (((try simp only [List.cons_append, List.nil_append, List.length_cons, List.length_nil, Nat.reduceAdd, Nat.reduceSub, Nat.zero_add, Nat.sub_zero, List.replicate_succ, List.replicate_zero, List.append_nil]); rfl); done)))
  unfold b__law_door
  repeat' decreasing_trivial_pre_omega
  refine w_imp (drw_w D 2 (by decide) (by decide) (by omega)) ?_
  rintro _ _ ⟨k, D1, hk, hc1, rfl, rfl⟩
  obtain ⟨many, hx, hm⟩ : ∃ n : Nat, [PyData.int 4, PyData.int 9][k]? = some (nT n) ∧ (n = 4 ∨ n = 9) := by
    match k, hk with
    | 0, _ => exact ⟨4, rfl, .inl rfl⟩
    | 1, _ => exact ⟨9, rfl, .inr rfl⟩
    | k + 2, hw => omega
  repeat' decreasing_trivial_pre_omega
  unfold x2__law_door
  repeat' decreasing_trivial_pre_omega
  refine kr1 (n := many) rfl (by omega) ?_
  unfold below
  refine comp_all (fun (k : Nat) => PyData.int (k : Int)) (List.range many) (fun don acc e => ∃ (D' : Dk) (rs : List (List Int)), D'.c ≤ D1.c + don.length * 3 ∧ rs.length = don.length ∧ ((∀ r ∈ rs, OkR r) ∧ ∀ r ∈ rs, OkT r) ∧ acc = rs.map rowT ∧ e = [.ow true (.l (dkT D')), .v (nT 3), .v (.int 40), .v (.int 20), .un, .un, .un, .un, .un, .un, .v (nT many), .un, .un]) ⟨D1, [], by simp, rfl, ⟨by simp, by simp⟩, rfl, rfl⟩ (by rw [List.length_range]; unfold sizeLine; omega) ?_ ?_
  · rintro don j rest hx acc e ⟨D', rs, h1, h2, ⟨h3, h4⟩, rfl, rfl⟩
    have hdl := (range_cut hx)
    have hdn : don.length = j := by rw [hdl.1, List.length_range]
    refine ⟨_, rfl, ?_⟩
    repeat' decreasing_trivial_pre_omega
    refine w_imp (drw_w D' 4 (by decide) (by decide) (by omega)) ?_
    rintro _ _ ⟨a, D2, ha, hc2, rfl, rfl⟩
    repeat' decreasing_trivial_pre_omega
    refine w_imp (drw_w D2 2 (by decide) (by decide) (by omega)) ?_
    rintro _ _ ⟨b, D3, hb, hc3, rfl, rfl⟩
    repeat' decreasing_trivial_pre_omega
    refine w_imp (drw_w D3 2 (by decide) (by decide) (by omega)) ?_
    rintro _ _ ⟨c, D4, hcc, hc4, rfl, rfl⟩
    repeat' decreasing_trivial_pre_omega
    refine ⟨D4, rs ++ [[(a : Int), (b : Int), (c : Int)]], by rw [List.length_append, List.length_singleton]; omega, by rw [List.length_append, List.length_append, h2]; rfl, ?_, by rw [List.map_append]; rfl, rfl⟩
    refine ⟨fun r hr => ?_, fun r hr => ?_⟩
    · rcases List.mem_append.mp hr with hr | hr
      · exact h3 r hr
      · rw [List.mem_singleton.mp hr]
        exact okr3 (by omega) (by omega) (by omega)
    · rcases List.mem_append.mp hr with hr | hr
      · exact h4 r hr
      · rw [List.mem_singleton.mp hr]
        exact ⟨_, _, _, rfl, by omega, by omega, by omega⟩
  · rintro acc e ⟨D', rs, h1, h2, ⟨h3, h4⟩, rfl, rfl⟩
    rw [List.length_range] at h1 h2
    have hl : rs.length ≤ 20 := by omega
    have ee : PyData.tuple (rs.map rowT) = rowsT rs := rfl
    have s0 : m__law_said_parts [.v (.tuple (rs.map rowT))] = .ok (.r (.str (rowsS rs))) [.v (.tuple (rs.map rowT))] := by rw [ee]; exact said_rows hl h3
    have t0 : Dn 3 (.tuple (rs.map rowT)) (rowsS rs) := by rw [ee]; exact dn3 (by omega) h3 h4
    clear ee
    repeat' decreasing_trivial_pre_omega
    refine w_of s0 ?_
    repeat' decreasing_trivial_pre_omega
    exact ⟨D', _, _, by omega, t0, rfl, rfl⟩
theorem door4 (D : Dk) (hc : D.c + 2000 ≤ 10 ^ 9) : W (m__law_door [.ow true (.l (dkT D)), .v (nT 4), .v (.int 40), .v (.int 20)]) (DoorQ D 4) := by
  unfold m__law_door
  (apply Wp.w_fun; (focus (rfl; done)); (focus (((try simp only [List.cons_append, List.nil_append, List.length_cons, List.length_nil, Nat.reduceAdd, Nat.reduceSub, Nat.zero_add, Nat.sub_zero, List.replicate_succ, List.replicate_zero, List.append_nil]); rfl); done)))
  unfold b__law_door
  repeat' decreasing_trivial_pre_omega
  refine w_imp (drw_w D 3 (by decide) (by decide) (by omega)) ?_
  rintro _ _ ⟨k, D1, hk, hc1, rfl, rfl⟩
  obtain ⟨most, hx, hm⟩ : ∃ n : Nat, [PyData.int 1, PyData.int 3, PyData.int 20][k]? = some (nT n) ∧ 0 < n ∧ n ≤ 20 := by
    match k, hk with
    | 0, _ => exact ⟨1, rfl, by decide, by decide⟩
    | 1, _ => exact ⟨3, rfl, by decide, by decide⟩
    | 2, _ => exact ⟨20, rfl, by decide, by decide⟩
    | k + 3, hw => omega
  repeat' decreasing_trivial_pre_omega
  refine w_imp (book_w D1 most hm.1 hm.2 (by omega)) ?_
  rintro _ _ ⟨D2, B, ks, hc2, g, rfl, rfl⟩
  have s0 : m__law_said_book [.v (bkT B ks)] = .ok (.r (.str (bookS B (ksL ks)))) [.v (bkT B ks)] := by rw [bk_book]; exact said_book (okb_of g)
  have t0 := dn4 g
  repeat' decreasing_trivial_pre_omega
  refine w_of s0 ?_
  repeat' decreasing_trivial_pre_omega
  exact ⟨D2, _, _, by omega, t0, rfl, rfl⟩
theorem door5 (D : Dk) (hc : D.c + 2000 ≤ 10 ^ 9) : W (m__law_door [.ow true (.l (dkT D)), .v (nT 5), .v (.int 40), .v (.int 20)]) (DoorQ D 5) := by
  unfold m__law_door
  (apply Wp.w_fun; (focus (rfl; done)); (focus (((try simp only [List.cons_append, List.nil_append, List.length_cons, List.length_nil, Nat.reduceAdd, Nat.reduceSub, Nat.zero_add, Nat.sub_zero, List.replicate_succ, List.replicate_zero, List.append_nil]); rfl); done)))
  unfold b__law_door
  repeat' decreasing_trivial_pre_omega
  refine w_imp (drw_w D 3 (by decide) (by decide) (by omega)) ?_
  rintro _ _ ⟨k, D1, hk, hc1, rfl, rfl⟩
  obtain ⟨most, hx, hm⟩ : ∃ n : Nat, [PyData.int 1, PyData.int 3, PyData.int 20][k]? = some (nT n) ∧ 0 < n ∧ n ≤ 20 := by
    match k, hk with
    | 0, _ => exact ⟨1, rfl, by decide, by decide⟩
    | 1, _ => exact ⟨3, rfl, by decide, by decide⟩
    | 2, _ => exact ⟨20, rfl, by decide, by decide⟩
    | k + 3, hw => omega
  repeat' decreasing_trivial_pre_omega
  refine w_imp (book_w D1 most hm.1 hm.2 (by omega)) ?_
  rintro _ _ ⟨D2, B, ks, hc2, g, rfl, rfl⟩
  have hn := g.pos
  have hn2 := g.few
  have gi : gIx (bkT B ks) (.int 1) = some (.r (.tuple (ks.map kT))) := rfl
  repeat' decreasing_trivial_pre_omega
  refine w_imp (drw_w D2 2 (by decide) (by decide) (by omega)) ?_
  rintro _ _ ⟨j, D3, hj, hc3, rfl, rfl⟩
  obtain ⟨m2, hx2, hm2⟩ : ∃ n : Nat, [PyData.int 2, PyData.int 20][j]? = some (nT n) ∧ 0 < n ∧ n ≤ 20 := by
    match j, hj with
    | 0, _ => exact ⟨2, rfl, by decide, by decide⟩
    | 1, _ => exact ⟨20, rfl, by decide, by decide⟩
    | k + 2, hw => omega
  have hkl : 0 < (ks.map kT).length ∧ (ks.map kT).length ≤ 100 := by rw [List.length_map]; omega
  repeat' decreasing_trivial_pre_omega
  refine w_imp (squares_w D3 (ks.map kT).length m2 hkl hm2 (by omega)) ?_
  rintro _ _ ⟨D4, qs, hc4, s, rfl, rfl⟩
  rw [List.length_map] at s
  have s0 : m__law_said_field [.v (.tuple [bkT B ks, kT qs])] = .ok (.r (.str (fieldS B (ksL ks) (qs.map ptL)))) [.v (.tuple [bkT B ks, kT qs])] := by rw [fld_eq]; exact said_field (okb_of g) (by rw [List.length_map]; exact s.few) (sq_ok s (by omega))
  have t0 := dn5 g s
  repeat' decreasing_trivial_pre_omega
  refine w_of s0 ?_
  repeat' decreasing_trivial_pre_omega
  exact ⟨D4, _, _, by omega, t0, rfl, rfl⟩
end Lw

set_option linter.all false
set_option maxRecDepth 100000
set_option maxHeartbeats 4000000
namespace Lw
open PySem PySem.Spec Ev Pu Mt Wp
local macro_rules | `(tactic| decreasing_trivial_pre_omega) => `(tactic| (first | with_reducible apply Wp.w_seq | with_reducible apply Wp.w_drop | with_reducible apply Wp.w_if | with_reducible apply Wp.w_set | with_reducible apply Wp.w_ret | with_reducible apply Wp.w_asg | with_reducible apply Wp.w_par | with_reducible apply Wp.w_op2 | with_reducible apply Wp.w_acons | with_reducible apply Wp.w_fng | with_reducible apply Wp.w_tup | with_reducible apply Wp.w_lst | with_reducible apply Wp.w_call | with_reducible apply Wp.w_callk | with_reducible apply Wp.w_eand | with_reducible apply Wp.w_eor | with_reducible apply Wp.w_enot | with_reducible apply Wp.w_eif | with_reducible apply Wp.w_tb | with_reducible apply Wp.w_tnot | with_reducible apply Wp.w_tand | with_reducible apply Wp.w_tor | with_reducible apply Wp.w_neg | with_reducible apply Wp.w_isi | with_reducible apply Wp.w_sl | with_reducible apply Wp.w_pso | with_reducible apply Wp.w_rev | with_reducible apply Wp.w_index | with_reducible apply Wp.w_for | with_reducible apply Wp.w_iof | with_reducible apply Wp.w_r1 | with_reducible apply Wp.w_r2 | with_reducible apply Wp.w_comp | with_reducible apply Wp.w_compG | with_reducible apply Wp.w_izip | with_reducible apply Wp.w_izip2 | with_reducible apply Wp.w_ienu | with_reducible apply Wp.w_setix | with_reducible apply Wp.w_join | with_reducible apply Wp.kjoin1 | with_reducible apply Wp.w_fmt | with_reducible apply Wp.w_js_nil | with_reducible apply Wp.w_js | with_reducible apply Wp.w_dictp | with_reducible apply Wp.w_putS | with_reducible apply Wp.putS_nil | with_reducible apply Wp.w_r2w | with_reducible apply Wp.w_nil | with_reducible apply Wp.w_brk | with_reducible apply Wp.w_cnt | with_reducible apply Wp.w_retN | with_reducible apply Wp.w_k | with_reducible apply Wp.w_anil | with_reducible apply Wp.w_pno | with_reducible apply Wp.w_true | with_reducible apply Wp.w_rep | with_reducible apply Wp.krep1 | with_reducible apply Wp.w_mdict1 | with_reducible apply Wp.w_mnew | with_reducible apply Wp.w_min | with_reducible apply Wp.w_mput | with_reducible apply Wp.w_dput | with_reducible apply Wp.kmd1 | with_reducible apply Wp.ksl_ | with_reducible apply Wp.ksl1 | with_reducible apply Wp.ktwo1 | with_reducible apply Wp.kcons1 | with_reducible apply Wp.kseq_rt | with_reducible apply Wp.kseq_bk | with_reducible apply Wp.kseq_ct | with_reducible apply Wp.kret_r | with_reducible apply Wp.kret_b | with_reducible apply Wp.ktb | with_reducible apply Wp.kfun_rt | with_reducible apply Wp.kfun_nx | with_reducible apply Wp.kturn_nx | with_reducible apply Wp.kturn_ct | with_reducible apply Wp.kturn_rt | with_reducible apply Wp.kturn_bk | with_reducible apply Wp.w_sm1 | with_reducible apply Wp.w_sm0 | with_reducible apply Wp.w_slS | with_reducible apply Wp.ksm1 | with_reducible apply Wp.ksls1 | with_reducible apply Wp.ksls2 | ((with_reducible apply Wp.kseq_nx_n); (focus (((try simp only [Ev.wb, Ev.bk, List.set_cons_zero, List.set_cons_succ, List.getElem?_cons_zero, List.getElem?_cons_succ, List.cons_append, List.nil_append, List.append_nil]); rfl); done))) | ((with_reducible apply Wp.kback_r_n); (focus (((try simp only [Ev.wb, Ev.bk, List.set_cons_zero, List.set_cons_succ, List.getElem?_cons_zero, List.getElem?_cons_succ, List.cons_append, List.nil_append, List.append_nil]); rfl); done))) | ((with_reducible apply Wp.kback_b_n); (focus (((try simp only [Ev.wb, Ev.bk, List.set_cons_zero, List.set_cons_succ, List.getElem?_cons_zero, List.getElem?_cons_succ, List.cons_append, List.nil_append, List.append_nil]); rfl); done))) | ((with_reducible apply Wp.w_var_v); (focus (rfl; done))) | ((with_reducible apply Wp.w_var_o); (focus (rfl; done))) | ((with_reducible apply Wp.w_var_f); (focus (rfl; done))) | ((with_reducible apply Wp.kset_r); (focus (exact (by first | rfl | exact Wp.isLent_of rfl (by assumption)); done))) | ((with_reducible apply Wp.kset_b); (focus (exact (by first | rfl | exact Wp.isLent_of rfl (by assumption)); done))) | ((with_reducible apply Wp.kset_s); (focus (exact (by first | rfl | exact Wp.isLent_of rfl (by assumption)); done)); (focus (rfl; done))) | ((with_reducible apply Wp.kret_so); (focus (rfl; done))) | ((with_reducible apply Wp.kasg); (focus (rfl; done)); (focus ((first | rfl | (repeat' (first | refine Wp.gN_ok (by first | rfl | exact Wp.isLent_of rfl (by assumption)) rfl | refine Wp.gsNil_ok rfl | with_reducible apply Wp.gsCons_ok | apply Wp.gT_ok rfl))); done))) | ((with_reducible apply Wp.kpar); (focus (rfl; done)); (focus ((repeat (first | refine Wp.setOs_nil rfl | (apply Wp.setOs_r; (focus exact (by first | rfl | exact Wp.isLent_of rfl (by assumption)))) | (apply Wp.setOs_b; (focus exact (by first | rfl | exact Wp.isLent_of rfl (by assumption)))))); done))) | ((with_reducible apply Wp.ktwo2); (focus (rfl; done)); (focus (rfl; done)); (focus ((first | with_reducible assumption | with_reducible exact Wp.gEq_e _ _ | with_reducible exact Wp.gEq_n _ _ | with_reducible exact Wp.gEq_i _ _ _ | exact Wp.gAppend_ok (by assumption) | exact Wp.gIx_l (by assumption) | exact Wp.gIx_t (by assumption) | exact Wp.gStr_ok (by assumption) | exact Ev.gLenS_ok (by assumption) | exact Wp.gAdd_ss (by assumption) | exact Ev.gMulX_ok (by assumption) | exact Wp.gAdd_tt (by assumption) | exact Wp.gAdd_ll (by assumption) | exact Wp.gMul_ok (by assumption) | exact Wp.gMod_ok (by assumption) | exact Wp.gDiv_ok (by assumption) (by assumption) | rfl | assumption | exact Ev.gPowW_ok (by assumption)); done))) | ((with_reducible apply Wp.kfng); (focus (rfl; done)); (focus ((first | with_reducible assumption | with_reducible exact Wp.gEq_e _ _ | with_reducible exact Wp.gEq_n _ _ | with_reducible exact Wp.gEq_i _ _ _ | exact Wp.gAppend_ok (by assumption) | exact Wp.gIx_l (by assumption) | exact Wp.gIx_t (by assumption) | exact Wp.gStr_ok (by assumption) | exact Ev.gLenS_ok (by assumption) | exact Wp.gAdd_ss (by assumption) | exact Ev.gMulX_ok (by assumption) | exact Wp.gAdd_tt (by assumption) | exact Wp.gAdd_ll (by assumption) | exact Wp.gMul_ok (by assumption) | exact Wp.gMod_ok (by assumption) | exact Wp.gDiv_ok (by assumption) (by assumption) | rfl | assumption | exact Ev.gPowW_ok (by assumption)); done))) | ((with_reducible apply Wp.kdisp_t); (focus (rfl; done)); (focus (rfl; done))) | ((with_reducible apply Wp.kdisp_l); (focus (rfl; done)); (focus (rfl; done))) | ((with_reducible apply Wp.kcall); (focus (rfl; done)); (focus (rfl; done)); (focus (exact of_decide_eq_true rfl; done))) | ((with_reducible apply Wp.kcallk); (focus (decide; done)); (focus (exact ⟨rfl, rfl⟩; done)); (focus (rfl; done)); (focus (exact of_decide_eq_true rfl; done))) | ((with_reducible apply Wp.w_mut); (focus (rfl; done))) | ((with_reducible apply Wp.kmut2); (focus (rfl; done)); (focus (rfl; done)); (focus ((first | with_reducible assumption | with_reducible exact Wp.gEq_e _ _ | with_reducible exact Wp.gEq_n _ _ | with_reducible exact Wp.gEq_i _ _ _ | exact Wp.gAppend_ok (by assumption) | exact Wp.gIx_l (by assumption) | exact Wp.gIx_t (by assumption) | exact Wp.gStr_ok (by assumption) | exact Ev.gLenS_ok (by assumption) | exact Wp.gAdd_ss (by assumption) | exact Ev.gMulX_ok (by assumption) | exact Wp.gAdd_tt (by assumption) | exact Wp.gAdd_ll (by assumption) | exact Wp.gMul_ok (by assumption) | exact Wp.gMod_ok (by assumption) | exact Wp.gDiv_ok (by assumption) (by assumption) | rfl | assumption | exact Ev.gPowW_ok (by assumption)); done))) | ((with_reducible apply Wp.kif_t); (focus (rfl; done))) | ((with_reducible apply Wp.kif_f); (focus (rfl; done))) | ((with_reducible apply Wp.kif_t); (focus (assumption; done))) | ((with_reducible apply Wp.kif_f); (focus (assumption; done))) | ((with_reducible apply Wp.kife_t); (focus (rfl; done))) | ((with_reducible apply Wp.kife_f); (focus (rfl; done))) | ((with_reducible apply Wp.kand_t); (focus (rfl; done))) | ((with_reducible apply Wp.kand_f); (focus (rfl; done))) | ((with_reducible apply Wp.kor_t); (focus (rfl; done))) | ((with_reducible apply Wp.kor_f); (focus (rfl; done))) | ((with_reducible apply Wp.kande_t); (focus (rfl; done))) | ((with_reducible apply Wp.kande_f); (focus (rfl; done))) | ((with_reducible apply Wp.kore_t); (focus (rfl; done))) | ((with_reducible apply Wp.kore_f); (focus (rfl; done))) | ((with_reducible apply Wp.ktb_s); (focus (rfl; done))) | ((with_reducible apply Wp.kneg); (focus (rfl; done))) | ((with_reducible apply Wp.kisi); (focus (rfl; done))) | ((with_reducible apply Wp.kpso); (focus (rfl; done))) | ((with_reducible apply Wp.kof_l); (focus (rfl; done))) | ((with_reducible apply Wp.kof_t); (focus (rfl; done))) | ((with_reducible apply Wp.krev_l); (focus (rfl; done))) | ((with_reducible apply Wp.krev_t); (focus (rfl; done))) | ((with_reducible apply Wp.kindex1_); (focus (rfl; done))) | ((with_reducible apply Wp.kjoin2); (focus (rfl; done)); (focus (assumption; done)); (focus (assumption; done))) | ((with_reducible apply Wp.kfmt_s); (focus (rfl; done)); (focus (assumption; done))) | ((with_reducible apply Wp.kfmt_i); (focus (rfl; done)); (focus (assumption; done))) | ((with_reducible apply Wp.kjs); (focus (assumption; done))) | ((with_reducible apply Wp.ksl2_l); (focus (rfl; done))) | ((with_reducible apply Wp.ksl2_t); (focus (rfl; done))) | ((with_reducible apply Wp.w_mget); (focus (rfl; done))) | ((with_reducible apply Wp.kmget); (focus (rfl; done)); (focus (rfl; done)); (focus (rfl; done)); (focus (assumption; done))) | ((with_reducible apply Wp.kmin); (focus (rfl; done)); (focus (rfl; done)); (focus (rfl; done)); (focus (assumption; done))) | ((with_reducible apply Wp.kmput1); (focus (rfl; done))) | ((with_reducible apply Wp.kmput2); (focus (rfl; done)); (focus (rfl; done)); (focus (rfl; done)); (focus (rfl; done)); (focus (assumption; done))) | ((with_reducible apply Wp.kmd2); (focus (rfl; done)); (focus (rfl; done))) | ((with_reducible apply Wp.w_dget); (focus (rfl; done))) | ((with_reducible apply Wp.kdget); (focus (rfl; done)); (focus (rfl; done)); (focus (rfl; done)); (focus (assumption; done))) | ((with_reducible apply Wp.kdput1); (focus (rfl; done))) | ((with_reducible apply Wp.kdput2); (focus (rfl; done)); (focus (rfl; done)); (focus (rfl; done)); (focus (rfl; done)); (focus (assumption; done))) | ((with_reducible apply Wp.ksetix1); (focus (rfl; done))) | ((with_reducible apply Wp.ksetix2); (focus (rfl; done)); (focus (rfl; done)); (focus (rfl; done)); (focus ((first | rfl | assumption | exact Wp.ixN_nat (by assumption)); done))) | ((with_reducible apply Wp.kdictp); (focus (rfl; done)); (focus (assumption; done))) | ((with_reducible apply Wp.kputS); (focus (rfl; done)); (focus (rfl; done)); (focus (rfl; done))) | ((with_reducible apply Wp.putS_l); (focus (rfl; done))) | ((with_reducible apply Wp.putS_d); (focus (rfl; done))) | ((with_reducible apply Wp.kputL); (focus (rfl; done)); (focus (rfl; done)); (focus ((first | rfl | assumption | exact Wp.ixN_nat (by assumption)); done))) | ((with_reducible apply Wp.kputD); (focus (rfl; done)); (focus (rfl; done)); (focus (rfl; done)); (focus (assumption; done))) | ((with_reducible apply Wp.kr2w); (focus (rfl; done))) | ((with_reducible apply Wp.kzip); (focus (rfl; done))) | ((with_reducible apply Wp.w_inmG); (focus (rfl; done)); (focus (rfl; done))) | ((with_reducible apply Wp.w_izipV_l); (focus (rfl; done)); (focus (rfl; done)); (focus (rfl; done)); (focus (rfl; done))) | ((with_reducible apply Wp.w_izipV_r); (focus (rfl; done)); (focus (rfl; done)); (focus (rfl; done)); (focus (rfl; done))) | ((with_reducible apply Wp.kzip2_l); (focus (rfl; done))) | ((with_reducible apply Wp.kzip2_t); (focus (rfl; done))) | ((with_reducible apply Wp.kenu); (focus (rfl; done))) | ((with_reducible apply Wp.w_aug); (focus (rfl; done))) | ((with_reducible apply Wp.kaug); (focus (rfl; done)); (focus ((first | with_reducible assumption | with_reducible exact Wp.gEq_e _ _ | with_reducible exact Wp.gEq_n _ _ | with_reducible exact Wp.gEq_i _ _ _ | exact Wp.gAppend_ok (by assumption) | exact Wp.gIx_l (by assumption) | exact Wp.gIx_t (by assumption) | exact Wp.gStr_ok (by assumption) | exact Ev.gLenS_ok (by assumption) | exact Wp.gAdd_ss (by assumption) | exact Ev.gMulX_ok (by assumption) | exact Wp.gAdd_tt (by assumption) | exact Wp.gAdd_ll (by assumption) | exact Wp.gMul_ok (by assumption) | exact Wp.gMod_ok (by assumption) | exact Wp.gDiv_ok (by assumption) (by assumption) | rfl | assumption | exact Ev.gPowW_ok (by assumption)); done)); (focus (exact (by first | rfl | exact Wp.isLent_of rfl (by assumption)); done))) | ((with_reducible apply Wp.kelt); (focus (rfl; done))) | ((with_reducible apply Wp.ksm1b); (focus ((first | assumption | rfl); done))) | ((with_reducible apply Wp.ksm0); (focus ((first | assumption | rfl); done))) | ((with_reducible apply Wp.ksls3); (focus (assumption; done)))))
theorem pick37 {k : Nat} (hk : k < 3) : ∃ n : Nat, [PyData.int 1, PyData.int 2, PyData.int 37][k]? = some (nT n) ∧ 0 < n ∧ n ≤ 37 := by
  match k, hk with
  | 0, _ => exact ⟨1, rfl, by decide, by decide⟩
  | 1, _ => exact ⟨2, rfl, by decide, by decide⟩
  | 2, _ => exact ⟨37, rfl, by decide, by decide⟩
  | k + 3, hw => omega
theorem z37 {d low v : Nat} (hd : d ≤ 37) (h : low < v ∧ v ≤ low + 10 ^ d + 60) : low < v ∧ v ≤ low + 10 ^ 37 + 60 := by
  have := Nat.pow_le_pow_right (show 0 < 10 by decide) hd
  generalize 10 ^ d = z at h this
  omega
theorem ends_app (ps : List (Int × Int)) (p : Int × Int) : endsL (ps ++ [p]) = endsL ps ++ [p.1, p.2] := by
  unfold endsL
  rw [List.flatMap_append]
  rfl
theorem ends_more {ps : List (Int × Int)} {x y : Int} (h5 : ∀ k a b, (endsL ps)[k]? = some a → (endsL ps)[k + 1]? = some b → a < b) (h6 : ∀ z ∈ endsL ps, z < x) (hxy : x < y) :
    ∀ k a b, (endsL (ps ++ [(x, y)]))[k]? = some a → (endsL (ps ++ [(x, y)]))[k + 1]? = some b → a < b := by
  intro k a b ha hb
  rw [ends_app] at ha hb
  have hl := (List.getElem?_eq_some_iff.mp hb).1
  simp only [List.length_append, List.length_cons, List.length_nil] at hl
  by_cases h1 : k + 1 < (endsL ps).length
  · rw [List.getElem?_append_left (by omega)] at ha
    rw [List.getElem?_append_left h1] at hb
    exact h5 k a b ha hb
  · by_cases h2 : k + 1 = (endsL ps).length
    · rw [List.getElem?_append_left (by omega)] at ha
      rw [List.getElem?_append_right (by omega), h2, Nat.sub_self] at hb
      cases hb
      exact h6 a (List.mem_of_getElem? ha)
    · have h3 : k = (endsL ps).length := by omega
      subst h3
      rw [List.getElem?_append_right (by omega), Nat.sub_self] at ha
      rw [List.getElem?_append_right (by omega), show (endsL ps).length + 1 - (endsL ps).length = 1 by omega] at hb
      cases ha
      cases hb
      exact hxy
theorem door2 (D : Dk) (hc : D.c + 2000 ≤ 10 ^ 9) : W (m__law_door [.ow true (.l (dkT D)), .v (nT 2), .v (.int 40), .v (.int 20)]) (DoorQ D 2) := by
  unfold m__law_door
  (apply Wp.w_fun; (focus (rfl; done)); (focus (((try simp only [List.cons_append, List.nil_append, List.length_cons, List.length_nil, Nat.reduceAdd, Nat.reduceSub, Nat.zero_add, Nat.sub_zero, List.replicate_succ, List.replicate_zero, List.append_nil]); rfl); done)))
  unfold b__law_door l1__law_door
  repeat' decreasing_trivial_pre_omega
  refine w_imp (drw_w D 2 (by decide) (by decide) (by omega)) ?_
  rintro _ _ ⟨k, D1, hk, hc1, rfl, rfl⟩
  obtain ⟨d, hx, hd⟩ : ∃ n : Nat, [PyData.int 2, PyData.int 37][k]? = some (nT n) ∧ 0 < n ∧ n ≤ 37 := by
    match k, hk with
    | 0, _ => exact ⟨2, rfl, by decide, by decide⟩
    | 1, _ => exact ⟨37, rfl, by decide, by decide⟩
    | k + 2, hw => omega
  repeat' decreasing_trivial_pre_omega
  refine w_imp (integer_w D1 d _ rfl hd.1 (by omega) (by omega)) ?_
  rintro _ _ ⟨D2, at0, hc2, hat, rfl, rfl⟩
  have hat : at0 < 10 ^ 37 := by
    have := Nat.pow_le_pow_right (show 0 < 10 by decide) hd.2
    generalize 10 ^ d = z at hat this
    have e37 : (60 : Nat) < 10 ^ 37 := by decide
    omega
  repeat' decreasing_trivial_pre_omega
  refine w_imp (drw_w D2 4 (by decide) (by decide) (by omega)) ?_
  rintro _ _ ⟨k2, D3, hk2, hc3, rfl, rfl⟩
  obtain ⟨m, hx2, hm⟩ : ∃ n : Nat, [PyData.int 2, PyData.int 6, PyData.int 20, PyData.int 100][k2]? = some (nT n) ∧ 0 < n ∧ n ≤ 100 := by
    match k2, hk2 with
    | 0, _ => exact ⟨2, rfl, by decide, by decide⟩
    | 1, _ => exact ⟨6, rfl, by decide, by decide⟩
    | 2, _ => exact ⟨20, rfl, by decide, by decide⟩
    | 3, _ => exact ⟨100, rfl, by decide, by decide⟩
    | k + 4, hw => omega
  repeat' decreasing_trivial_pre_omega
  refine w_imp (drw_w D3 m hm.1 (by omega) (by omega)) ?_
  rintro _ _ ⟨tn, D4, htn, hc4, rfl, rfl⟩
  repeat' decreasing_trivial_pre_omega
  refine kr1_eq (1 + tn) rfl (by simp) (by omega) ?_
  refine for_below (fun k e => ∃ (D' : Dk) (ps : List (Int × Int)) (at' : Nat) (s8 s9 : Sl), (lentS s8 = false ∧ lentS s9 = false) ∧ D'.c ≤ D4.c + k * 12 ∧ ps.length = k ∧ at' ≤ at0 + k * (2 * (10 ^ 37 + 60)) ∧ ((∀ p ∈ ps, OkP p) ∧ (∀ k a b, (endsL ps)[k]? = some a → (endsL ps)[k + 1]? = some b → a < b) ∧ ∀ x ∈ endsL ps, x < (at' : Int)) ∧ e = [.ow true (.l (dkT D')), .v (nT 2), .v (.int 40), .v (.int 20), .un, .un, .ow false (.l (ps.map cT)), .v (nT at'), s8, s9, .un, .un, .un]) ⟨D4, [], at0, .un, .un, ⟨rfl, rfl⟩, by simp, rfl, by omega, ⟨by simp, fun k a b h => (by simp [endsL] at h), fun x h => (by simp [endsL] at h)⟩, rfl⟩ ?_ ?_
  · rintro j hj e ⟨D', ps, at', s8, s9, ⟨a8, a9⟩, h1, h2, h3, ⟨h4, h5, h6⟩, rfl⟩
    refine ⟨_, gN_ok (by first | rfl | exact Wp.isLent_of rfl (by assumption)) rfl, ?_⟩
    unfold y1__law_door
    repeat' decreasing_trivial_pre_omega
    refine w_imp (drw_w D' 3 (by decide) (by decide) (by omega)) ?_
    rintro _ _ ⟨i1, D5, hi1, hc5, rfl, rfl⟩
    obtain ⟨d1, hx3, hd1⟩ := pick37 hi1
    repeat' decreasing_trivial_pre_omega
    refine w_imp (above_w D5 at' d1 _ rfl hd1.1 (by omega) (by omega)) ?_
    rintro _ _ ⟨D6, beh, hc6, hbeh, rfl, rfl⟩
    have hbeh := z37 hd1.2 hbeh
    have ha : (ps.map cT).length < sizeLine := by rw [List.length_map]; unfold sizeLine; omega
    repeat' decreasing_trivial_pre_omega
    refine w_imp (drw_w D6 3 (by decide) (by decide) (by omega)) ?_
    rintro _ _ ⟨i2, D7, hi2, hc7, rfl, rfl⟩
    obtain ⟨d2, hx4, hd2⟩ := pick37 hi2
    repeat' decreasing_trivial_pre_omega
    refine w_imp (above_w D7 beh d2 _ rfl hd2.1 (by omega) (by omega)) ?_
    rintro _ _ ⟨D8, at2, hc8, hat2, rfl, rfl⟩
    have hat2 := z37 hd2.2 hat2
    repeat' decreasing_trivial_pre_omega
    have b1 : (at' : Int) < 10 ^ 40 ∧ (beh : Int) < 10 ^ 40 := by omega
    refine ⟨D8, ps ++ [((at' : Int), (beh : Int))], at2, .v (nT j), .v (nT beh), ⟨rfl, rfl⟩, by omega, by rw [List.length_append, h2]; rfl, by omega, ⟨?_, ends_more h5 h6 (by omega), ?_⟩, by rw [List.map_append]; rfl⟩
    · intro r hr
      rcases List.mem_append.mp hr with hr | hr
      · exact h4 r hr
      · rw [List.mem_singleton.mp hr]
        exact ⟨by dsimp only; omega, by dsimp only; omega⟩
    · intro x hx
      rw [ends_app] at hx
      rcases List.mem_append.mp hx with hx | hx
      · have := h6 x hx
        omega
      · simp only [List.mem_cons, List.not_mem_nil, or_false] at hx
        omega
  · rintro e ⟨D', ps, at', s8, s9, ⟨a8, a9⟩, h1, h2, h3, ⟨h4, h5, h6⟩, rfl⟩
    have hl : ps.length ≤ 1000 := by omega
    have ee : PyData.tuple (ps.map cT) = spansT ps := rfl
    have hps : ps ≠ [] := fun z => by rw [z] at h2; simp at h2; omega
    have t0 : Dn 2 (.tuple (ps.map cT)) (spansS ps) := by rw [ee]; exact dn2 ⟨hps, hl, h4, h5⟩
    clear ee
    repeat' decreasing_trivial_pre_omega
    unfold x1__law_door
    repeat' decreasing_trivial_pre_omega
    refine comp_map_w cT (fun i => .str (spanS i)) ps (by unfold sizeLine; omega) (fun p hi => ⟨_, rfl, ?_⟩) ?_
    · have l1 := num_log (h4 p hi).a
      have l2 := num_log (h4 p hi).b
      have n1 := numS_len (h4 p hi).a
      have n2 := numS_len (h4 p hi).b
      have j1 : (numS p.1).length + ("-" : Str).length ≤ sizeLine := by rw [dash_len]; unfold sizeLine; omega
      have j2 : (numS p.1 ++ ("-" : Str)).length + (numS p.2).length ≤ sizeLine := by rw [app_len, dash_len]; unfold sizeLine; omega
      repeat' decreasing_trivial_pre_omega
      exact ⟨rfl, rfl⟩
    · have q2 := strs_map2 spanS ps
      have q3 := spans_fit hl h4
      repeat' decreasing_trivial_pre_omega
      exact ⟨D', _, _, by omega, t0, rfl, rfl⟩
end Lw

set_option linter.all false
set_option maxRecDepth 100000
set_option maxHeartbeats 4000000
namespace Lw
open PySem PySem.Spec Ev Pu Mt Wp
local macro_rules | `(tactic| decreasing_trivial_pre_omega) => `(tactic| (first | with_reducible apply Wp.w_seq | with_reducible apply Wp.w_drop | with_reducible apply Wp.w_if | with_reducible apply Wp.w_set | with_reducible apply Wp.w_ret | with_reducible apply Wp.w_asg | with_reducible apply Wp.w_par | with_reducible apply Wp.w_op2 | with_reducible apply Wp.w_acons | with_reducible apply Wp.w_fng | with_reducible apply Wp.w_tup | with_reducible apply Wp.w_lst | with_reducible apply Wp.w_call | with_reducible apply Wp.w_callk | with_reducible apply Wp.w_eand | with_reducible apply Wp.w_eor | with_reducible apply Wp.w_enot | with_reducible apply Wp.w_eif | with_reducible apply Wp.w_tb | with_reducible apply Wp.w_tnot | with_reducible apply Wp.w_tand | with_reducible apply Wp.w_tor | with_reducible apply Wp.w_neg | with_reducible apply Wp.w_isi | with_reducible apply Wp.w_sl | with_reducible apply Wp.w_pso | with_reducible apply Wp.w_rev | with_reducible apply Wp.w_index | with_reducible apply Wp.w_for | with_reducible apply Wp.w_iof | with_reducible apply Wp.w_r1 | with_reducible apply Wp.w_r2 | with_reducible apply Wp.w_comp | with_reducible apply Wp.w_compG | with_reducible apply Wp.w_izip | with_reducible apply Wp.w_izip2 | with_reducible apply Wp.w_ienu | with_reducible apply Wp.w_setix | with_reducible apply Wp.w_join | with_reducible apply Wp.kjoin1 | with_reducible apply Wp.w_fmt | with_reducible apply Wp.w_js_nil | with_reducible apply Wp.w_js | with_reducible apply Wp.w_dictp | with_reducible apply Wp.w_putS | with_reducible apply Wp.putS_nil | with_reducible apply Wp.w_r2w | with_reducible apply Wp.w_nil | with_reducible apply Wp.w_brk | with_reducible apply Wp.w_cnt | with_reducible apply Wp.w_retN | with_reducible apply Wp.w_k | with_reducible apply Wp.w_anil | with_reducible apply Wp.w_pno | with_reducible apply Wp.w_true | with_reducible apply Wp.w_rep | with_reducible apply Wp.krep1 | with_reducible apply Wp.w_mdict1 | with_reducible apply Wp.w_mnew | with_reducible apply Wp.w_min | with_reducible apply Wp.w_mput | with_reducible apply Wp.w_dput | with_reducible apply Wp.kmd1 | with_reducible apply Wp.ksl_ | with_reducible apply Wp.ksl1 | with_reducible apply Wp.ktwo1 | with_reducible apply Wp.kcons1 | with_reducible apply Wp.kseq_rt | with_reducible apply Wp.kseq_bk | with_reducible apply Wp.kseq_ct | with_reducible apply Wp.kret_r | with_reducible apply Wp.kret_b | with_reducible apply Wp.ktb | with_reducible apply Wp.kfun_rt | with_reducible apply Wp.kfun_nx | with_reducible apply Wp.kturn_nx | with_reducible apply Wp.kturn_ct | with_reducible apply Wp.kturn_rt | with_reducible apply Wp.kturn_bk | with_reducible apply Wp.w_sm1 | with_reducible apply Wp.w_sm0 | with_reducible apply Wp.w_slS | with_reducible apply Wp.ksm1 | with_reducible apply Wp.ksls1 | with_reducible apply Wp.ksls2 | ((with_reducible apply Wp.kseq_nx_n); (focus (((try simp only [Ev.wb, Ev.bk, List.set_cons_zero, List.set_cons_succ, List.getElem?_cons_zero, List.getElem?_cons_succ, List.cons_append, List.nil_append, List.append_nil]); rfl); done))) | ((with_reducible apply Wp.kback_r_n); (focus (((try simp only [Ev.wb, Ev.bk, List.set_cons_zero, List.set_cons_succ, List.getElem?_cons_zero, List.getElem?_cons_succ, List.cons_append, List.nil_append, List.append_nil]); rfl); done))) | ((with_reducible apply Wp.kback_b_n); (focus (((try simp only [Ev.wb, Ev.bk, List.set_cons_zero, List.set_cons_succ, List.getElem?_cons_zero, List.getElem?_cons_succ, List.cons_append, List.nil_append, List.append_nil]); rfl); done))) | ((with_reducible apply Wp.w_var_v); (focus (rfl; done))) | ((with_reducible apply Wp.w_var_o); (focus (rfl; done))) | ((with_reducible apply Wp.w_var_f); (focus (rfl; done))) | ((with_reducible apply Wp.kset_r); (focus (exact (by first | rfl | exact Wp.isLent_of rfl (by assumption)); done))) | ((with_reducible apply Wp.kset_b); (focus (exact (by first | rfl | exact Wp.isLent_of rfl (by assumption)); done))) | ((with_reducible apply Wp.kset_s); (focus (exact (by first | rfl | exact Wp.isLent_of rfl (by assumption)); done)); (focus (rfl; done))) | ((with_reducible apply Wp.kret_so); (focus (rfl; done))) | ((with_reducible apply Wp.kasg); (focus (rfl; done)); (focus ((first | rfl | (repeat' (first | refine Wp.gN_ok (by first | rfl | exact Wp.isLent_of rfl (by assumption)) rfl | refine Wp.gsNil_ok rfl | with_reducible apply Wp.gsCons_ok | apply Wp.gT_ok rfl))); done))) | ((with_reducible apply Wp.kpar); (focus (rfl; done)); (focus ((repeat (first | refine Wp.setOs_nil rfl | (apply Wp.setOs_r; (focus exact (by first | rfl | exact Wp.isLent_of rfl (by assumption)))) | (apply Wp.setOs_b; (focus exact (by first | rfl | exact Wp.isLent_of rfl (by assumption)))))); done))) | ((with_reducible apply Wp.ktwo2); (focus (rfl; done)); (focus (rfl; done)); (focus ((first | with_reducible assumption | with_reducible exact Wp.gEq_e _ _ | with_reducible exact Wp.gEq_n _ _ | with_reducible exact Wp.gEq_i _ _ _ | exact Wp.gAppend_ok (by assumption) | exact Wp.gIx_l (by assumption) | exact Wp.gIx_t (by assumption) | exact Wp.gStr_ok (by assumption) | exact Ev.gLenS_ok (by assumption) | exact Wp.gAdd_ss (by assumption) | exact Ev.gMulX_ok (by assumption) | exact Wp.gAdd_tt (by assumption) | exact Wp.gAdd_ll (by assumption) | exact Wp.gMul_ok (by assumption) | exact Wp.gMod_ok (by assumption) | exact Wp.gDiv_ok (by assumption) (by assumption) | rfl | assumption | exact Ev.gPowW_ok (by assumption)); done))) | ((with_reducible apply Wp.kfng); (focus (rfl; done)); (focus ((first | with_reducible assumption | with_reducible exact Wp.gEq_e _ _ | with_reducible exact Wp.gEq_n _ _ | with_reducible exact Wp.gEq_i _ _ _ | exact Wp.gAppend_ok (by assumption) | exact Wp.gIx_l (by assumption) | exact Wp.gIx_t (by assumption) | exact Wp.gStr_ok (by assumption) | exact Ev.gLenS_ok (by assumption) | exact Wp.gAdd_ss (by assumption) | exact Ev.gMulX_ok (by assumption) | exact Wp.gAdd_tt (by assumption) | exact Wp.gAdd_ll (by assumption) | exact Wp.gMul_ok (by assumption) | exact Wp.gMod_ok (by assumption) | exact Wp.gDiv_ok (by assumption) (by assumption) | rfl | assumption | exact Ev.gPowW_ok (by assumption)); done))) | ((with_reducible apply Wp.kdisp_t); (focus (rfl; done)); (focus (rfl; done))) | ((with_reducible apply Wp.kdisp_l); (focus (rfl; done)); (focus (rfl; done))) | ((with_reducible apply Wp.kcall); (focus (rfl; done)); (focus (rfl; done)); (focus (exact of_decide_eq_true rfl; done))) | ((with_reducible apply Wp.kcallk); (focus (decide; done)); (focus (exact ⟨rfl, rfl⟩; done)); (focus (rfl; done)); (focus (exact of_decide_eq_true rfl; done))) | ((with_reducible apply Wp.w_mut); (focus (rfl; done))) | ((with_reducible apply Wp.kmut2); (focus (rfl; done)); (focus (rfl; done)); (focus ((first | with_reducible assumption | with_reducible exact Wp.gEq_e _ _ | with_reducible exact Wp.gEq_n _ _ | with_reducible exact Wp.gEq_i _ _ _ | exact Wp.gAppend_ok (by assumption) | exact Wp.gIx_l (by assumption) | exact Wp.gIx_t (by assumption) | exact Wp.gStr_ok (by assumption) | exact Ev.gLenS_ok (by assumption) | exact Wp.gAdd_ss (by assumption) | exact Ev.gMulX_ok (by assumption) | exact Wp.gAdd_tt (by assumption) | exact Wp.gAdd_ll (by assumption) | exact Wp.gMul_ok (by assumption) | exact Wp.gMod_ok (by assumption) | exact Wp.gDiv_ok (by assumption) (by assumption) | rfl | assumption | exact Ev.gPowW_ok (by assumption)); done))) | ((with_reducible apply Wp.kif_t); (focus (rfl; done))) | ((with_reducible apply Wp.kif_f); (focus (rfl; done))) | ((with_reducible apply Wp.kif_t); (focus (assumption; done))) | ((with_reducible apply Wp.kif_f); (focus (assumption; done))) | ((with_reducible apply Wp.kife_t); (focus (rfl; done))) | ((with_reducible apply Wp.kife_f); (focus (rfl; done))) | ((with_reducible apply Wp.kand_t); (focus (rfl; done))) | ((with_reducible apply Wp.kand_f); (focus (rfl; done))) | ((with_reducible apply Wp.kor_t); (focus (rfl; done))) | ((with_reducible apply Wp.kor_f); (focus (rfl; done))) | ((with_reducible apply Wp.kande_t); (focus (rfl; done))) | ((with_reducible apply Wp.kande_f); (focus (rfl; done))) | ((with_reducible apply Wp.kore_t); (focus (rfl; done))) | ((with_reducible apply Wp.kore_f); (focus (rfl; done))) | ((with_reducible apply Wp.ktb_s); (focus (rfl; done))) | ((with_reducible apply Wp.kneg); (focus (rfl; done))) | ((with_reducible apply Wp.kisi); (focus (rfl; done))) | ((with_reducible apply Wp.kpso); (focus (rfl; done))) | ((with_reducible apply Wp.kof_l); (focus (rfl; done))) | ((with_reducible apply Wp.kof_t); (focus (rfl; done))) | ((with_reducible apply Wp.krev_l); (focus (rfl; done))) | ((with_reducible apply Wp.krev_t); (focus (rfl; done))) | ((with_reducible apply Wp.kindex1_); (focus (rfl; done))) | ((with_reducible apply Wp.kjoin2); (focus (rfl; done)); (focus (assumption; done)); (focus (assumption; done))) | ((with_reducible apply Wp.kfmt_s); (focus (rfl; done)); (focus (assumption; done))) | ((with_reducible apply Wp.kfmt_i); (focus (rfl; done)); (focus (assumption; done))) | ((with_reducible apply Wp.kjs); (focus (assumption; done))) | ((with_reducible apply Wp.ksl2_l); (focus (rfl; done))) | ((with_reducible apply Wp.ksl2_t); (focus (rfl; done))) | ((with_reducible apply Wp.w_mget); (focus (rfl; done))) | ((with_reducible apply Wp.kmget); (focus (rfl; done)); (focus (rfl; done)); (focus (rfl; done)); (focus (assumption; done))) | ((with_reducible apply Wp.kmin); (focus (rfl; done)); (focus (rfl; done)); (focus (rfl; done)); (focus (assumption; done))) | ((with_reducible apply Wp.kmput1); (focus (rfl; done))) | ((with_reducible apply Wp.kmput2); (focus (rfl; done)); (focus (rfl; done)); (focus (rfl; done)); (focus (rfl; done)); (focus (assumption; done))) | ((with_reducible apply Wp.kmd2); (focus (rfl; done)); (focus (rfl; done))) | ((with_reducible apply Wp.w_dget); (focus (rfl; done))) | ((with_reducible apply Wp.kdget); (focus (rfl; done)); (focus (rfl; done)); (focus (rfl; done)); (focus (assumption; done))) | ((with_reducible apply Wp.kdput1); (focus (rfl; done))) | ((with_reducible apply Wp.kdput2); (focus (rfl; done)); (focus (rfl; done)); (focus (rfl; done)); (focus (rfl; done)); (focus (assumption; done))) | ((with_reducible apply Wp.ksetix1); (focus (rfl; done))) | ((with_reducible apply Wp.ksetix2); (focus (rfl; done)); (focus (rfl; done)); (focus (rfl; done)); (focus ((first | rfl | assumption | exact Wp.ixN_nat (by assumption)); done))) | ((with_reducible apply Wp.kdictp); (focus (rfl; done)); (focus (assumption; done))) | ((with_reducible apply Wp.kputS); (focus (rfl; done)); (focus (rfl; done)); (focus (rfl; done))) | ((with_reducible apply Wp.putS_l); (focus (rfl; done))) | ((with_reducible apply Wp.putS_d); (focus (rfl; done))) | ((with_reducible apply Wp.kputL); (focus (rfl; done)); (focus (rfl; done)); (focus ((first | rfl | assumption | exact Wp.ixN_nat (by assumption)); done))) | ((with_reducible apply Wp.kputD); (focus (rfl; done)); (focus (rfl; done)); (focus (rfl; done)); (focus (assumption; done))) | ((with_reducible apply Wp.kr2w); (focus (rfl; done))) | ((with_reducible apply Wp.kzip); (focus (rfl; done))) | ((with_reducible apply Wp.w_inmG); (focus (rfl; done)); (focus (rfl; done))) | ((with_reducible apply Wp.w_izipV_l); (focus (rfl; done)); (focus (rfl; done)); (focus (rfl; done)); (focus (rfl; done))) | ((with_reducible apply Wp.w_izipV_r); (focus (rfl; done)); (focus (rfl; done)); (focus (rfl; done)); (focus (rfl; done))) | ((with_reducible apply Wp.kzip2_l); (focus (rfl; done))) | ((with_reducible apply Wp.kzip2_t); (focus (rfl; done))) | ((with_reducible apply Wp.kenu); (focus (rfl; done))) | ((with_reducible apply Wp.w_aug); (focus (rfl; done))) | ((with_reducible apply Wp.kaug); (focus (rfl; done)); (focus ((first | with_reducible assumption | with_reducible exact Wp.gEq_e _ _ | with_reducible exact Wp.gEq_n _ _ | with_reducible exact Wp.gEq_i _ _ _ | exact Wp.gAppend_ok (by assumption) | exact Wp.gIx_l (by assumption) | exact Wp.gIx_t (by assumption) | exact Wp.gStr_ok (by assumption) | exact Ev.gLenS_ok (by assumption) | exact Wp.gAdd_ss (by assumption) | exact Ev.gMulX_ok (by assumption) | exact Wp.gAdd_tt (by assumption) | exact Wp.gAdd_ll (by assumption) | exact Wp.gMul_ok (by assumption) | exact Wp.gMod_ok (by assumption) | exact Wp.gDiv_ok (by assumption) (by assumption) | rfl | assumption | exact Ev.gPowW_ok (by assumption)); done)); (focus (exact (by first | rfl | exact Wp.isLent_of rfl (by assumption)); done))) | ((with_reducible apply Wp.kelt); (focus (rfl; done))) | ((with_reducible apply Wp.ksm1b); (focus ((first | assumption | rfl); done))) | ((with_reducible apply Wp.ksm0); (focus ((first | assumption | rfl); done))) | ((with_reducible apply Wp.ksls3); (focus (assumption; done)))))
theorem door_w (D : Dk) (k : Nat) (hk : k < 6) (hc : D.c + 2000 ≤ 10 ^ 9) : W (m__law_door [.ow true (.l (dkT D)), .v (nT k), .v (.int 40), .v (.int 20)]) (DoorQ D k) := by
  match k, hk with
  | 0, _ => exact door0 D hc
  | 1, _ => exact door1 D hc
  | 2, _ => exact door2 D hc
  | 3, _ => exact door3 D hc
  | 4, _ => exact door4 D hc
  | 5, _ => exact door5 D hc
  | k + 6, h => omega
structure Rw where
  k : Nat
  t : T
  y : Str
  th : Dn k t y
def rT (r : Rw) : T := .tuple [nT r.k, r.t, .str r.y]
theorem law_n (m : Nat) : ∃ n : Nat, n ≤ 6 ∧ (if (if (m : Int) < 6 then (m : Int) else 6) > 1 then (if (m : Int) < 6 then (m : Int) else 6) else 1) = (n : Int) := by
  by_cases h : (m : Int) < 6
  · rw [if_pos h]
    by_cases h2 : (m : Int) > 1
    · rw [if_pos h2]; exact ⟨m, by omega, rfl⟩
    · rw [if_neg h2]; exact ⟨1, by omega, rfl⟩
  · rw [if_neg h, if_pos (by decide)]
    exact ⟨6, by omega, rfl⟩
theorem turn3 (r : Rw) (s0 s1 s2 s3 s7 : Sl) : W (y3_law [s0, s1, s2, s3, .v (nT r.k), .v r.t, .v (.str r.y), s7]) fun fl e => fl = .nx ∧ e = [s0, s1, s2, s3, .v (nT r.k), .v r.t, .v (.str r.y), s7] := by
  have hf := r.th.fit
  unfold y3_law
  repeat' decreasing_trivial_pre_omega
  refine w_of (r.th.rd _) ?_
  repeat' decreasing_trivial_pre_omega
  refine w_of (same_t 6 r.t r.th.pl 8 (by omega)) ?_
  repeat' decreasing_trivial_pre_omega
  exact ⟨rfl, rfl⟩
theorem turn1 (ns : List Int) (p : Nat) (hp : p < 6) (D : Dk) (k : Nat) (hk : k < 6) (hD : D.c + 2001 ≤ 10 ^ 9) (rs : List Rw) (hrs : rs.length ≤ 36) (hrs2 : rs.length < 36) (s5 s6 s7 : Sl) (a5 : lentS s5 = false) (a6 : lentS s6 = false) (a7 : lentS s7 = false) :
    W (y1_law [.v (scT ns), .ow false (.l (rs.map rT)), .v (nT p), .ow false (.l (dkT D)), .v (nT k), s5, s6, s7]) fun fl e => fl = .nx ∧ ∃ (D' : Dk) (r : Rw) (s5 s6 s7 : Sl), (lentS s5 = false ∧ lentS s6 = false ∧ lentS s7 = false) ∧ D'.c ≤ D.c + 2001 ∧ e = [.v (scT ns), .ow false (.l ((rs ++ [r]).map rT)), .v (nT p), .ow false (.l (dkT D')), .v (nT k), s5, s6, s7] := by
  unfold y1_law
  repeat' decreasing_trivial_pre_omega
  refine w_imp (door_w D k hk (by omega)) ?_
  rintro _ _ ⟨D1, t, y, hc1, dn, rfl, rfl⟩
  repeat' decreasing_trivial_pre_omega
  refine w_imp (drw_w D1 2 (by decide) (by decide) (by omega)) ?_
  rintro _ _ ⟨v, D2, hv, hc2, rfl, rfl⟩
  have ha : (rs.map rT).length < sizeLine := by rw [List.length_map]; unfold sizeLine; omega
  repeat' decreasing_trivial_pre_omega
  refine w_of (dn.rd _) ?_
  repeat' decreasing_trivial_pre_omega
  refine w_of (same_t 6 t dn.pl 8 (by omega)) ?_
  repeat' decreasing_trivial_pre_omega
  refine w_of dn.sh ?_
  repeat' decreasing_trivial_pre_omega
  refine w_of (same_s y dn.ok) ?_
  repeat' decreasing_trivial_pre_omega
  exact ⟨rfl, D2, ⟨k, t, y, dn⟩, .v t, .v (.str y), .v t, ⟨rfl, rfl, rfl⟩, by omega, by rw [List.map_append]; rfl⟩
theorem pure_law : ∀ ns : List Int, ns.length ≤ 63 → (∀ k ∈ ns, Builtin.Int.intBits k ≤ 1048576) → ∃ e', m_law [.v (.list (ns.map PyData.int))] = .ok (.r (.bool true)) e' := by
  intro ns hns hb
  suffices h : W (m_law [.v (scT ns)]) fun r e => r = .r (.bool true) by
    obtain ⟨r, e, h, rfl⟩ := h
    exact ⟨e, h⟩
  obtain ⟨n, hn6, hn⟩ := law_n (ns.map PyData.int).length
  unfold m_law
  (apply Wp.w_fun; (focus (rfl; done)); (focus (((try simp only [List.cons_append, List.nil_append, List.length_cons, List.length_nil, Nat.reduceAdd, Nat.reduceSub, Nat.zero_add, Nat.sub_zero, List.replicate_succ, List.replicate_zero, List.append_nil]); rfl); done)))
  unfold b_law l2_law
  repeat' decreasing_trivial_pre_omega
  refine kr1_eq n rfl hn (by omega) (for_below (fun p e => ∃ (rs : List Rw) (s2 s3 s4 s5 s6 s7 : Sl), (lentS s2 = false ∧ lentS s3 = false ∧ lentS s4 = false ∧ lentS s5 = false ∧ lentS s6 = false ∧ lentS s7 = false) ∧ rs.length = p * 6 ∧ e = [.v (scT ns), .ow false (.l (rs.map rT)), s2, s3, s4, s5, s6, s7]) ⟨[], .un, .un, .un, .un, .un, .un, ⟨rfl, rfl, rfl, rfl, rfl, rfl⟩, rfl, rfl⟩ ?_ ?_)
  · rintro p hp e ⟨rs, s2, s3, s4, s5, s6, s7, ⟨a2, a3, a4, a5, a6, a7⟩, h1, rfl⟩
    refine ⟨_, gN_ok (by first | rfl | exact Wp.isLent_of rfl (by assumption)) rfl, ?_⟩
    unfold y2_law
    repeat' decreasing_trivial_pre_omega
    refine w_imp (well_w ns hb hns p (by omega)) ?_
    rintro _ _ ⟨D, hD, rfl, rfl⟩
    unfold l1_law
    repeat' decreasing_trivial_pre_omega
    refine kr1 (n := 6) rfl (by decide) ?_
    refine for_below (fun k e => ∃ (D' : Dk) (qs : List Rw) (s4 s5 s6 s7 : Sl), (lentS s4 = false ∧ lentS s5 = false ∧ lentS s6 = false ∧ lentS s7 = false) ∧ D'.c ≤ k * 2001 ∧ qs.length = p * 6 + k ∧ e = [.v (scT ns), .ow false (.l (qs.map rT)), .v (nT p), .ow false (.l (dkT D')), s4, s5, s6, s7]) ⟨D, rs, s4, s5, s6, s7, ⟨a4, a5, a6, a7⟩, by omega, by omega, rfl⟩ ?_ ?_
    · rintro k hk e ⟨D', qs, s4, s5, s6, s7, ⟨a4, a5, a6, a7⟩, h2, h3, rfl⟩
      refine ⟨_, gN_ok (by first | rfl | exact Wp.isLent_of rfl (by assumption)) rfl, ?_⟩
      refine w_imp (turn1 ns p (by omega) D' k hk (by omega) qs (by omega) (by omega) s5 s6 s7 a5 a6 a7) ?_
      rintro _ _ ⟨rfl, D2, r, s5, s6, s7, ⟨a5, a6, a7⟩, h4, rfl⟩
      refine kturn_nx ?_
      exact ⟨D2, qs ++ [r], .v (nT k), s5, s6, s7, ⟨rfl, a5, a6, a7⟩, by omega, by rw [List.length_append, h3]; rfl, rfl⟩
    · rintro e ⟨D', qs, s4, s5, s6, s7, ⟨a4, a5, a6, a7⟩, h2, h3, rfl⟩
      refine kturn_nx ?_
      exact ⟨qs, _, _, s4, s5, s6, s7, ⟨rfl, rfl, a4, a5, a6, a7⟩, by omega, rfl⟩
  · rintro e ⟨rs, s2, s3, s4, s5, s6, s7, ⟨a2, a3, a4, a5, a6, a7⟩, h1, rfl⟩
    unfold l3_law
    repeat' decreasing_trivial_pre_omega
    rw [← List.map_reverse]
    refine for_on_w rT rs.reverse (fun _ e => ∃ (s1 s4 s5 s6 : Sl), (lentS s4 = false ∧ lentS s5 = false ∧ lentS s6 = false) ∧ e = [.v (scT ns), s1, s2, s3, s4, s5, s6, s7]) ⟨_, s4, s5, s6, ⟨a4, a5, a6⟩, rfl⟩ ?_ ?_
    · rintro don r rest hx e ⟨s1, s4, s5, s6, ⟨a4, a5, a6⟩, rfl⟩
      refine ⟨[.v (scT ns), s1, s2, s3, .v (nT r.k), .v r.t, .v (.str r.y), s7], ?_, ?_⟩
      · unfold rT
        (first | rfl | (repeat' (first | refine Wp.gN_ok (by first | rfl | exact Wp.isLent_of rfl (by assumption)) rfl | refine Wp.gsNil_ok rfl | with_reducible apply Wp.gsCons_ok | apply Wp.gT_ok rfl)))
      refine w_imp (turn3 r _ _ _ _ _) ?_
      rintro _ _ ⟨rfl, rfl⟩
      refine kturn_nx ?_
      exact ⟨s1, _, _, _, ⟨rfl, rfl, rfl⟩, rfl⟩
    · rintro e ⟨s1, s4, s5, s6, ⟨a4, a5, a6⟩, rfl⟩
      repeat' decreasing_trivial_pre_omega
      rfl
end Lw

set_option maxHeartbeats 4000000
namespace Lw
open PySem PySem.Spec PyProof.Rows L2 Ev Lz
theorem facts {P : Program} {w : World} {K : PySem.W.Frag} {h : Heap} {mg : Str → Option Value} {f : Addr} (X : K.In h) (G : h.Ns mainGlobals mg) (hfa : mg ("law" : Str) = some (.ref f)) (c : He.SaysD fa fn K) :
    ∃ fd : FuncData, (∀ (s : Shared) (v : Value), BindsTo s fd ⟨[v], []⟩ [("script", v)]) ∧ ∀ base : Heap, K.In base → base.Ns mainGlobals mg → FnOk P w K mg base CXE 10 f fd ["script"] (spF K 1 m_law) := by
  have e := hfa.symm.trans (He.glo_ok X G (c.fact 54 (f := .glo "law") rfl))
  cases e
  obtain ⟨fd, F⟩ := c.def_ 54 (d := d_law) rfl
  have F : FunD K "law" "law" (defArgs s_law) (defBody s_law) (defScope s_law) [] [] (He.ga K "law") fd := F
  have b := FunD.bindsA (ps := ["script"]) F fun _ _ _ _ _ _ us hl => match us, hl with | [_], _ => rfl
  refine ⟨fd, fun s v => b s [v] rfl, fun base _ _ => ?_⟩
  obtain ⟨fd', F', O⟩ := ok_law (P := P) (w := w) (base := base) X G c
  have ee : fd = fd' := by
    obtain ⟨_, _, _, _, _, _, _, _, _, _, e1, l1, _⟩ := F.ex
    obtain ⟨_, _, _, _, _, _, _, _, _, _, e2, l2, _⟩ := F'.ex
    rw [l1] at l2
    cases l2
    rfl
  rw [ee]
  exact fnok_cx O
end Lw
open PySem PySem.W PySem.Calls PyProof.Rows
theorem PySem.Challenge.cw_squarethreads_k45_whole_texts_there_and_holds : PySem.Challenge.rw_squarethreads_k45_whole_texts_there_and.Holds := by
  w_on; o_law
  refine HandSHeadRun.head_any (r := OpenLaw.row PySem.Challenge.rw_squarethreads_k45_whole_texts_there_and) (q := view (OpenLaw.row PySem.Challenge.rw_squarethreads_k45_whole_texts_there_and).prog [65]) (H := Lz.hk) (ob := Lz.ob) (M := 4000) (loose := Lz.loose) (d := HandSHeadRun.topDef (OpenLaw.row PySem.Challenge.rw_squarethreads_k45_whole_texts_there_and).prog 65) (kwd := []) Lz.ob_eq
    (by kernel_rfl) (fun s => by kernel_rfl) Lz.run (by kernel_rfl) (by kernel_rfl) (by kernel_rfl) (by rfl) (by first | assumption | decide +kernel) (by decide +kernel) ⟨rfl, rfl, rfl, rfl, rfl, by decide +kernel⟩ ?hw ?hc
  case hw => w_witness2
  case hc =>
    refine L2.walk_ofEB (l := PySem.Challenge.rw_squarethreads_k45_whole_texts_there_and) (n := 63) (k := 10) (x := "script") (CX := Ev.CXE) rfl (by decide) (by kernel_rfl) ⟨rfl, by decide, by decide⟩ ?F Ev.law_CXE
    intro w mg fa h Y G hmg0
    obtain ⟨K, KX, c⟩ := Y
    have hmg : mg ("law" : PySem.Str) = some (.ref fa) := by
      have e : (HandSHeadRun.topDef (OpenLaw.row PySem.Challenge.rw_squarethreads_k45_whole_texts_there_and).prog 65).name = ("law" : PySem.Str) := by kernel_rfl
      rw [← e]
      exact hmg0
    obtain ⟨fd, hb, hF⟩ := Lw.facts (P := (PySem.Challenge.rw_squarethreads_k45_whole_texts_there_and).prog) (w := w) KX G hmg c
    exact ⟨K, fd, _, KX, hb, fun H a ns hl hbits _ hS => Ev.law_sp hS (Lw.pure_law ns hl hbits), hF⟩


