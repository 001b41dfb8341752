import PyProof.Rows.All
import Wide.All
import OpenK.AllK
import Wide.FinOn
import KE.KStateDown
import HandS.Head0
import HandS.Head1
import HandS.Head2
import HandS.HeadEnd
import HandS.HeadHook1
import HandS.HeadHook2
import HandS.HeadHook4
import HandS.Words
import HandS.Base
import HandS.Call
import HandS.HeadHook3
import HandS.ExcInit
import HandS.ExcField
import HandS.List
import HandS.Comp
import HandS.Iter
import HandS.IsInst
import HandS.Wide
import HandS.More
import HandS.ExcOwn
import KE.KeyNested
import HandS.TupAny
import HandS.Deep
import HandS.TupMul
import HandS.Style
import HandS.Zip
import HandS.Walk
import HandS.WordsExc
import HandS.Defaults
import HandS.ExcCtx
import HandS.TupSets
import PyProof.LongRange
import PyProof.RangeFor
import HandS.Dict
import HandS.TupLen
import KE.KDictDisplayH
import KE.SortData
import HandS.DictTup
import KE.KDictZip
import HandS.DictComp
import PyProof.DictMoreH
import HandS.SetKeys
import PyProof.ListRange
import HandS.Sort
import HandS.WordsDict
import HandS.Small
import PyProof.Rows.RuleB_pow
import HandS.Text
import HandS.FStr
import HandS.EndBits
import PyProof.AutoSeq1
import HandS.Steps
import HandS.StrMore
import HandS.Hot
import HandS.HotCalls
import HandS.ExcInitHot
import PyProof.StrOps2
import HandS.Replace
import HandS.ReplaceLit
import KE.DatumOrd
import PyProof.ReprRoads
import HandS.WideBits
import PySem.Challenge.RW_squarethreads_k32_whole_fields_judged
set_option Elab.async false
set_option linter.all false
set_option maxRecDepth 100000
set_option Elab.async false
set_option linter.all false
set_option maxRecDepth 100000
namespace Ev
open PySem PySem.Spec PyProof.Rows L2
/-- whether an exception of the class c is one of the class h -/
def subE (c h : Str) : Bool := c == h || h == ("ThreadError" : Str)
abbrev iniP : Str × Option Str := ("ThreadError", some "__init__")
end Ev

set_option maxHeartbeats 4000000
namespace Lz
open PySem PySem.Spec PyProof.Rows L2
def top (i : Nat) : Stmt := PySem.Challenge.pw_squarethreads_k32_whole_fields_judged.main.body.getD i (.Pass ⟨0, 0, 0, 0⟩)
abbrev s_is_whole : Stmt := top 8
abbrev s_is_count : Stmt := top 9
abbrev s_is_index : Stmt := top 10
abbrev s_power : Stmt := top 11
abbrev s_digits_of : Stmt := top 12
abbrev s_is_book : Stmt := top 14
abbrev s__is_kind : Stmt := top 15
abbrev s__is_part : Stmt := top 16
abbrev s_places_of : Stmt := top 17
abbrev s_check_book : Stmt := top 18
abbrev s_check_kind : Stmt := top 19
abbrev s_check_depth : Stmt := top 21
abbrev s_check_from_one : Stmt := top 22
abbrev s_how_many_cells : Stmt := top 23
abbrev s_cell_in_kind : Stmt := top 24
abbrev s_is_field : Stmt := top 26
abbrev s__is_square : Stmt := top 27
abbrev s_check_field : Stmt := top 28
abbrev s_field_cell : Stmt := top 29
abbrev s_row_field : Stmt := top 30
abbrev s__law_stock : Stmt := top 32
abbrev s__law_pick : Stmt := top 33
abbrev s__law_alike : Stmt := top 34
abbrev s__law_power : Stmt := top 35
abbrev s__law_places : Stmt := top 36
abbrev s__law_posed : Stmt := top 37
abbrev s__law_going : Stmt := top 38
abbrev s__law_book : Stmt := top 39
abbrev s__law_thread : Stmt := top 40
abbrev s__law_field : Stmt := top 41
abbrev s__law_cells : Stmt := top 42
abbrev s__law_cell_at : Stmt := top 43
abbrev s__law_whole : Stmt := top 44
abbrev s__law_triples : Stmt := top 45
abbrev s__law_is_book : Stmt := top 46
abbrev s__law_is_field : Stmt := top 47
abbrev s__law_put : Stmt := top 48
abbrev s_law : Stmt := top 49
def d_is_whole : He.DefD := ⟨("is_whole", none), "is_whole", "is_whole", defArgs s_is_whole, defBody s_is_whole, defScope s_is_whole, [], []⟩
def d_is_count : He.DefD := ⟨("is_count", none), "is_count", "is_count", defArgs s_is_count, defBody s_is_count, defScope s_is_count, [], []⟩
def d_is_index : He.DefD := ⟨("is_index", none), "is_index", "is_index", defArgs s_is_index, defBody s_is_index, defScope s_is_index, [], []⟩
def d_power : He.DefD := ⟨("power", none), "power", "power", defArgs s_power, defBody s_power, defScope s_power, [], []⟩
def d_digits_of : He.DefD := ⟨("digits_of", none), "digits_of", "digits_of", defArgs s_digits_of, defBody s_digits_of, defScope s_digits_of, [], []⟩
def d_is_book : He.DefD := ⟨("is_book", none), "is_book", "is_book", defArgs s_is_book, defBody s_is_book, defScope s_is_book, [], []⟩
def d__is_kind : He.DefD := ⟨("_is_kind", none), "_is_kind", "_is_kind", defArgs s__is_kind, defBody s__is_kind, defScope s__is_kind, [], []⟩
def d__is_part : He.DefD := ⟨("_is_part", none), "_is_part", "_is_part", defArgs s__is_part, defBody s__is_part, defScope s__is_part, [], []⟩
def d_places_of : He.DefD := ⟨("places_of", none), "places_of", "places_of", defArgs s_places_of, defBody s_places_of, defScope s_places_of, [], []⟩
def d_check_book : He.DefD := ⟨("check_book", none), "check_book", "check_book", defArgs s_check_book, defBody s_check_book, defScope s_check_book, [], []⟩
def d_check_kind : He.DefD := ⟨("check_kind", none), "check_kind", "check_kind", defArgs s_check_kind, defBody s_check_kind, defScope s_check_kind, [], []⟩
def d_check_depth : He.DefD := ⟨("check_depth", none), "check_depth", "check_depth", defArgs s_check_depth, defBody s_check_depth, defScope s_check_depth, [], []⟩
def d_check_from_one : He.DefD := ⟨("check_from_one", none), "check_from_one", "check_from_one", defArgs s_check_from_one, defBody s_check_from_one, defScope s_check_from_one, [], []⟩
def d_how_many_cells : He.DefD := ⟨("how_many_cells", none), "how_many_cells", "how_many_cells", defArgs s_how_many_cells, defBody s_how_many_cells, defScope s_how_many_cells, [], []⟩
def d_cell_in_kind : He.DefD := ⟨("cell_in_kind", none), "cell_in_kind", "cell_in_kind", defArgs s_cell_in_kind, defBody s_cell_in_kind, defScope s_cell_in_kind, [], []⟩
def d_is_field : He.DefD := ⟨("is_field", none), "is_field", "is_field", defArgs s_is_field, defBody s_is_field, defScope s_is_field, [], []⟩
def d__is_square : He.DefD := ⟨("_is_square", none), "_is_square", "_is_square", defArgs s__is_square, defBody s__is_square, defScope s__is_square, [], []⟩
def d_check_field : He.DefD := ⟨("check_field", none), "check_field", "check_field", defArgs s_check_field, defBody s_check_field, defScope s_check_field, [], []⟩
def d_field_cell : He.DefD := ⟨("field_cell", none), "field_cell", "field_cell", defArgs s_field_cell, defBody s_field_cell, defScope s_field_cell, [], []⟩
def d_row_field : He.DefD := ⟨("row_field", none), "row_field", "row_field", defArgs s_row_field, defBody s_row_field, defScope s_row_field, [], []⟩
def d__law_stock : He.DefD := ⟨("_law_stock", none), "_law_stock", "_law_stock", defArgs s__law_stock, defBody s__law_stock, defScope s__law_stock, [], []⟩
def d__law_pick : He.DefD := ⟨("_law_pick", none), "_law_pick", "_law_pick", defArgs s__law_pick, defBody s__law_pick, defScope s__law_pick, [], []⟩
def d__law_alike : He.DefD := ⟨("_law_alike", none), "_law_alike", "_law_alike", defArgs s__law_alike, defBody s__law_alike, defScope s__law_alike, [], []⟩
def d__law_power : He.DefD := ⟨("_law_power", none), "_law_power", "_law_power", defArgs s__law_power, defBody s__law_power, defScope s__law_power, [], []⟩
def d__law_places : He.DefD := ⟨("_law_places", none), "_law_places", "_law_places", defArgs s__law_places, defBody s__law_places, defScope s__law_places, [], []⟩
def d__law_posed : He.DefD := ⟨("_law_posed", none), "_law_posed", "_law_posed", defArgs s__law_posed, defBody s__law_posed, defScope s__law_posed, [], []⟩
def d__law_going : He.DefD := ⟨("_law_going", none), "_law_going", "_law_going", defArgs s__law_going, defBody s__law_going, defScope s__law_going, [], []⟩
def d__law_book : He.DefD := ⟨("_law_book", none), "_law_book", "_law_book", defArgs s__law_book, defBody s__law_book, defScope s__law_book, [], []⟩
def d__law_thread : He.DefD := ⟨("_law_thread", none), "_law_thread", "_law_thread", defArgs s__law_thread, defBody s__law_thread, defScope s__law_thread, [], []⟩
def d__law_field : He.DefD := ⟨("_law_field", none), "_law_field", "_law_field", defArgs s__law_field, defBody s__law_field, defScope s__law_field, [], []⟩
def d__law_cells : He.DefD := ⟨("_law_cells", none), "_law_cells", "_law_cells", defArgs s__law_cells, defBody s__law_cells, defScope s__law_cells, [], []⟩
def d__law_cell_at : He.DefD := ⟨("_law_cell_at", none), "_law_cell_at", "_law_cell_at", defArgs s__law_cell_at, defBody s__law_cell_at, defScope s__law_cell_at, [], []⟩
def d__law_whole : He.DefD := ⟨("_law_whole", none), "_law_whole", "_law_whole", defArgs s__law_whole, defBody s__law_whole, defScope s__law_whole, [], []⟩
def d__law_triples : He.DefD := ⟨("_law_triples", none), "_law_triples", "_law_triples", defArgs s__law_triples, defBody s__law_triples, defScope s__law_triples, [], []⟩
def d__law_is_book : He.DefD := ⟨("_law_is_book", none), "_law_is_book", "_law_is_book", defArgs s__law_is_book, defBody s__law_is_book, defScope s__law_is_book, [], []⟩
def d__law_is_field : He.DefD := ⟨("_law_is_field", none), "_law_is_field", "_law_is_field", defArgs s__law_is_field, defBody s__law_is_field, defScope s__law_is_field, [], []⟩
def d__law_put : He.DefD := ⟨("_law_put", none), "_law_put", "_law_put", defArgs s__law_put, defBody s__law_put, defScope s__law_put, [], []⟩
def d_law : He.DefD := ⟨("law", none), "law", "law", defArgs s_law, defBody s_law, defScope s_law, [], []⟩
def fn : List He.DefD := [d_is_whole, d_is_count, d_is_index, d_power, d_digits_of, d_is_book, d__is_kind, d__is_part, d_places_of, d_check_book, d_check_kind, d_check_depth, d_check_from_one, d_how_many_cells, d_cell_in_kind, d_is_field, d__is_square, d_check_field, d_field_cell, d_row_field, d__law_stock, d__law_pick, d__law_alike, d__law_power, d__law_places, d__law_posed, d__law_going, d__law_book, d__law_thread, d__law_field, d__law_cells, d__law_cell_at, d__law_whole, d__law_triples, d__law_is_book, d__law_is_field, d__law_put, d_law]
def fa : List He.Fa := [.glo "is_whole", .glo "is_count", .glo "is_index", .glo "power", .glo "digits_of", .glo "is_book", .glo "_is_kind", .glo "_is_part", .glo "places_of", .glo "check_book", .glo "check_kind", .glo "check_depth", .glo "check_from_one", .glo "how_many_cells", .glo "cell_in_kind", .glo "is_field", .glo "_is_square", .glo "check_field", .glo "field_cell", .glo "row_field", .glo "_law_stock", .glo "_law_pick", .glo "_law_alike", .glo "_law_power", .glo "_law_places", .glo "_law_posed", .glo "_law_going", .glo "_law_book", .glo "_law_thread", .glo "_law_field", .glo "_law_cells", .glo "_law_cell_at", .glo "_law_whole", .glo "_law_triples", .glo "_law_is_book", .glo "_law_is_field", .glo "_law_put", .glo "law", .free "ValueError", .free "all", .free "bool", .free "divmod", .free "int", .free "isinstance", .free "len", .free "list", .free "max", .free "min", .free "range", .free "repr", .free "set", .free "str", .free "tuple", .free "zip"]
def loose : List PySem.Str := (["__name__", "ThreadError", "InvalidBook", "InvalidKind", "InvalidDepth", "InvalidNumber", "InvalidField", "is_whole", "is_count", "is_index", "power", "digits_of", "is_book", "_is_kind", "_is_part", "places_of", "check_book", "check_kind", "check_depth", "check_from_one", "how_many_cells", "cell_in_kind", "is_field", "_is_square", "check_field", "field_cell", "row_field", "_law_stock", "_law_pick", "_law_alike"] : List PySem.Str) ++ (["_law_power", "_law_places", "_law_posed", "_law_going", "_law_book", "_law_thread", "_law_field", "_law_cells", "_law_cell_at", "_law_whole", "_law_triples", "_law_is_book", "_law_is_field", "_law_put"] : List PySem.Str)
abbrev R : PySem.W.OpenRow := PySem.W.OpenLaw.row PySem.Challenge.rw_squarethreads_k32_whole_fields_judged
abbrev hk : PySem.W.Hook := He.hookD 4 fa fn
def ob (s : PySem.W.SharedT) : He.AlD := He.obsDG 4 fa fn (HandSHeadRun.getT s)
theorem ob_eq (s : PySem.W.SharedT) : ob s = hk.obs s.abs := He.obsDG_eq (HandSHeadRun.getT_eq s)
theorem run (w : World) : HandSHeadRun.RunEq R (PySem.W.view R.prog [49]) hk ob 4000 loose w := by
  intro os
  kernel_rfl

end Lz
set_option Elab.async false
set_option linter.all false
set_option maxRecDepth 100000
namespace Ev
open PySem PySem.Spec PyProof.Rows L2

abbrev T := PyData
abbrev Sg := L2.St
/-- the one object of a dict whose keys are ints and tuples of such, nested -/
def nObj (d : Addr) (xs : List (NestedKey × Addr × V)) : HO := .ext fun h => xs.length ≤ sizeLine ∧ (d == sysModules) = false ∧
  ∃ (ys : List (NestedKey × Addr × Value)), Paired (fun (a : NestedKey × Addr × V) (b : NestedKey × Addr × Value) => a.1 = b.1 ∧ a.2.1 = b.2.1 ∧ RelV a.2.2 b.2.2) xs ys ∧
    ∃ (P : Program) (w : World) (o : Obj) (es : Array DictEntry) (ep : Nat), h.get? d = some o ∧ o.ExactDict ∧ o.data = .dict es ep ∧ es.toList = ys.map (entryOfKey (nestedKind P w)) ∧ (ys.map (·.1)).Nodup
/-- a thing that a name alone holds -/
inductive Bx where
  | l (xs : List T)
  | d (kvs : List (T × T))
  | m (kvs : List (T × T))
  | n (kvs : List (T × T))
def Bx.t : Bx → T
  | .l xs => .list xs
  | .d kvs => .dict kvs
  | .m kvs => .dict kvs
  | .n kvs => .dict kvs
/-- what a name holds -/
inductive Sl where
  | un
  | v (t : T)
  | ow (lent : Bool) (b : Bx)
  | fz (b : Bx)
abbrev En := List Sl
inductive Out (α : Type) where
  | ok (a : α) (e : En)
  | exc (c : Str) (t : T) (e : En)
  | bad
@[simp] def Out.bind {α β : Type} : Out α → (α → En → Out β) → Out β
  | .ok a e, f => f a e
  | .exc c t e, _ => .exc c t e
  | .bad, _ => .bad
/-- what an expression yields: a tree, what the name i holds, a new thing -/
inductive Od where
  | r (t : T)
  | s (i : Nat)
  | b (b : Bx)

/-- a key of a dict as a tree -/
def kyT : Key → T
  | .inl i => .int i
  | .inr x => .str x
mutual
/-- a value is a tree; its tuples are known as such -/
inductive Dp (K : PySem.W.Frag) (H : Hp) : V → PyData → Prop
  | non : Dp K H .non .none
  | bl (b : Bool) : Dp K H (.bl b) (.bool b)
  | int (i : Int) : Dp K H (.int i) (.int i)
  | str (x : Str) : Dp K H (.str x) (.str x)
  | lst {a : Addr} {xs : List V} {ds : List PyData} : SqL K H a xs → DpAll K H xs ds → Dp K H (.ref a) (.list ds)
  | tup {a : Addr} {xs : List V} {ds : List PyData} : H a = some (.tup xs) → DpAll K H xs ds → Dp K H (.ref a) (.tuple ds)
  | dct {a : Addr} {ks : List (List Key × V)} {kvs : List (PyData × PyData)} : H a = some (.dT ks) → DpKvs K H ks kvs → Dp K H (.ref a) (.dict kvs)
inductive DpAll (K : PySem.W.Frag) (H : Hp) : List V → List PyData → Prop
  | nil : DpAll K H [] []
  | cons {v : V} {vs : List V} {d : PyData} {ds : List PyData} : Dp K H v d → DpAll K H vs ds → DpAll K H (v :: vs) (d :: ds)
inductive DpKvs (K : PySem.W.Frag) (H : Hp) : List (List Key × V) → List (PyData × PyData) → Prop
  | nil : DpKvs K H [] []
  | cons {k : List Key} {v : V} {ks : List (List Key × V)} {d : PyData} {kvs : List (PyData × PyData)} : Dp K H v d → DpKvs K H ks kvs → DpKvs K H ((k, v) :: ks) ((.tuple (k.map kyT), d) :: kvs)
end
mutual
/-- no dict in it -/
def noD : T → Bool
  | .dict _ => false
  | .list ts => noDs ts
  | .tuple ts => noDs ts
  | .none => true
  | .bool _ => true
  | .int _ => true
  | .str _ => true
def noDs : List T → Bool
  | [] => true
  | t :: ts => noD t && noDs ts
end
mutual
theorem noD_lay : ∀ t : T, t.canLay0 = true → noD t = true
  | .none, _ => rfl
  | .bool _, _ => rfl
  | .int _, _ => rfl
  | .str _, _ => rfl
  | .list ts, c => by simp only [noD]; exact noDs_lay ts (by simpa [PyData.canLay0] using c)
  | .tuple ts, c => by simp only [noD]; exact noDs_lay ts (by simpa [PyData.canLay0] using c)
  | .dict _, c => nomatch c
theorem noDs_lay : ∀ ts : List T, PyData.canLayAll0 ts = true → noDs ts = true
  | [], _ => rfl
  | t :: ts, c => by
    have c' : t.canLay0 = true ∧ PyData.canLayAll0 ts = true := by simpa [PyData.canLayAll0] using c
    simp only [noDs, noD_lay t c'.1, noDs_lay ts c'.2, Bool.and_self]
end
mutual
theorem dp_hand {K : PySem.W.Frag} {H : Hp} : ∀ (t : T) {v : V}, noD t = true → Dp K H v t → L2.Dp K H v t
  | .none, _, _, h => by cases h; exact .non
  | .bool _, _, _, h => by cases h; exact .bl _
  | .int _, _, _, h => by cases h; exact .int _
  | .str _, _, _, h => by cases h; exact .str _
  | .list ts, _, c, h => by cases h with | lst a b => exact .lst a (dpAll_hand ts (by simpa [noD] using c) b)
  | .tuple ts, _, c, h => by cases h with | tup a b => exact .tup (SqT.of a) (dpAll_hand ts (by simpa [noD] using c) b)
  | .dict _, _, c, _ => nomatch c
theorem dpAll_hand {K : PySem.W.Frag} {H : Hp} : ∀ (ts : List T) {vs : List V}, noDs ts = true → DpAll K H vs ts → L2.DpAll K H vs ts
  | [], _, _, h => by cases h; exact .nil
  | t :: ts, _, c, h => by
    have c' : noD t = true ∧ noDs ts = true := by simpa [noDs] using c
    cases h with | cons a b => exact .cons (dp_hand t c'.1 a) (dpAll_hand ts c'.2 b)
end
theorem noD_sh {t : T} (h : SeqAt.shaped t = true) : noD t = true := noD_lay t (SeqAt.canLay_of_shaped h)
theorem dp_mono {K : PySem.W.Frag} {F F' : Hp} (ff : ∀ a o, F a = some o → F' a = some o) : ∀ (t : T) (v : V), Dp K F v t → Dp K F' v t := by
  have sl : ∀ {a xs}, SqL K F a xs → SqL K F' a xs := fun {a xs} h => by
    rcases h with h | h
    · rcases h with h | ⟨o, h⟩
      · exact .inl (.inl (ff _ _ h))
      · exact .inl (.inr ⟨o, ff _ _ h⟩)
    · exact .inr h
  intro t v h
  exact Dp.rec (motive_1 := fun v t _ => Dp K F' v t) (motive_2 := fun vs ts _ => DpAll K F' vs ts) (motive_3 := fun ks kvs _ => DpKvs K F' ks kvs)
    .non (fun b => .bl b) (fun i => .int i) (fun x => .str x) (fun h _ ih => .lst (sl h) ih) (fun h _ ih => .tup (ff _ _ h) ih) (fun h _ ih => .dct (ff _ _ h) ih) .nil (fun _ _ a b => .cons a b) .nil (fun _ _ a b => .cons a b) h
theorem dpAll_mono {K : PySem.W.Frag} {F F' : Hp} (ff : ∀ a o, F a = some o → F' a = some o) : ∀ {ts : List T} {vs : List V}, DpAll K F vs ts → DpAll K F' vs ts
  | [], _, h => by cases h; exact .nil
  | _ :: _, _, h => by cases h with | cons a b => exact .cons (dp_mono ff _ _ a) (dpAll_mono ff b)
theorem dpAll_len {K : PySem.W.Frag} {F : Hp} : ∀ {ts : List T} {vs : List V}, DpAll K F vs ts → vs.length = ts.length
  | [], _, h => by cases h; rfl
  | _ :: _, _, h => by cases h with | cons a b => simp [dpAll_len b]
theorem dpAll_app {K : PySem.W.Frag} {F : Hp} : ∀ {ts us : List T} {vs ws : List V}, DpAll K F vs ts → DpAll K F ws us → DpAll K F (vs ++ ws) (ts ++ us)
  | [], _, _, _, h, g => by cases h; exact g
  | _ :: _, _, _, _, h, g => by cases h with | cons a b => exact .cons a (dpAll_app b g)
theorem dpAll_get {K : PySem.W.Frag} {F : Hp} : ∀ {ts : List T} {vs : List V} {i : Nat} {t : T}, DpAll K F vs ts → ts[i]? = some t → ∃ v, vs[i]? = some v ∧ Dp K F v t
  | [], _, _, _, _, e => by simp at e
  | _ :: _, _, 0, _, h, e => by cases h with | cons a b => simp at e; subst e; exact ⟨_, rfl, a⟩
  | _ :: _, _, i + 1, _, h, e => by cases h with | cons a b => simpa using dpAll_get b (by simpa using e)
theorem dpAll_take {K : PySem.W.Frag} {F : Hp} : ∀ {ts : List T} {vs : List V} (n : Nat), DpAll K F vs ts → DpAll K F (vs.take n) (ts.take n)
  | _, _, 0, _ => .nil
  | [], _, _ + 1, h => by cases h; exact .nil
  | _ :: _, _, n + 1, h => by cases h with | cons a b => exact .cons a (dpAll_take n b)
theorem dpAll_drop {K : PySem.W.Frag} {F : Hp} : ∀ {ts : List T} {vs : List V} (n : Nat), DpAll K F vs ts → DpAll K F (vs.drop n) (ts.drop n)
  | _, _, 0, h => h
  | [], _, _ + 1, h => by cases h; exact .nil
  | _ :: _, _, n + 1, h => by cases h with | cons a b => exact dpAll_drop n b
theorem dpAll_set {K : PySem.W.Frag} {F : Hp} {t : T} {v : V} (d : Dp K F v t) : ∀ {ts : List T} {vs : List V} (n : Nat), DpAll K F vs ts → DpAll K F (vs.set n v) (ts.set n t)
  | [], _, _, h => by cases h; exact .nil
  | _ :: _, _, 0, h => by cases h with | cons a b => exact .cons d b
  | _ :: _, _, n + 1, h => by cases h with | cons a b => exact .cons a (dpAll_set d n b)

/-- a dict's entries -/
def KdR (K : PySem.W.Frag) (F : Hp) (ks : List (Key × V)) (kvs : List (T × T)) : Prop := Paired (fun p q => q.1 = kyT p.1 ∧ Dp K F p.2 q.2) ks kvs
theorem kdR_mono {K : PySem.W.Frag} {F F' : Hp} (ff : ∀ a o, F a = some o → F' a = some o) {ks : List (Key × V)} {kvs : List (T × T)} (h : KdR K F ks kvs) : KdR K F' ks kvs := by
  unfold KdR at h ⊢
  induction h with
  | nil => exact .nil
  | cons a _ ih => exact .cons ⟨a.1, dp_mono ff _ _ a.2⟩ ih
/-- the entries of a dict whose keys are tuples -/
def KmR (K : PySem.W.Frag) (F : Hp) (ks : List (List Key × V)) (kvs : List (T × T)) : Prop := Paired (fun p q => q.1 = .tuple (p.1.map kyT) ∧ Dp K F p.2 q.2) ks kvs
theorem kmR_mono {K : PySem.W.Frag} {F F' : Hp} (ff : ∀ a o, F a = some o → F' a = some o) {ks : List (List Key × V)} {kvs : List (T × T)} (h : KmR K F ks kvs) : KmR K F' ks kvs := by
  unfold KmR at h ⊢
  induction h with
  | nil => exact .nil
  | cons a _ ih => exact .cons ⟨a.1, dp_mono ff _ _ a.2⟩ ih
mutual
/-- a tree as such a key -/
def nkOf : T → Option NestedKey
  | .int i => some (.num i)
  | .tuple ts => (nkOfs ts).map .tup
  | .none => none
  | .bool _ => none
  | .str _ => none
  | .list _ => none
  | .dict _ => none
def nkOfs : List T → Option (List NestedKey)
  | [] => some []
  | t :: ts => match nkOf t, nkOfs ts with
    | some k, some ks => some (k :: ks)
    | _, _ => none
end
def nkD (t : T) : Option NestedKey := match nkOf t with
  | some k => if k.depth ≤ 8 then some k else none
  | none => none
def NmR (K : PySem.W.Frag) (F : Hp) (xs : List (NestedKey × Addr × V)) (kvs : List (T × T)) : Prop := Paired (fun q p => nkD p.1 = some q.1 ∧ Dp K F (.ref q.2.1) p.1 ∧ Dp K F q.2.2 p.2) xs kvs
theorem nmR_mono {K : PySem.W.Frag} {F F' : Hp} (ff : ∀ a o, F a = some o → F' a = some o) {xs : List (NestedKey × Addr × V)} {kvs : List (T × T)} (h : NmR K F xs kvs) : NmR K F' xs kvs := by
  unfold NmR at h ⊢
  induction h with
  | nil => exact .nil
  | cons a _ ih => exact .cons ⟨a.1, dp_mono ff _ _ a.2.1, dp_mono ff _ _ a.2.2⟩ ih
def BxAt (K : PySem.W.Frag) (F H : Hp) (p : Addr) : Bx → Prop
  | .l ts => ∃ xs, H p = some (.lst xs) ∧ DpAll K F xs ts
  | .d kvs => ∃ ks, H p = some (.dK ks) ∧ KdR K F ks kvs
  | .m kvs => ∃ ks, H p = some (.dT ks) ∧ KmR K F ks kvs
  | .n kvs => ∃ xs, H p = some (nObj p xs) ∧ NmR K F xs kvs
def RS (K : PySem.W.Frag) (F H : Hp) : Sl → Option V → Prop
  | .un, _ => True
  | .v t, o => ∃ x, o = some x ∧ Dp K F x t
  | .ow _ b, o => ∃ p, o = some (.ref p) ∧ F p = none ∧ BxAt K F H p b
  | .fz b, o => ∃ x, o = some x ∧ Dp K F x b.t
def Own (e : En) (σ : Sg) (p : Addr) : Prop := ∃ (i : Nat) (l : Bool) (b : Bx), e[i]? = some (Sl.ow l b) ∧ σ[i]? = some (some (V.ref p))
structure Rel (K : PySem.W.Frag) (e : En) (σ : Sg) (F H : Hp) : Prop where
  sub : ∀ a o, F a = some o → H a = some o
  len : e.length = σ.length
  at_ : ∀ (i : Nat) (s : Sl) (o : Option V), e[i]? = some s → σ[i]? = some o → RS K F H s o
  ne : ∀ (i j : Nat) (l : Bool) (b : Bx) (l' : Bool) (b' : Bx) (p : Addr), e[i]? = some (.ow l b) → e[j]? = some (.ow l' b') → σ[i]? = some (some (.ref p)) → σ[j]? = some (some (.ref p)) → i = j
def Lent (e : En) (i : Nat) : Prop := ∃ b, e[i]? = some (.ow true b) ∨ e[i]? = some (.fz b)
/-- what kinds of owning names there are stays -/
def SameKinds (e e1 : En) : Prop := ∀ (i : Nat) (l : Bool) (b : Bx), e1[i]? = some (Sl.ow l b) → ∃ b', e[i]? = some (Sl.ow l b')
structure Step (e e' : En) (σ : Sg) (F H F' H' : Hp) : Prop where
  ff : ∀ a o, F a = some o → F' a = some o
  keep : ∀ a o, H a = some o → ¬ Own e σ a → H' a = some o ∧ (F a = none → F' a = none)
  dom : ∀ a o, H a = some o → ∃ o', H' a = some o'
  own : ∀ a, Own e' σ a → Own e σ a
  lt : ∀ i, Lent e i → Lent e' i
  sk : SameKinds e e'
theorem Step.refl {e : En} {σ : Sg} {F H : Hp} : Step e e σ F H F H := ⟨fun _ _ h => h, fun _ _ h _ => ⟨h, fun x => x⟩, fun _ o h => ⟨o, h⟩, fun _ h => h, fun _ h => h, fun i l b h => ⟨b, h⟩⟩
theorem Step.trans {e e1 e2 : En} {σ : Sg} {F H F1 H1 F2 H2 : Hp} (a : Step e e1 σ F H F1 H1) (b : Step e1 e2 σ F1 H1 F2 H2) : Step e e2 σ F H F2 H2 where
  ff := fun x o h => b.ff _ _ (a.ff _ _ h)
  keep := fun x o h n => by
    obtain ⟨h1, f1⟩ := a.keep x o h n
    obtain ⟨h2, f2⟩ := b.keep x o h1 (fun z => n (a.own _ z))
    exact ⟨h2, fun z => f2 (f1 z)⟩
  dom := fun x o h => by
    obtain ⟨o1, h1⟩ := a.dom x o h
    exact b.dom x o1 h1
  own := fun x h => a.own _ (b.own _ h)
  lt := fun i h => b.lt _ (a.lt _ h)
  sk := fun i l z h => by
    obtain ⟨z1, h1⟩ := b.sk i l z h
    exact a.sk i l z1 h1
/-- an owned thing stands in the heap, apart from the trees -/
theorem Rel.owned {K : PySem.W.Frag} {e : En} {σ : Sg} {F H : Hp} {p : Addr} (R : Rel K e σ F H) (h : Own e σ p) : F p = none ∧ ∃ o, H p = some o := by
  obtain ⟨i, l, b, h1, h2⟩ := h
  obtain ⟨q, e1, f, x⟩ := R.at_ i _ _ h1 h2
  cases e1
  refine ⟨f, ?_⟩
  cases b with
  | l ts => obtain ⟨xs, hx, _⟩ := x; exact ⟨_, hx⟩
  | d kvs => obtain ⟨ks, hx, _⟩ := x; exact ⟨_, hx⟩
  | m kvs => obtain ⟨ks, hx, _⟩ := x; exact ⟨_, hx⟩
  | n kvs => obtain ⟨ks, hx, _⟩ := x; exact ⟨_, hx⟩

/-- what a value yielded is -/
def OdR (K : PySem.W.Frag) (σ : Sg) (Hs F H : Hp) (x : V) : Od → Prop
  | .r t => Dp K F x t
  | .s i => σ[i]? = some (some x)
  | .b b => ∃ p, x = .ref p ∧ Hs p = none ∧ F p = none ∧ BxAt K F H p b
abbrev SemE := En → Out Od
abbrev WX := Value → Option Addr → Sg → Hp → Prop
/-- an exception: of the class that the name c names, with the value t -/
def ExR (K : PySem.W.Frag) (F H : Hp) (c : Str) (t : T) (cls : Value) (d : Option Addr) : Prop :=
  cls = .ref (He.ga K c) ∧ ∃ dx v, d = some dx ∧ H dx = some (.xd [("value", v)]) ∧ Dp K F v t
end Ev

set_option Elab.async false
set_option linter.all false
set_option maxRecDepth 100000
namespace Ev
open PySem PySem.Spec PyProof.Rows L2
def Bx.tr : Bx → Option T
  | .l xs => some (.list xs)
  | .d _ => none
  | .m _ => none
  | .n _ => none
def slVal : Sl → Option T
  | .un => none
  | .v t => some t
  | .ow _ b => b.tr
  | .fz b => some b.t
def Od.val (e : En) : Od → Option T
  | .r t => some t
  | .s i => match e[i]? with
    | some z => slVal z
    | none => none
  | .b z => z.tr
section
variable {K : PySem.W.Frag} {W : WX} {e e1 e2 : En} {σ : Sg} {F H F1 H1 F2 H2 Hs : Hp} {p : Addr} {o : HO}
/-- a value; a list's own node may stand in H alone -/
def DpO (K : PySem.W.Frag) (F H : Hp) (x : V) : T → Prop
  | .list ts => ∃ p xs, x = .ref p ∧ SqL K H p xs ∧ DpAll K F xs ts
  | t => Dp K F x t
theorem sqL_mono {a : Addr} {xs : List V} (ff : ∀ a o, F a = some o → H a = some o) (h : SqL K F a xs) : SqL K H a xs := by
  rcases h with h | h
  · rcases h with h | ⟨o, h⟩
    · exact .inl (.inl (ff _ _ h))
    · exact .inl (.inr ⟨o, ff _ _ h⟩)
  · exact .inr h
theorem tupS {a : Addr} {xs : List V} (ff : ∀ a o, F a = some o → H a = some o) (h : F a = some (.tup xs)) : SqT K H a xs := SqT.of (ff _ _ h)
theorem sqT_mono {a : Addr} {xs : List V} (ff : ∀ a o, F a = some o → H a = some o) (h : SqT K F a xs) : SqT K H a xs := by
  rcases h with h | h
  · rcases h with h | ⟨o, h⟩
    · exact .inl (.inl (ff _ _ h))
    · exact .inl (.inr ⟨o, ff _ _ h⟩)
  · exact .inr h
theorem dpo_of {x : V} {t : T} (ff : ∀ a o, F a = some o → H a = some o) (d : Dp K F x t) : DpO K F H x t := by
  cases d with
  | lst a b => exact ⟨_, _, rfl, sqL_mono ff a, b⟩
  | tup a b => exact .tup a b
  | dct a b => exact .dct a b
  | non => exact .non
  | bl b => exact .bl b
  | int i => exact .int i
  | str z => exact .str z
theorem DpO.dp {x : V} {t : T} (ff : ∀ a o, F a = some o → H a = some o) (d : DpO K F H x t) : Dp K H x t := by
  cases t with
  | list ts => obtain ⟨p, xs, rfl, a, b⟩ := d; exact .lst a (dpAll_mono ff b)
  | tuple ts => exact dp_mono ff _ _ d
  | none => exact dp_mono ff _ _ d
  | bool _ => exact dp_mono ff _ _ d
  | int _ => exact dp_mono ff _ _ d
  | str _ => exact dp_mono ff _ _ d
  | dict _ => exact dp_mono ff _ _ d
theorem bx_dpo {b : Bx} {t : T} (x : BxAt K F H p b) (h : b.tr = some t) : DpO K F H (.ref p) t := by
  cases b with
  | l ts => obtain ⟨xs, hx, d⟩ := x; cases h; exact ⟨_, xs, rfl, SqL.of hx, d⟩
  | d kvs => cases h
  | m kvs => cases h
  | n kvs => cases h
theorem val_ok {x : V} {r : Od} {t : T} (R : Rel K e σ F H) (O : OdR K σ Hs F H x r) (h : r.val e = some t) : DpO K F H x t := by
  cases r with
  | r u => cases h; exact dpo_of R.sub O
  | b b => obtain ⟨p, rfl, _, _, z⟩ := O; exact bx_dpo z (by simpa [Od.val] using h)
  | s i =>
    have O : σ[i]? = some (some x) := O
    simp only [Od.val] at h
    cases q : e[i]? with
    | none => rw [q] at h; cases h
    | some s =>
      rw [q] at h
      have z := R.at_ i s _ q O
      cases s with
      | un => cases h
      | v u => cases h; obtain ⟨y, ey, d⟩ := z; cases ey; exact dpo_of R.sub d
      | ow l b => obtain ⟨p, ey, _, d⟩ := z; cases ey; exact bx_dpo d h
      | fz b => cases h; obtain ⟨y, ey, d⟩ := z; cases ey; exact dpo_of R.sub d
theorem fresh_not_own (R : Rel K e σ F H) (S : Step e e1 σ F H F1 H1) (h : H p = none) : ¬ Own e1 σ p := fun z => by
  obtain ⟨_, o, q⟩ := R.owned (S.own _ z)
  rw [h] at q; cases q
theorem bx_keep {b : Bx} (x : BxAt K F1 H1 p b) (ff : ∀ a o, F1 a = some o → F2 a = some o) (hk : ∀ o, H1 p = some o → H2 p = some o) : BxAt K F2 H2 p b := by
  cases b with
  | l ts => obtain ⟨xs, hx, d⟩ := x; exact ⟨xs, hk _ hx, dpAll_mono ff d⟩
  | d kvs => obtain ⟨ks, hx, d⟩ := x; exact ⟨ks, hk _ hx, kdR_mono ff d⟩
  | m kvs => obtain ⟨ks, hx, d⟩ := x; exact ⟨ks, hk _ hx, kmR_mono ff d⟩
  | n kvs => obtain ⟨ks, hx, d⟩ := x; exact ⟨ks, hk _ hx, nmR_mono ff d⟩
theorem bx_some {b : Bx} (x : BxAt K F1 H1 p b) : ∃ o, H1 p = some o := by
  cases b with
  | l ts => obtain ⟨xs, hx, _⟩ := x; exact ⟨_, hx⟩
  | d kvs => obtain ⟨ks, hx, _⟩ := x; exact ⟨_, hx⟩
  | m kvs => obtain ⟨ks, hx, _⟩ := x; exact ⟨_, hx⟩
  | n kvs => obtain ⟨ks, hx, _⟩ := x; exact ⟨_, hx⟩
/-- a value stays what it is while others are worked out -/
theorem od_stay {x : V} {r : Od} (O : OdR K σ H F1 H1 x r) (no : ∀ p, H p = none → ¬ Own e1 σ p) (S : Step e1 e2 σ F1 H1 F2 H2) : OdR K σ H F2 H2 x r := by
  cases r with
  | r t => exact dp_mono S.ff _ _ O
  | s i => exact O
  | b b =>
    obtain ⟨p, rfl, hn, hf, z⟩ := O
    obtain ⟨o, ho⟩ := bx_some z
    have k := S.keep p o ho (no p hn)
    exact ⟨p, rfl, hn, k.2 hf, bx_keep z S.ff fun o' h' => by rw [ho] at h'; cases h'; exact k.1⟩
theorem od_back {x : V} {r : Od} (O : OdR K σ H1 F2 H2 x r) (S : Step e e1 σ F H F1 H1) : OdR K σ H F2 H2 x r := by
  cases r with
  | r t => exact O
  | s i => exact O
  | b b =>
    obtain ⟨p, rfl, hn, hf, z⟩ := O
    refine ⟨p, rfl, ?_, hf, z⟩
    cases q : H p with
    | none => rfl
    | some o => obtain ⟨o', e'⟩ := S.dom _ _ q; rw [hn] at e'; cases e'
/-! ### new things -/
theorem laid_own (R : Rel K e σ F H) (hp : H p = none) : Rel K e σ F (upd H p o) := by
  refine ⟨fun a u h => ?_, R.len, fun i s u h1 h2 => ?_, R.ne⟩
  · have := R.sub _ _ h
    rw [upd_ne (ne_of_none this hp)]; exact this
  · have z := R.at_ i s u h1 h2
    cases s with
    | un => trivial
    | v t => exact z
    | fz b => exact z
    | ow l b =>
      obtain ⟨q, eq, hf, x⟩ := z
      refine ⟨q, eq, hf, bx_keep x (fun _ _ h => h) fun o' h' => ?_⟩
      rw [upd_ne (ne_of_none h' hp)]; exact h'
theorem laid_own_step (hp : H p = none) : Step e e σ F H F (upd H p o) :=
  ⟨fun _ _ h => h, fun a u h _ => ⟨by rw [upd_ne (ne_of_none h hp)]; exact h, fun z => z⟩, fun a u h => ⟨u, by rw [upd_ne (ne_of_none h hp)]; exact h⟩, fun _ h => h, fun _ h => h, fun i l b h => ⟨b, h⟩⟩
theorem sub_none (R : Rel K e σ F H) (hp : H p = none) : F p = none := by
  cases q : F p with
  | none => rfl
  | some o => rw [R.sub _ _ q] at hp; cases hp
/-- F grows by what stands in H, apart from what is owned -/
theorem frz_rel (R : Rel K e σ F H) (hp : H p = some o) (no : ¬ Own e σ p) (hf : F p = none) : Rel K e σ (upd F p o) H := by
  have ff : ∀ a u, F a = some u → upd F p o a = some u := fun a u h => by rw [upd_ne (ne_of_none h hf)]; exact h
  refine ⟨fun a u h => ?_, R.len, fun i s u h1 h2 => ?_, R.ne⟩
  · by_cases q : a = p
    · subst q; rw [upd_same] at h; cases h; exact hp
    · rw [upd_ne q] at h; exact R.sub _ _ h
  · have z := R.at_ i s u h1 h2
    cases s with
    | un => trivial
    | v t => obtain ⟨x, ex, d⟩ := z; exact ⟨x, ex, dp_mono ff _ _ d⟩
    | fz b => obtain ⟨x, ex, d⟩ := z; exact ⟨x, ex, dp_mono ff _ _ d⟩
    | ow l b =>
      obtain ⟨q, eq, hf', x⟩ := z
      have ne : q ≠ p := fun z => no ⟨i, l, b, h1, by rw [h2, eq, z]⟩
      exact ⟨q, eq, by rw [upd_ne ne]; exact hf', bx_keep x ff fun _ h => h⟩
theorem frz_step (S : Step e e1 σ F H F1 H1) (hp : H p = none) (hf : F1 p = none) : Step e e1 σ F H (upd F1 p o) H1 :=
  ⟨fun a u h => by rw [upd_ne (ne_of_none (S.ff _ _ h) hf)]; exact S.ff _ _ h, fun a u h n => ⟨(S.keep a u h n).1, fun z => by rw [upd_ne (ne_of_none h hp)]; exact (S.keep a u h n).2 z⟩, S.dom, S.own, S.lt, S.sk⟩
theorem laid_frz (R : Rel K e σ F H) (hp : H p = none) : Rel K e σ (upd F p o) (upd H p o) :=
  frz_rel (laid_own R hp) upd_same (fun z => by obtain ⟨_, u, q⟩ := R.owned z; rw [hp] at q; cases q) (sub_none R hp)
theorem laid_frz_step (R : Rel K e σ F H) (S : Step e1 e σ F1 H1 F H) (hp : H p = none) : Step e1 e σ F1 H1 (upd F p o) (upd H p o) := by
  have h1 : H1 p = none := by
    cases q : H1 p with
    | none => rfl
    | some u => obtain ⟨o', e'⟩ := S.dom _ _ q; rw [hp] at e'; cases e'
  exact frz_step (S.trans (laid_own_step hp)) h1 (sub_none R hp)
/-! ### readings -/
/-- what an outcome asks of what is wanted behind it; rel: how a value is told (the heap ahead, F, H behind) -/
def OutX {α β : Type} (K : PySem.W.Frag) (W : WX) (rel : Hp → Hp → Hp → β → α → Prop) (r : Out α) (e : En) (σ : Sg) (F H : Hp) (Q : β → Hp → Prop) : Prop := match r with
  | .ok r e' => ∀ x F' H', Rel K e' σ F' H' → Step e e' σ F H F' H' → rel H F' H' x r → Q x H'
  | .exc c t e' => ∀ F' H' cls d, Rel K e' σ F' H' → Step e e' σ F H F' H' → ExR K F' H' c t cls d → W cls d σ H'
  | .bad => False
/-- the reading of a meaning -/
def tX {α β : Type} (K : PySem.W.Frag) (W : WX) (rel : Sg → Hp → Hp → Hp → β → α → Prop) (m : En → Out α) (σ : Sg) (H : Hp) (Q : β → Hp → Prop) : Prop := ∃ e F, Rel K e σ F H ∧ OutX K W (rel σ) (m e) e σ F H Q
theorem tX_bind {α β γ δ : Type} {rel : Sg → Hp → Hp → Hp → β → α → Prop} {rel' : Hp → Hp → Hp → δ → γ → Prop} {m : En → Out α} {f : α → En → Out γ} {Q : δ → Hp → Prop} (R1 : Rel K e1 σ F1 H1) (S1 : Step e e1 σ F H F1 H1) (h : OutX K W rel' ((m e1).bind f) e σ F H Q) :
    tX K W rel m σ H1 (fun x H2 => ∃ r e2 F2, Rel K e2 σ F2 H2 ∧ Step e1 e2 σ F1 H1 F2 H2 ∧ rel σ H1 F2 H2 x r ∧ OutX K W rel' (f r e2) e σ F H Q) := by
  refine ⟨e1, F1, R1, ?_⟩
  cases q : m e1 with
  | ok r e' => rw [q] at h; exact fun x F' H' R' S' O => ⟨r, e', F', R', S', O, h⟩
  | exc c t e' => rw [q] at h; exact fun F' H' cls d R' S' X => h F' H' cls d R' (S1.trans S') X
  | bad => rw [q] at h; exact h
theorem OutX.imp {α β : Type} {rel : Hp → Hp → Hp → β → α → Prop} {r : Out α} {Q Q' : β → Hp → Prop} (h : OutX K W rel r e σ F H Q) (m : ∀ x H', Q x H' → Q' x H') : OutX K W rel r e σ F H Q' := by
  cases r with
  | ok r e' => exact fun x F' H' R S O => m _ _ (h x F' H' R S O)
  | exc c t e' => exact h
  | bad => exact h
theorem tX_imp {α β : Type} {rel : Sg → Hp → Hp → Hp → β → α → Prop} {m : En → Out α} {Q Q' : β → Hp → Prop} (h : tX K W rel m σ H Q) (k : ∀ x H', Q x H' → Q' x H') : tX K W rel m σ H Q' := by
  obtain ⟨e, F, R, h⟩ := h
  exact ⟨e, F, R, h.imp k⟩
/-- what is asked where an operation hands r back, the heap being H -/
def Fin (K : PySem.W.Frag) (F H : Hp) (Q : VK) : Od → Prop
  | .r w => (∀ v, Dp K F v w → Q v H) ∧ ∀ ts p xs, w = .tuple ts → H p = none → DpAll K F xs ts → Q (.ref p) (upd H p (.tup xs))
  | .b (.l ts) => ∀ p xs, H p = none → DpAll K F xs ts → Q (.ref p) (upd H p (.lst xs))
  | _ => False
theorem step_none (S : Step e e1 σ F H F1 H1) (h : H1 p = none) : H p = none := by
  cases q : H p with
  | none => rfl
  | some u => obtain ⟨o', e'⟩ := S.dom _ _ q; rw [h] at e'; cases e'
/-- w is what operations hand back -/
def Back : Od → Prop
  | .r _ => True
  | .b (.l _) => True
  | _ => False
theorem fin_of {r : Od} {Q : VK} (R : Rel K e1 σ F1 H1) (S : Step e e1 σ F H F1 H1) (go : OutX K W (OdR K σ) (.ok r e1) e σ F H Q) (hr : Back r) : Fin K F1 H1 Q r := by
  cases r with
  | r w =>
    refine ⟨fun v d => go v F1 H1 R S d, fun ts p xs ew hp d => ?_⟩
    subst ew
    refine go _ _ _ (laid_frz R hp) (laid_frz_step R S hp) (.tup upd_same (dpAll_mono (fun a u q => ?_) d))
    rw [upd_ne (ne_of_none q (sub_none R hp))]; exact q
  | s i => exact hr.elim
  | b b =>
    cases b with
    | d _ => exact hr.elim
    | m _ => exact hr.elim
    | n _ => exact hr.elim
    | l ts => exact fun p xs hp d => go _ _ _ (laid_own R hp) (S.trans (laid_own_step hp)) ⟨p, rfl, step_none S hp, sub_none R hp, xs, upd_same, d⟩
end
theorem pe_mono {X : Cx} {ex : Expr} {t t' : TE} (h : PE X ex t) (m : ∀ σ H Q, t' σ H Q → t σ H Q) : PE X ex t' := ⟨fun pins s σ H Q I q => h.run pins s σ H Q I (m σ H Q q)⟩
theorem pt_mono {X : Cx} {ex : Expr} {t t' : TT} (h : PT X ex t) (m : ∀ σ H Q, t' σ H Q → t σ H Q) : PT X ex t' := ⟨fun pins s σ H Q I q => h.run pins s σ H Q I (m σ H Q q)⟩
theorem ps_mono {X : Cx} {ex : Stmt} {t t' : TS} (h : PS X ex t) (m : ∀ D σ H, t' D σ H → t D σ H) : PS X ex t' := ⟨fun pins s σ H D I q => h.run pins s σ H D I (m D σ H q)⟩
theorem pss_mono {X : Cx} {ex : List Stmt} {t t' : TS} (h : PSs X ex t) (m : ∀ D σ H, t' D σ H → t D σ H) : PSs X ex t' := ⟨fun pins s σ H D I q => h.run pins s σ H D I (m D σ H q)⟩
theorem pa_mono {X : Cx} {ex : List Expr} {t t' : TA} (h : PA X ex t) (m : ∀ σ H Q, t' σ H Q → t σ H Q) : PA X ex t' := ⟨fun pos pins s σ H Q I q => h.run pos pins s σ H Q I (m σ H Q q)⟩
abbrev tE (K : PySem.W.Frag) (W : WX) (m : SemE) : TE := tX K W (fun σ => OdR K σ) m
abbrev SemT := En → Out Bool
abbrev tT (K : PySem.W.Frag) (W : WX) (m : SemT) : TT := tX K W (fun _ _ _ _ (x : Bool) r => x = r) m
abbrev SemA := En → Out (List Od)
/-- the values of a list of things yielded; the new ones stand apart -/
inductive OdsR (K : PySem.W.Frag) (σ : Sg) (Hs F H : Hp) : List Od → List V → Prop
  | nil : OdsR K σ Hs F H [] []
  | cons {r : Od} {x : V} {rs : List Od} {xs : List V} : OdR K σ Hs F H x r → OdsR K σ Hs F H rs xs →
      (∀ (z : Bx) (p : Addr), r = .b z → x = .ref p → ∀ (j : Nat) (z' : Bx), rs[j]? = some (.b z') → xs[j]? ≠ some (.ref p)) → OdsR K σ Hs F H (r :: rs) (x :: xs)
abbrev tA (K : PySem.W.Frag) (W : WX) (m : SemA) : TA := tX K W (fun σ Hs F H xs rs => OdsR K σ Hs F H rs xs) m
abbrev QE (X : Cx) (W : WX) (ex : Expr) (m : SemE) : Prop := PE X ex (tE X.K W m)
abbrev QT (X : Cx) (W : WX) (ex : Expr) (m : SemT) : Prop := PT X ex (tT X.K W m)
abbrev QA (X : Cx) (W : WX) (ex : List Expr) (m : SemA) : Prop := PA X ex (tA X.K W m)

/-! ### names and constants -/
section
variable {X : Cx} {W : WX} {a b c : Expr} {ma mb mc : SemE} {pos : Pos}
def eVar (i : Nat) : SemE := fun e => match e[i]? with
  | some (.v t) => .ok (.r t) e
  | some (.fz b) => .ok (.r b.t) e
  | some (.ow _ _) => .ok (.s i) e
  | _ => .bad
theorem Rel.var {K : PySem.W.Frag} {e : En} {σ : Sg} {F H : Hp} (R : Rel K e σ F H) {i : Nat} {s : Sl} (h : e[i]? = some s) : ∃ o, σ[i]? = some o ∧ RS K F H s o := by
  have hi : i < σ.length := by rw [← R.len]; exact (List.getElem?_eq_some_iff.mp h).1
  exact ⟨_, List.getElem?_eq_getElem hi, R.at_ i s _ h (List.getElem?_eq_getElem hi)⟩
theorem qvar {i : Nat} {x : Str} (hN : X.N[i]? = some x) (hv : Vis X.env.scope x) (hd : (x == ("__debug__" : Str)) = false := by decide) (hcd : (x == ("__classdict__" : Str)) = false := by decide) : QE X W (.Name x pos) (eVar i) := by
  refine pe_mono (pe_var hN hv hd hcd) fun σ H Q h => ?_
  obtain ⟨e, F, R, h⟩ := h
  unfold eVar at h
  cases q : e[i]? with
  | none => rw [q] at h; exact h.elim
  | some s =>
    rw [q] at h
    obtain ⟨o, hs, z⟩ := R.var q
    cases s with
    | un => exact h.elim
    | v t => obtain ⟨y, rfl, d⟩ := z; exact ⟨y, hs, h y F H R .refl d⟩
    | fz b => obtain ⟨y, rfl, d⟩ := z; exact ⟨y, hs, h y F H R .refl d⟩
    | ow l b => obtain ⟨p, rfl, hf, x⟩ := z; exact ⟨_, hs, h _ F H R .refl hs⟩
def eK (t : T) : SemE := fun e => .ok (.r t) e
theorem qint {i j} : QE X W (.Constant (.int i) j pos) (eK (.int i)) := pe_mono pe_int fun σ H Q ⟨e, F, R, h⟩ => h _ F H R .refl (.int i)
theorem qbl {b j} : QE X W (.Constant (.bool b) j pos) (eK (.bool b)) := pe_mono pe_bl fun σ H Q ⟨e, F, R, h⟩ => h _ F H R .refl (.bl b)
theorem qnon {j} : QE X W (.Constant .none j pos) (eK .none) := pe_mono pe_non fun σ H Q ⟨e, F, R, h⟩ => h _ F H R .refl .non
theorem qstr {x j} : QE X W (.Constant (.str x) j pos) (eK (.str x)) := pe_mono pe_str fun σ H Q ⟨e, F, R, h⟩ => h _ F H R .refl (.str x)

/-! ### two operands -/
def eTwo {α : Type} (ma mb : SemE) (g : Od → Od → En → Out α) : En → Out α := fun e => (ma e).bind fun r e1 => (mb e1).bind fun r2 e2 => g r r2 e2
/-- the state behind two operands -/
def At2 {α β : Type} (K : PySem.W.Frag) (W : WX) (rel : Hp → Hp → Hp → β → α → Prop) (g : Od → Od → En → Out α) (σ : Sg) (x y : V) (H2 : Hp) (Q : β → Hp → Prop) : Prop :=
  ∃ e F H r r2 e2 F2, Rel K e σ F H ∧ Rel K e2 σ F2 H2 ∧ Step e e2 σ F H F2 H2 ∧ OdR K σ H F2 H2 x r ∧ OdR K σ H F2 H2 y r2 ∧ OutX K W rel (g r r2 e2) e σ F H Q
theorem two {α β : Type} {K : PySem.W.Frag} {rel : Sg → Hp → Hp → Hp → β → α → Prop} {g : Od → Od → En → Out α} {σ : Sg} {H : Hp} {Q : β → Hp → Prop} (h : tX K W rel (eTwo ma mb g) σ H Q) :
    tE K W ma σ H fun x H1 => tE K W mb σ H1 fun y H2 => At2 K W (rel σ) g σ x y H2 Q := by
  obtain ⟨e, F, R, h⟩ := h
  refine tX_imp (tX_bind R .refl h) fun x H1 ⟨r, e1, F1, R1, S1, O1, h1⟩ => ?_
  refine tX_imp (tX_bind R1 S1 h1) fun y H2 ⟨r2, e2, F2, R2, S2, O2, h2⟩ => ?_
  exact ⟨e, F, H, r, r2, e2, F2, R, R2, S1.trans S2, od_stay O1 (fun p hp => fresh_not_own R S1 hp) S2, od_back O2 S1, h2⟩
/-- the values of two operands -/
def v2 (g : T → T → Option Od) : Od → Od → En → Out Od := fun r r2 e => match r.val e, r2.val e with
  | some t, some u => (match g t u with
    | some w => .ok w e
    | none => .bad)
  | _, _ => .bad
/-- a rule of an operation on two values, met by g -/
def Does2 (K : PySem.W.Frag) (r : R2) (g : T → T → Option Od) : Prop :=
  ∀ x y t u w F H (Q : VK), (∀ a o, F a = some o → H a = some o) → DpO K F H x t → DpO K F H y u → g t u = some w → Back w ∧ (Fin K F H Q w → r x y H Q)
theorem does2 {K : PySem.W.Frag} {r : R2} {g : T → T → Option Od} (hr : Does2 K r g) {σ : Sg} {x y : V} {H : Hp} {Q : VK} (h : At2 K W (OdR K σ) (v2 g) σ x y H Q) : r x y H Q := by
  obtain ⟨e, F, H0, r1, r2, e2, F2, R, R2, S, O1, O2, go⟩ := h
  unfold v2 at go
  cases q1 : r1.val e2 with
  | none => rw [q1] at go; exact go.elim
  | some t =>
    cases q2 : r2.val e2 with
    | none => rw [q1, q2] at go; exact go.elim
    | some u =>
      rw [q1, q2] at go
      cases q3 : g t u with
      | none => simp only [q3] at go; exact go.elim
      | some w =>
        simp only [q3] at go
        obtain ⟨bk, z⟩ := hr x y t u w F2 H Q R2.sub (val_ok R2 O1 q1) (val_ok R2 O2 q2) q3
        exact z (fin_of R2 S go bk)
abbrev eOp2 (g : T → T → Option Od) (ma mb : SemE) : SemE := eTwo ma mb (v2 g)
theorem qop {f : Operator} {r : R2} {g : T → T → Option Od} (ho : OpR X (binaryOp f) r) (hr : Does2 X.K r g) (ha : QE X W a ma) (hb : QE X W b mb) : QE X W (.BinOp a f b pos) (eOp2 g ma mb) :=
  pe_mono (pe_op ho ha hb) fun σ H Q h => tX_imp (two h) fun x H1 h1 => tX_imp h1 fun y H2 h2 => does2 hr h2
theorem qcmp {f : CmpOp} {r : R2} {g : T → T → Option Od} (ho : OpR X (compareOp f) r) (hr : Does2 X.K r g) (ha : QE X W a ma) (hb : QE X W b mb) (hm : behindInMarks f b = false := by first | rfl | exact nomark _) : QE X W (.Compare a [f] [b] pos) (eOp2 g ma mb) :=
  pe_mono (pe_cmpR ho ha hb hm) fun σ H Q h => tX_imp (two h) fun x H1 h1 => tX_imp h1 fun y H2 h2 => does2 hr h2
end
end Ev

set_option Elab.async false
set_option linter.all false
set_option maxRecDepth 100000
namespace Ev
open PySem PySem.Spec PyProof.Rows L2
section
variable {X : Cx} {W : WX} {a b c : Expr} {ma mb mc : SemE} {pos : Pos}
/-! ### argument lists -/
def aNil : SemA := fun e => .ok [] e
def aCons (m : SemE) (r : SemA) : SemA := fun e => (m e).bind fun x e1 => (r e1).bind fun xs e2 => .ok (x :: xs) e2
theorem qa_nil : QA X W [] aNil := pa_mono pa_nil fun σ H Q ⟨e, F, R, h⟩ => h _ F H R .refl .nil
theorem ods_back {K : PySem.W.Frag} {σ : Sg} {e e1 : En} {F H F1 H1 F2 H2 : Hp} (S : Step e e1 σ F H F1 H1) : ∀ {rs xs}, OdsR K σ H1 F2 H2 rs xs → OdsR K σ H F2 H2 rs xs
  | _, _, .nil => .nil
  | _, _, .cons a b n => .cons (od_back a S) (ods_back S b) n
theorem ods_tmp {K : PySem.W.Frag} {σ : Sg} {Hs F H : Hp} : ∀ {rs : List Od} {xs : List V}, OdsR K σ Hs F H rs xs → ∀ (j : Nat) (z : Bx), rs[j]? = some (.b z) → ∃ p, xs[j]? = some (.ref p) ∧ Hs p = none ∧ F p = none ∧ BxAt K F H p z
  | _, _, .nil, j, z, h => by simp at h
  | _, _, .cons a b n, 0, z, h => by simp at h; subst h; obtain ⟨p, rfl, q⟩ := a; exact ⟨p, rfl, q⟩
  | _, _, .cons a b n, j + 1, z, h => by simpa using ods_tmp b j z (by simpa using h)
theorem qa_cons {es : List Expr} {mr : SemA} (ha : QE X W a ma) (hr : QA X W es mr) (hs : starEach (a :: es) X.env = (false, eval a X.env) :: starEach es X.env := by rfl) : QA X W (a :: es) (aCons ma mr) := by
  refine pa_mono (pa_cons ha hr hs) fun σ H Q h => ?_
  obtain ⟨e, F, R, h⟩ := h
  refine tX_imp (tX_bind R .refl h) fun x H1 ⟨r, e1, F1, R1, S1, O1, h1⟩ => ?_
  refine tX_imp (tX_bind (rel := fun σ Hs F H xs rs => OdsR X.K σ Hs F H rs xs) R1 S1 h1) fun xs H2 ⟨rs, e2, F2, R2, S2, O2, h2⟩ => ?_
  refine h2 _ F2 H2 R2 (S1.trans S2) (.cons (od_stay O1 (fun p hp => fresh_not_own R S1 hp) S2) (ods_back S1 O2) fun z p er ex j z' hj hx => ?_)
  subst er
  obtain ⟨p', ep, hn, hf, bx⟩ := O1
  rw [ex] at ep; cases ep
  obtain ⟨q, hq, hn2, _⟩ := ods_tmp O2 j z' hj
  rw [hx] at hq; cases hq
  obtain ⟨o, ho⟩ := bx_some bx
  rw [hn2] at ho; cases ho
def vals (e : En) : List Od → Option (List T)
  | [] => some []
  | r :: rs => match r.val e, vals e rs with
    | some t, some ts => some (t :: ts)
    | _, _ => none
abbrev DpOs (K : PySem.W.Frag) (F H : Hp) (ts : List T) (xs : List V) : Prop := Paired (fun t x => DpO K F H x t) ts xs
theorem vals_ok {K : PySem.W.Frag} {σ : Sg} {e : En} {F H Hs : Hp} (R : Rel K e σ F H) : ∀ {rs : List Od} {xs : List V} {ts : List T}, OdsR K σ Hs F H rs xs → vals e rs = some ts → DpOs K F H ts xs
  | _, _, _, .nil, h => by cases h; exact .nil
  | r :: rs, _, _, .cons a b n, h => by
    unfold vals at h
    cases q : r.val e with
    | none => rw [q] at h; cases h
    | some t =>
      cases q2 : vals e rs with
      | none => rw [q, q2] at h; cases h
      | some us => rw [q, q2] at h; cases h; exact .cons (val_ok R a q) (vals_ok R b q2)
/-- a built-in on values -/
def eFn (g : List T → Option Od) (ma : SemA) : SemE := fun e => (ma e).bind fun rs e1 => match vals e1 rs with
  | some ts => (match g ts with
    | some w => .ok w e1
    | none => .bad)
  | none => .bad
def DoesN (K : PySem.W.Frag) (r : List V → Hp → VK → Prop) (g : List T → Option Od) : Prop :=
  ∀ xs ts w F H (Q : VK), (∀ a o, F a = some o → H a = some o) → DpOs K F H ts xs → g ts = some w → Back w ∧ (Fin K F H Q w → r xs H Q)
theorem fn_read {K : PySem.W.Frag} {r : List V → Hp → VK → Prop} {g : List T → Option Od} {m : SemA} (hr : DoesN K r g) {σ : Sg} {H : Hp} {Q : VK} (h : tE K W (eFn g m) σ H Q) : tCB r (tA K W m) σ H Q := by
  obtain ⟨e, F, R, h⟩ := h
  refine tX_imp (tX_bind (rel := fun σ Hs F H xs rs => OdsR K σ Hs F H rs xs) R .refl h) fun xs H1 ⟨rs, e1, F1, R1, S1, O1, h1⟩ => ?_
  cases q : vals e1 rs with
  | none => simp only [q] at h1; exact h1.elim
  | some ts =>
    simp only [q] at h1
    cases q2 : g ts with
    | none => simp only [q2] at h1; exact h1.elim
    | some w =>
      simp only [q2] at h1
      obtain ⟨bk, z⟩ := hr xs ts w F1 H1 Q R1.sub (vals_ok R1 O1 q) q2
      exact z (fin_of R1 S1 h1 bk)
theorem qfnB {x : Str} {p : Pos} {es : List Expr} {id : String} {r : List V → Hp → VK → Prop} {g : List T → Option Od} {m : SemA} (hc : CallR X (.builtin id) r) (hr : DoesN X.K r g) (hg : Gl X x) (hm : X.mg x = none) (hv : bootBuiltins x = some (.builtin id)) (ha : QA X W (a :: es) m)
    (hn : x ≠ "__name__" := by decide) (hdb : (x == ("__debug__" : Str)) = false := by decide)
    (he : starEach (a :: es) X.env = (false, eval a X.env) :: starEach es X.env := by rfl) (hpl : (backTo pos (starEach es X.env)).any (·.1) = false := by rfl) : QE X W (.Call (.Name x p) (a :: es) [] pos) (eFn g m) :=
  pe_mono (pe_callB hc hg hm hv ha hn hdb he hpl) fun σ H Q h => fn_read hr h
theorem qfnT {x : Str} {p : Pos} {es : List Expr} {id : String} {r : List V → Hp → VK → Prop} {g : List T → Option Od} {m : SemA} (hc : CallR X (.type id) r) (hr : DoesN X.K r g) (hg : Gl X x) (hm : X.mg x = none) (hv : bootBuiltins x = some (.type id)) (ha : QA X W (a :: es) m)
    (hn : x ≠ "__name__" := by decide) (hdb : (x == ("__debug__" : Str)) = false := by decide)
    (he : starEach (a :: es) X.env = (false, eval a X.env) :: starEach es X.env := by rfl) (hpl : (backTo pos (starEach es X.env)).any (·.1) = false := by rfl) : QE X W (.Call (.Name x p) (a :: es) [] pos) (eFn g m) :=
  pe_mono (pe_callTy hc hg hm hv ha hn hdb he hpl) fun σ H Q h => fn_read hr h

/-! ### what a value becomes where it is kept in something else -/
def esc : Od → En → Option (T × En)
  | .r t, e => some (t, e)
  | .b z, e => match z.tr with
    | some t => some (t, e)
    | none => none
  | .s i, e => match e[i]? with
    | some (.v t) => some (t, e)
    | some (.fz z) => some (z.t, e)
    | some (.ow l z) => (match z.tr with
      | some t => some (t, e.set i (if l then .fz z else .v t))
      | none => none)
    | _ => none
theorem esc_own {K : PySem.W.Frag} {σ : Sg} {e : En} {F H : Hp} {i : Nat} {l : Bool} {z : Bx} {t : T} {x : V} (R : Rel K e σ F H) (h1 : e[i]? = some (.ow l z)) (h2 : σ[i]? = some (some x)) (hz : z.tr = some t) :
    ∃ F', Rel K (e.set i (if l then .fz z else .v t)) σ F' H ∧ Step e (e.set i (if l then .fz z else .v t)) σ F H F' H ∧ Dp K F' x t ∧ ∀ a, F' a = F a ∨ x = .ref a := by
  obtain ⟨p, ex, hf, bx⟩ := R.at_ i _ _ h1 h2
  cases ex
  cases z with
  | d _ => cases hz
  | m _ => cases hz
  | n _ => cases hz
  | l ts =>
    cases hz
    obtain ⟨xs, hx, d⟩ := bx
    have hi : i < e.length := (List.getElem?_eq_some_iff.mp h1).1
    have ff : ∀ a u, F a = some u → upd F p (.lst xs) a = some u := fun a u h => by rw [upd_ne (ne_of_none h hf)]; exact h
    have dx : Dp K (upd F p (.lst xs)) (.ref p) (.list ts) := .lst (SqL.of upd_same) (dpAll_mono ff d)
    have get : ∀ (j : Nat) (s : Sl), (e.set i (if l then .fz (.l ts) else .v (.list ts)))[j]? = some s → (j = i ∧ s = (if l then .fz (.l ts) else .v (.list ts))) ∨ (j ≠ i ∧ e[j]? = some s) := fun j s h => by
      by_cases q : i = j
      · subst q; rw [List.getElem?_set_self hi] at h; cases h; exact .inl ⟨rfl, rfl⟩
      · rw [List.getElem?_set_ne q] at h; exact .inr ⟨fun z => q z.symm, h⟩
    have notow : ∀ l' b', (if l then (Sl.fz (.l ts)) else .v (.list ts)) ≠ .ow l' b' := fun l' b' q => by cases l <;> cases q
    have own : ∀ a, Own (e.set i (if l then .fz (.l ts) else .v (.list ts))) σ a → Own e σ a := fun a ⟨j, l', b', g1, g2⟩ => by
      rcases get j _ g1 with ⟨_, q⟩ | ⟨_, q⟩
      · exact absurd q.symm (notow _ _)
      · exact ⟨j, l', b', q, g2⟩
    refine ⟨upd F p (.lst xs), ⟨fun a u h => ?_, by rw [List.length_set]; exact R.len, fun j s u g1 g2 => ?_, fun j k l1 b1 l2 b2 q g1 g2 g3 g4 => ?_⟩, ⟨ff, fun a u h n => ⟨h, fun z => ?_⟩, fun a u h => ⟨u, h⟩, own, fun j hj => ?_, fun j l' b' h => ?_⟩, dx, fun a => ?_⟩
    · by_cases q : a = p
      · subst q; rw [upd_same] at h; cases h; exact hx
      · rw [upd_ne q] at h; exact R.sub _ _ h
    · rcases get j s g1 with ⟨rfl, rfl⟩ | ⟨nj, q⟩
      · rw [h2] at g2; cases g2
        cases l with
        | true => exact ⟨_, rfl, dx⟩
        | false => exact ⟨_, rfl, dx⟩
      · have z := R.at_ j s u q g2
        cases s with
        | un => trivial
        | v t => obtain ⟨y, ey, d⟩ := z; exact ⟨y, ey, dp_mono ff _ _ d⟩
        | fz b => obtain ⟨y, ey, d⟩ := z; exact ⟨y, ey, dp_mono ff _ _ d⟩
        | ow l' b =>
          obtain ⟨p', ey, hf', bx'⟩ := z
          subst ey
          have np : p' ≠ p := fun z => by subst z; exact nj (R.ne j i l' b l (.l ts) p' q h1 g2 h2)
          exact ⟨p', rfl, by rw [upd_ne np]; exact hf', bx_keep bx' ff fun _ h => h⟩
    · rcases get j _ g1 with ⟨_, q'⟩ | ⟨_, g1'⟩
      · exact absurd q'.symm (notow _ _)
      · rcases get k _ g2 with ⟨_, q'⟩ | ⟨_, g2'⟩
        · exact absurd q'.symm (notow _ _)
        · exact R.ne j k l1 b1 l2 b2 q g1' g2' g3 g4
    · have np : a ≠ p := fun z => n ⟨i, l, .l ts, h1, by rw [h2, z]⟩
      rw [upd_ne np]; exact z
    · obtain ⟨b', q⟩ := hj
      by_cases qi : i = j
      · subst qi
        rw [h1] at q
        rcases q with q | q
        · cases q; exact ⟨.l ts, .inr (by rw [List.getElem?_set_self hi]; rfl)⟩
        · cases q
      · exact ⟨b', by rw [List.getElem?_set_ne qi]; exact q⟩
    · rcases get j _ h with ⟨_, q⟩ | ⟨_, q⟩
      · exact absurd q.symm (notow _ _)
      · exact ⟨b', q⟩
    · by_cases q : a = p
      · exact .inr (by rw [q])
      · exact .inl (upd_ne q)
theorem ods_grow {K : PySem.W.Frag} {σ : Sg} {Hs F F' H : Hp} (ff : ∀ a o, F a = some o → F' a = some o) : ∀ {rs : List Od} {xs : List V}, OdsR K σ Hs F H rs xs → (∀ (p : Addr) (j : Nat) (z : Bx), rs[j]? = some (.b z) → xs[j]? = some (.ref p) → Hs p = none → F' p = F p) → OdsR K σ Hs F' H rs xs
  | _, _, .nil, _ => .nil
  | _, _, .cons (r := r) a b n, k => by
    refine .cons ?_ (ods_grow ff b fun p j z h1 h2 => k p (j + 1) z (by simpa using h1) (by simpa using h2)) n
    cases r with
    | r t => exact dp_mono ff _ _ a
    | s i => exact a
    | b z =>
      obtain ⟨p, rfl, hn, hf, bx⟩ := a
      exact ⟨p, rfl, hn, by rw [k p 0 z rfl rfl hn]; exact hf, bx_keep bx ff fun _ h => h⟩
theorem esc_ok {K : PySem.W.Frag} {σ : Sg} {e0 e e' : En} {F0 H0 F H : Hp} {x : V} {r : Od} {t : T} (R0 : Rel K e0 σ F0 H0) (R : Rel K e σ F H) (S : Step e0 e σ F0 H0 F H) (O : OdR K σ H0 F H x r) (h : esc r e = some (t, e')) :
    ∃ F', Rel K e' σ F' H ∧ Step e0 e' σ F0 H0 F' H ∧ Dp K F' x t ∧ (∀ a o, F a = some o → F' a = some o) ∧ ∀ a, F' a = F a ∨ (x = .ref a ∧ ((∃ z, r = .b z) ∨ Own e σ a)) := by
  cases r with
  | r u => cases h; exact ⟨F, R, S, O, fun _ _ h => h, fun a => .inl rfl⟩
  | b z =>
    obtain ⟨p, rfl, hn, hf, bx⟩ := O
    simp only [esc] at h
    cases q : z.tr with
    | none => rw [q] at h; cases h
    | some u =>
      rw [q] at h; cases h
      cases z with
      | d _ => cases q
      | m _ => cases q
      | n _ => cases q
      | l ts =>
        cases q
        obtain ⟨xs, hx, d⟩ := bx
        have ff : ∀ a u, F a = some u → upd F p (.lst xs) a = some u := fun a u h => by rw [upd_ne (ne_of_none h hf)]; exact h
        refine ⟨upd F p (.lst xs), frz_rel R hx (fresh_not_own R0 S hn) hf, frz_step S hn hf, .lst (SqL.of upd_same) (dpAll_mono ff d), ff, fun a => ?_⟩
        by_cases q : a = p
        · subst q; exact .inr ⟨rfl, .inl ⟨_, rfl⟩⟩
        · exact .inl (upd_ne q)
  | s i =>
    have O : σ[i]? = some (some x) := O
    simp only [esc] at h
    cases q : e[i]? with
    | none => rw [q] at h; cases h
    | some s =>
      rw [q] at h
      have z := R.at_ i s _ q O
      cases s with
      | un => cases h
      | v u => cases h; obtain ⟨y, ey, d⟩ := z; cases ey; exact ⟨F, R, S, d, fun _ _ h => h, fun a => .inl rfl⟩
      | fz u => cases h; obtain ⟨y, ey, d⟩ := z; cases ey; exact ⟨F, R, S, d, fun _ _ h => h, fun a => .inl rfl⟩
      | ow l b =>
        cases q2 : b.tr with
        | none => simp only [q2] at h; cases h
        | some u =>
          simp only [q2] at h
          cases h
          obtain ⟨F', R', S', d', only⟩ := esc_own R q O q2
          exact ⟨F', R', S.trans S', d', S'.ff, fun a => (only a).imp id fun ea => ⟨ea, .inr ⟨i, l, b, q, by rw [O, ea]⟩⟩⟩
def escs : List Od → En → Option (List T × En)
  | [], e => some ([], e)
  | r :: rs, e => match esc r e with
    | some (t, e1) => (match escs rs e1 with
      | some (ts, e2) => some (t :: ts, e2)
      | none => none)
    | none => none
theorem escs_ok {K : PySem.W.Frag} {σ : Sg} {e0 : En} {F0 H0 H : Hp} (R0 : Rel K e0 σ F0 H0) : ∀ {rs : List Od} {xs : List V} {ts : List T} {e e' : En} {F : Hp}, Rel K e σ F H → Step e0 e σ F0 H0 F H → OdsR K σ H0 F H rs xs → escs rs e = some (ts, e') →
    ∃ F', Rel K e' σ F' H ∧ Step e0 e' σ F0 H0 F' H ∧ DpAll K F' xs ts ∧ ∀ a o, F a = some o → F' a = some o
  | [], _, _, _, _, F, R, S, .nil, h => by cases h; exact ⟨F, R, S, .nil, fun _ _ h => h⟩
  | r :: rs, _, _, e, _, F, R, S, .cons (x := x) (xs := xs) a b n, h => by
    unfold escs at h
    cases q : esc r e with
    | none => rw [q] at h; cases h
    | some te =>
      obtain ⟨t, e1⟩ := te
      simp only [q] at h
      cases q2 : escs rs e1 with
      | none => rw [q2] at h; cases h
      | some te2 =>
        obtain ⟨ts, e2⟩ := te2
        simp only [q2] at h
        cases h
        obtain ⟨F1, R1, S1, d1, ff1, only⟩ := esc_ok R0 R S a q
        have b1 : OdsR K σ H0 F1 H rs xs := ods_grow ff1 b fun p j z hj hx hn => by
          rcases only p with e | ⟨ex, e | e⟩
          · exact e
          · obtain ⟨z', e'⟩ := e
            exact absurd hx (n z' p e' ex j z hj)
          · exact absurd (S.own _ e) (fun w => by obtain ⟨_, o, q⟩ := R0.owned w; rw [hn] at q; cases q)
        obtain ⟨F2, R2, S2, d2, ff2⟩ := escs_ok R0 R1 S1 b1 q2
        exact ⟨F2, R2, S2, .cons (dp_mono ff2 _ _ d1) d2, fun a o h => ff2 _ _ (ff1 _ _ h)⟩
end
end Ev

set_option Elab.async false
set_option linter.all false
set_option maxRecDepth 100000
namespace Ev
open PySem PySem.Spec PyProof.Rows L2
section
variable {X : Cx} {W : WX} {a b c : Expr} {ma mb mc : SemE} {pos : Pos}
/-! ### displays -/
def eDisp (k : List T → Od) (m : SemA) : SemE := fun e => (m e).bind fun rs e1 => match escs rs e1 with
  | some (ts, e2) => if ts.length ≤ sizeLine then .ok (k ts) e2 else .bad
  | none => .bad
def eTup (m : SemA) : SemE := eDisp (fun ts => .r (.tuple ts)) m
def eLst (m : SemA) : SemE := eDisp (fun ts => .b (.l ts)) m
theorem qtup {es : List Expr} {k : Nat} {m : SemA} (h : QA X W es m) : QE X W (.Tuple es k pos) (eTup m) := by
  refine pe_mono (pe_tup h) fun σ H Q h => ?_
  obtain ⟨e, F, R, h⟩ := h
  refine tX_imp (tX_bind (rel := fun σ Hs F H xs rs => OdsR X.K σ Hs F H rs xs) R .refl h) fun xs H1 ⟨rs, e1, F1, R1, S1, O1, h1⟩ => ?_
  cases q : escs rs e1 with
  | none => simp only [q] at h1; exact h1.elim
  | some te =>
    obtain ⟨ts, e2⟩ := te
    simp only [q] at h1
    obtain ⟨F2, R2, S2, d2, _⟩ := escs_ok R R1 S1 O1 q
    by_cases hl : ts.length ≤ sizeLine
    · rw [if_pos hl] at h1
      refine ⟨by rw [dpAll_len d2]; exact hl, fun p hp => ?_⟩
      exact (fin_of R2 S2 h1 True.intro).2 ts p xs rfl hp d2
    · rw [if_neg hl] at h1; exact h1.elim
theorem qlst {es : List Expr} {m : SemA} (h : QA X W es m) : QE X W (.List es pos) (eLst m) := by
  refine pe_mono (pe_lst h) fun σ H Q h => ?_
  obtain ⟨e, F, R, h⟩ := h
  refine tX_imp (tX_bind (rel := fun σ Hs F H xs rs => OdsR X.K σ Hs F H rs xs) R .refl h) fun xs H1 ⟨rs, e1, F1, R1, S1, O1, h1⟩ => ?_
  cases q : escs rs e1 with
  | none => simp only [q] at h1; exact h1.elim
  | some te =>
    obtain ⟨ts, e2⟩ := te
    simp only [q] at h1
    obtain ⟨F2, R2, S2, d2, _⟩ := escs_ok R R1 S1 O1 q
    by_cases hl : ts.length ≤ sizeLine
    · rw [if_pos hl] at h1
      refine ⟨by rw [dpAll_len d2]; exact hl, fun p hp => ?_⟩
      exact (fin_of R2 S2 h1 True.intro : Fin X.K F2 H1 Q (.b (.l ts))) p xs hp d2
    · rw [if_neg hl] at h1; exact h1.elim

/-! ### a call of a def -/
abbrev FSem := List Sl → Out Od
/-- what a def is asked to do -/
def spF (K : PySem.W.Frag) (n : Nat) (m : FSem) : Sp := fun vs H Q E => vs.length = n ∧ tX K (fun cls d _ H' => E cls d H') (fun σ => OdR K σ) m (vs.map some) H Q
def toSl (e : En) : Od → Option Sl
  | .r t => some (.v t)
  | .b z => some (.ow true z)
  | .s i => match e[i]? with
    | some (.v t) => some (.v t)
    | some (.fz z) => some (.v z.t)
    | some (.ow _ z) => some (.ow true z)
    | _ => none
def toSls (e : En) : List Od → Option (List Sl)
  | [] => some []
  | r :: rs => match toSl e r, toSls e rs with
    | some s, some ss => some (s :: ss)
    | _, _ => none
def sIdx : List Od → List Nat
  | [] => []
  | .s i :: rs => i :: sIdx rs
  | _ :: rs => sIdx rs
def bk (l : Bool) : Sl → Sl
  | .ow _ z => .ow l z
  | .fz z => if l then .fz z else .v z.t
  | s => s
/-- what the callee did with what names hold -/
def wb : List Od → List Sl → En → En
  | .s i :: rs, s :: ss, e => wb rs ss (match e[i]? with
    | some (.ow l _) => e.set i (bk l s)
    | _ => e)
  | _ :: rs, _ :: ss, e => wb rs ss e
  | _, _, e => e
theorem wb_len : ∀ (rs : List Od) (ss : List Sl) (e : En), (wb rs ss e).length = e.length
  | [], _, _ => rfl
  | .s i :: rs, [], _ => rfl
  | .r _ :: rs, [], _ => rfl
  | .b _ :: rs, [], _ => rfl
  | .r _ :: rs, _ :: ss, e => wb_len rs ss e
  | .b _ :: rs, _ :: ss, e => wb_len rs ss e
  | .s i :: rs, s :: ss, e => by
    unfold wb
    rw [wb_len rs ss]
    split <;> simp
theorem wb_out {k : Nat} : ∀ (rs : List Od) (ss : List Sl) (e : En), (∀ l z, e[k]? = some (.ow l z) → Od.s k ∉ rs) → (wb rs ss e)[k]? = e[k]?
  | [], _, _, _ => rfl
  | .s i :: rs, [], _, _ => rfl
  | .r _ :: rs, [], _, _ => rfl
  | .b _ :: rs, [], _, _ => rfl
  | .r _ :: rs, _ :: ss, e, h => wb_out rs ss e fun l z q m => h l z q (List.mem_cons_of_mem _ m)
  | .b _ :: rs, _ :: ss, e, h => wb_out rs ss e fun l z q m => h l z q (List.mem_cons_of_mem _ m)
  | .s i :: rs, s :: ss, e, h => by
    unfold wb
    by_cases q : i = k
    · subst q
      have n : ∀ l z, e[i]? ≠ some (.ow l z) := fun l z q => h l z q List.mem_cons_self
      have e1 : (match e[i]? with
        | some (.ow l _) => e.set i (bk l s)
        | _ => e) = e := by
        cases w : e[i]? with
        | none => rfl
        | some y =>
          cases y with
          | ow l z => exact absurd w (n l z)
          | un => rfl
          | v _ => rfl
          | fz _ => rfl
      rw [e1]
      exact wb_out rs ss e fun l z q => absurd q (n l z)
    · have e1 : (match e[i]? with
        | some (.ow l _) => e.set i (bk l s)
        | _ => e)[k]? = e[k]? := by
        split
        · rw [List.getElem?_set_ne q]
        · rfl
      rw [wb_out rs ss _ fun l z w m => h l z (by rw [e1] at w; exact w) (List.mem_cons_of_mem _ m)]
      exact e1
theorem mem_sIdx {k : Nat} : ∀ {rs : List Od}, Od.s k ∈ rs → k ∈ sIdx rs
  | [], h => by cases h
  | .s i :: rs, h => by
    rcases List.mem_cons.mp h with h | h
    · cases h; exact List.mem_cons_self
    · exact List.mem_cons_of_mem _ (mem_sIdx h)
  | .r _ :: rs, h => by
    rcases List.mem_cons.mp h with h | h
    · cases h
    · exact mem_sIdx (rs := rs) h
  | .b _ :: rs, h => by
    rcases List.mem_cons.mp h with h | h
    · cases h
    · exact mem_sIdx (rs := rs) h
theorem wb_in {k : Nat} {l : Bool} {z : Bx} : ∀ {rs : List Od} {ss : List Sl} {e : En} {j : Nat} {s : Sl}, (sIdx rs).Nodup → rs[j]? = some (.s k) → ss[j]? = some s → e[k]? = some (.ow l z) → (wb rs ss e)[k]? = some (bk l s)
  | [], _, _, _, _, _, h, _, _ => by simp at h
  | _ :: _, [], _, _, _, _, _, h, _ => by simp at h
  | .s i :: rs, s' :: ss, e, 0, s, nd, h1, h2, h3 => by
    simp at h1 h2
    subst h1 h2
    unfold wb
    rw [h3]
    have hk : i < e.length := (List.getElem?_eq_some_iff.mp h3).1
    rw [wb_out]
    · exact List.getElem?_set_self hk
    · intro _ _ _ m
      exact (List.nodup_cons.mp nd).1 (mem_sIdx m)
  | .r _ :: rs, s' :: ss, e, 0, s, nd, h1, h2, h3 => by simp at h1
  | .b _ :: rs, s' :: ss, e, 0, s, nd, h1, h2, h3 => by simp at h1
  | .r _ :: rs, s' :: ss, e, j + 1, s, nd, h1, h2, h3 => wb_in (rs := rs) (j := j) nd (by simpa using h1) (by simpa using h2) h3
  | .b _ :: rs, s' :: ss, e, j + 1, s, nd, h1, h2, h3 => wb_in (rs := rs) (j := j) nd (by simpa using h1) (by simpa using h2) h3
  | .s i :: rs, s' :: ss, e, j + 1, s, nd, h1, h2, h3 => by
    unfold wb
    have hm : Od.s k ∈ rs := List.mem_of_getElem? (i := j) (by simpa using h1)
    have hik : i ≠ k := fun q => by subst q; exact (List.nodup_cons.mp nd).1 (mem_sIdx hm)
    refine wb_in (z := z) (rs := rs) (ss := ss) (j := j) (List.nodup_cons.mp nd).2 (by simpa using h1) (by simpa using h2) ?_
    split
    · rw [List.getElem?_set_ne hik]; exact h3
    · exact h3
/-- a call: what is handed over, what comes back -/
def eCallR (m : FSem) (rs : List Od) (e1 : En) : Out Od := match toSls e1 rs with
  | some ss => if (sIdx rs).Nodup then (match m ss with
    | .ok (.s _) _ => .bad
    | .ok r ss' => .ok r (wb rs ss' e1)
    | .exc c t ss' => .exc c t (wb rs ss' e1)
    | .bad => .bad) else .bad
  | none => .bad
def eCall (n : Nat) (m : FSem) (ma : SemA) : SemE := fun e => (ma e).bind fun rs e1 => if rs.length = n then eCallR m rs e1 else .bad
theorem toSls_get {e : En} : ∀ {rs : List Od} {ss : List Sl}, toSls e rs = some ss → rs.length = ss.length ∧ ∀ (j : Nat) (s : Sl), ss[j]? = some s → ∃ r, rs[j]? = some r ∧ toSl e r = some s
  | [], _, h => by cases h; exact ⟨rfl, fun j s h => by simp at h⟩
  | r :: rs, _, h => by
    unfold toSls at h
    cases q : toSl e r with
    | none => rw [q] at h; cases h
    | some s =>
      cases q2 : toSls e rs with
      | none => rw [q, q2] at h; cases h
      | some ss =>
        rw [q, q2] at h; cases h
        obtain ⟨l, g⟩ := toSls_get q2
        refine ⟨by simp [l], fun j s' hj => ?_⟩
        cases j with
        | zero => simp at hj; subst hj; exact ⟨r, rfl, q⟩
        | succ j => simpa using g j s' (by simpa using hj)
theorem ods_len {K : PySem.W.Frag} {σ : Sg} {Hs F H : Hp} : ∀ {rs : List Od} {xs : List V}, OdsR K σ Hs F H rs xs → rs.length = xs.length
  | _, _, .nil => rfl
  | _, _, .cons a b _ => by simp [ods_len b]
theorem ods_get {K : PySem.W.Frag} {σ : Sg} {Hs F H : Hp} : ∀ {rs : List Od} {xs : List V} {j : Nat} {r : Od}, OdsR K σ Hs F H rs xs → rs[j]? = some r → ∃ x, xs[j]? = some x ∧ OdR K σ Hs F H x r
  | _, _, _, _, .nil, h => by simp at h
  | _, _, 0, _, .cons a b _, h => by simp at h; subst h; exact ⟨_, rfl, a⟩
  | _, _, j + 1, _, .cons a b _, h => by simpa using ods_get b (by simpa using h)
theorem ods_ne {K : PySem.W.Frag} {σ : Sg} {Hs F H : Hp} {p : Addr} {z z' : Bx} : ∀ {rs : List Od} {xs : List V} {i j : Nat}, OdsR K σ Hs F H rs xs → rs[i]? = some (.b z) → rs[j]? = some (.b z') → xs[i]? = some (.ref p) → xs[j]? = some (.ref p) → i = j
  | _, _, _, _, .nil, h, _, _, _ => by simp at h
  | _, _, 0, 0, .cons a b n, _, _, _, _ => rfl
  | _, _, 0, j + 1, .cons a b n, h1, h2, h3, h4 => by
    simp at h1 h3
    exact absurd (by simpa using h4) (n z p h1 h3 j z' (by simpa using h2))
  | _, _, i + 1, 0, .cons a b n, h1, h2, h3, h4 => by
    simp at h2 h4
    exact absurd (by simpa using h3) (n z' p h2 h4 i z (by simpa using h1))
  | _, _, i + 1, j + 1, .cons a b n, h1, h2, h3, h4 => by rw [ods_ne (i := i) (j := j) b (by simpa using h1) (by simpa using h2) (by simpa using h3) (by simpa using h4)]
theorem s_inj {k : Nat} : ∀ {rs : List Od} {i j : Nat}, (sIdx rs).Nodup → rs[i]? = some (.s k) → rs[j]? = some (.s k) → i = j
  | [], _, _, _, h, _ => by simp at h
  | _ :: _, 0, 0, _, _, _ => rfl
  | .s m :: rs, 0, j + 1, nd, h1, h2 => by
    simp at h1; subst h1
    exact absurd (mem_sIdx (List.mem_of_getElem? (i := j) (by simpa using h2))) (List.nodup_cons.mp nd).1
  | .s m :: rs, i + 1, 0, nd, h1, h2 => by
    simp at h2; subst h2
    exact absurd (mem_sIdx (List.mem_of_getElem? (i := i) (by simpa using h1))) (List.nodup_cons.mp nd).1
  | .r _ :: rs, 0, j + 1, nd, h1, h2 => by simp at h1
  | .b _ :: rs, 0, j + 1, nd, h1, h2 => by simp at h1
  | .r _ :: rs, i + 1, 0, nd, h1, h2 => by simp at h2
  | .b _ :: rs, i + 1, 0, nd, h1, h2 => by simp at h2
  | .s m :: rs, i + 1, j + 1, nd, h1, h2 => by rw [s_inj (rs := rs) (i := i) (j := j) (List.nodup_cons.mp nd).2 (by simpa using h1) (by simpa using h2)]
  | .r _ :: rs, i + 1, j + 1, nd, h1, h2 => by rw [s_inj (rs := rs) (i := i) (j := j) nd (by simpa using h1) (by simpa using h2)]
  | .b _ :: rs, i + 1, j + 1, nd, h1, h2 => by rw [s_inj (rs := rs) (i := i) (j := j) nd (by simpa using h1) (by simpa using h2)]
theorem map_some_get {xs : List V} {j : Nat} {o : Option V} (h : (xs.map some)[j]? = some o) : ∃ x, o = some x ∧ xs[j]? = some x := by
  rw [List.getElem?_map] at h
  cases q : xs[j]? with
  | none => rw [q] at h; cases h
  | some x => rw [q] at h; cases h; exact ⟨x, rfl, rfl⟩
/-- what is handed over, as the callee sees it -/
theorem args_rel {K : PySem.W.Frag} {σ : Sg} {e0 e : En} {F0 H0 F H : Hp} {rs : List Od} {xs : List V} {ss : List Sl} (R0 : Rel K e0 σ F0 H0) (R : Rel K e σ F H) (S : Step e0 e σ F0 H0 F H) (O : OdsR K σ H0 F H rs xs) (hs : toSls e rs = some ss) (nd : (sIdx rs).Nodup) :
    Rel K ss (xs.map some) F H ∧ ∀ p, Own ss (xs.map some) p → Own e σ p ∨ H0 p = none := by
  obtain ⟨hl, g⟩ := toSls_get hs
  have cases_ow : ∀ (j : Nat) (l : Bool) (z : Bx) (p : Addr), ss[j]? = some (.ow l z) → (xs.map some)[j]? = some (some (.ref p)) → xs[j]? = some (.ref p) ∧ ((∃ z', rs[j]? = some (.b z') ∧ H0 p = none) ∨ ∃ i l' z', rs[j]? = some (.s i) ∧ e[i]? = some (.ow l' z') ∧ σ[i]? = some (some (.ref p))) := by
    intro j l z p h1 h2
    obtain ⟨r, hr, ht⟩ := g j _ h1
    obtain ⟨x, ex, hx⟩ := map_some_get h2
    cases ex
    refine ⟨hx, ?_⟩
    obtain ⟨x', hx', o⟩ := ods_get O hr
    rw [hx] at hx'; cases hx'
    cases r with
    | r t => cases ht
    | b z' =>
      obtain ⟨p', ep, hn, _⟩ := o
      cases ep
      exact .inl ⟨z', hr, hn⟩
    | s i =>
      simp only [toSl] at ht
      cases q : e[i]? with
      | none => rw [q] at ht; cases ht
      | some y =>
        rw [q] at ht
        cases y with
        | un => cases ht
        | v _ => cases ht
        | fz _ => cases ht
        | ow l' z' => exact .inr ⟨i, l', z', hr, q, o⟩
  refine ⟨⟨R.sub, by rw [List.length_map, ← hl, ods_len O], fun j s o h1 h2 => ?_, fun i j l b l' b' p h1 h2 h3 h4 => ?_⟩, fun p ⟨j, l, z, h1, h2⟩ => ?_⟩
  · obtain ⟨r, hr, ht⟩ := g j _ h1
    obtain ⟨x, ex, hx⟩ := map_some_get h2
    cases ex
    obtain ⟨x', hx', od⟩ := ods_get O hr
    rw [hx] at hx'; cases hx'
    cases r with
    | r t => cases ht; exact ⟨x, rfl, od⟩
    | b z =>
      cases ht
      obtain ⟨p, ep, _, hf, bx⟩ := od
      cases ep
      exact ⟨p, rfl, hf, bx⟩
    | s i =>
      simp only [toSl] at ht
      have od : σ[i]? = some (some x) := od
      cases q : e[i]? with
      | none => rw [q] at ht; cases ht
      | some y =>
        rw [q] at ht
        have z := R.at_ i y _ q od
        cases y with
        | un => cases ht
        | v _ => cases ht; exact z
        | fz _ => cases ht; exact z
        | ow l' z' => cases ht; exact z
  · obtain ⟨a1, c1⟩ := cases_ow i l b p h1 h3
    obtain ⟨a2, c2⟩ := cases_ow j l' b' p h2 h4
    rcases c1 with ⟨z1, r1, n1⟩ | ⟨i1, l1, z1, r1, e1, s1⟩
    · rcases c2 with ⟨z2, r2, n2⟩ | ⟨i2, l2, z2, r2, e2, s2⟩
      · exact ods_ne O r1 r2 a1 a2
      · exact absurd ⟨i2, l2, z2, e2, s2⟩ (fresh_not_own R0 S n1)
    · rcases c2 with ⟨z2, r2, n2⟩ | ⟨i2, l2, z2, r2, e2, s2⟩
      · exact absurd ⟨i1, l1, z1, e1, s1⟩ (fresh_not_own R0 S n2)
      · have q := R.ne i1 i2 _ _ _ _ p e1 e2 s1 s2
        subst q
        exact s_inj nd r1 r2
  · obtain ⟨a1, c1⟩ := cases_ow j l z p h1 h2
    rcases c1 with ⟨z1, r1, n1⟩ | ⟨i1, l1, z1, r1, e1, s1⟩
    · exact .inr n1
    · exact .inl ⟨i1, l1, z1, e1, s1⟩
/-- behind a call -/
theorem back_rel {K : PySem.W.Frag} {σ : Sg} {e0 e : En} {F0 H0 F H F' H' : Hp} {rs : List Od} {xs : List V} {ss ss' : List Sl} (R0 : Rel K e0 σ F0 H0) (R : Rel K e σ F H) (S : Step e0 e σ F0 H0 F H) (O : OdsR K σ H0 F H rs xs) (hs : toSls e rs = some ss) (nd : (sIdx rs).Nodup)
    (R' : Rel K ss' (xs.map some) F' H') (S' : Step ss ss' (xs.map some) F H F' H') : Rel K (wb rs ss' e) σ F' H' ∧ Step e0 (wb rs ss' e) σ F0 H0 F' H' := by
  obtain ⟨RA, ow⟩ := args_rel R0 R S O hs nd
  obtain ⟨hl, g⟩ := toSls_get hs
  have hl' : ss'.length = rs.length := by rw [R'.len, List.length_map, ods_len O]
  -- each name: as it was, or as the callee left it
  have at2 : ∀ (k : Nat) (s : Sl), (wb rs ss' e)[k]? = some s → (e[k]? = some s ∧ ∀ l z, s = Sl.ow l z → Od.s k ∉ rs) ∨ ∃ (j : Nat) (l : Bool) (z : Bx) (s' : Sl) (x : V), rs[j]? = some (Od.s k) ∧ ss'[j]? = some s' ∧ e[k]? = some (Sl.ow l z) ∧ s = bk l s' ∧ ss[j]? = some (Sl.ow true z) ∧ (∃ z', s' = Sl.ow true z' ∨ s' = Sl.fz z') ∧ xs[j]? = some x ∧ σ[k]? = some (some x) := by
    intro k s h
    by_cases c : ∃ l z, e[k]? = some (.ow l z) ∧ Od.s k ∈ rs
    · obtain ⟨l, z, c1, c2⟩ := c
      obtain ⟨j, hj⟩ := List.getElem?_of_mem c2
      have hjl : j < ss'.length := by rw [hl']; exact (List.getElem?_eq_some_iff.mp hj).1
      have hj2 : ss'[j]? = some ss'[j] := List.getElem?_eq_getElem hjl
      rw [wb_in nd hj hj2 c1] at h
      cases h
      have hss : ss[j]? = some (.ow true z) := by
        have hjl2 : j < ss.length := by rw [← hl]; exact (List.getElem?_eq_some_iff.mp hj).1
        obtain ⟨r, hr, ht⟩ := g j _ (List.getElem?_eq_getElem hjl2)
        rw [hj] at hr; cases hr
        simp only [toSl, c1] at ht
        cases ht'' : ss[j]
        all_goals rw [ht''] at ht
        all_goals cases ht
        rw [List.getElem?_eq_getElem hjl2, ht'']
      obtain ⟨b', hb⟩ := S'.lt j ⟨z, .inl hss⟩
      obtain ⟨x, hx, od⟩ := ods_get O hj
      refine .inr ⟨j, l, z, _, x, hj, hj2, c1, rfl, hss, ⟨b', ?_⟩, hx, od⟩
      rw [hj2] at hb
      rcases hb with hb | hb
      · exact .inl (Option.some.inj hb)
      · exact .inr (Option.some.inj hb)
    · rw [wb_out rs ss' e fun l z q m => c ⟨l, z, q, m⟩] at h
      exact .inl ⟨h, fun l z q m => c ⟨l, z, by rw [h, q], m⟩⟩
  have own2 : ∀ (k : Nat) (l : Bool) (b : Bx), (wb rs ss' e)[k]? = some (Sl.ow l b) → ∃ l' b', e[k]? = some (Sl.ow l' b') := fun k l b h => by
    rcases at2 k _ h with ⟨h, _⟩ | ⟨j, l1, z, s', x, _, _, h, _⟩
    · exact ⟨l, b, h⟩
    · exact ⟨l1, z, h⟩
  have own : ∀ p, Own (wb rs ss' e) σ p → Own e σ p := fun p ⟨k, l, b, h1, h2⟩ => by
    obtain ⟨l', b', h⟩ := own2 k l b h1
    exact ⟨k, l', b', h, h2⟩
  refine ⟨⟨R'.sub, by rw [wb_len]; exact R.len, fun k s o h1 h2 => ?_, fun i j l b l' b' p h1 h2 h3 h4 => ?_⟩, ⟨fun a o h => S'.ff _ _ (S.ff _ _ h), fun a o h n => ?_, fun a o h => ?_, fun p h => S.own _ (own p h), fun i hi => ?_, fun i l b h => ?_⟩⟩
  · rcases at2 k s h1 with ⟨h, no⟩ | ⟨j, l, z, s', x, hr, hs', he, es, hss, lent, hx, hσ⟩
    · have q := R.at_ k s o h h2
      cases s with
      | un => trivial
      | v t => obtain ⟨y, ey, d⟩ := q; exact ⟨y, ey, dp_mono S'.ff _ _ d⟩
      | fz b => obtain ⟨y, ey, d⟩ := q; exact ⟨y, ey, dp_mono S'.ff _ _ d⟩
      | ow l b =>
        obtain ⟨p, ep, hf, bx⟩ := q
        subst ep
        obtain ⟨u, hu⟩ := bx_some bx
        have na : ¬ Own ss (xs.map some) p := fun ⟨j, l1, z1, g1, g2⟩ => by
          obtain ⟨r, hr, ht⟩ := g j _ g1
          obtain ⟨x, ex, hx⟩ := map_some_get g2
          cases ex
          obtain ⟨x', hx', od⟩ := ods_get O hr
          rw [hx] at hx'; cases hx'
          cases r with
          | r t => cases ht
          | b z' =>
            obtain ⟨p', ep, hn, _⟩ := od
            cases ep
            exact fresh_not_own R0 S hn ⟨k, l, b, h, h2⟩
          | s i =>
            simp only [toSl] at ht
            cases q : e[i]? with
            | none => rw [q] at ht; cases ht
            | some y =>
              rw [q] at ht
              cases y with
              | un => cases ht
              | v _ => cases ht
              | fz _ => cases ht
              | ow l' z' =>
                have ik := R.ne i k _ _ _ _ p q h od h2
                subst ik
                exact no l b rfl (List.mem_of_getElem? hr)
        obtain ⟨k1, k2⟩ := S'.keep p u hu na
        exact ⟨p, rfl, k2 hf, bx_keep bx S'.ff fun o' h' => by rw [hu] at h'; cases h'; exact k1⟩
    · rw [hσ] at h2; cases h2
      have q := R'.at_ j s' (some x) hs' (by rw [List.getElem?_map, hx]; rfl)
      subst es
      obtain ⟨z', lent⟩ := lent
      rcases lent with e' | e'
      · subst e'; exact q
      · subst e'
        cases l with
        | true => exact q
        | false => exact q
  · obtain ⟨l1, b1, q1⟩ := own2 i _ _ h1
    obtain ⟨l2, b2, q2⟩ := own2 j _ _ h2
    exact R.ne i j _ _ _ _ p q1 q2 h3 h4
  · obtain ⟨k1, k2⟩ := S.keep a o h n
    have na : ¬ Own ss (xs.map some) a := fun z => by
      rcases ow a z with z | z
      · exact n (S.own _ z)
      · rw [h] at z; cases z
    obtain ⟨k3, k4⟩ := S'.keep a o k1 na
    exact ⟨k3, fun z => k4 (k2 z)⟩
  · obtain ⟨o1, h1⟩ := S.dom a o h
    exact S'.dom a o1 h1
  · obtain ⟨b, hb⟩ := S.lt i hi
    rcases hb with hb | hb
    · by_cases m : Od.s i ∈ rs
      · obtain ⟨j, hj⟩ := List.getElem?_of_mem m
        have hjl : j < ss'.length := by rw [hl']; exact (List.getElem?_eq_some_iff.mp hj).1
        have w := wb_in nd hj (List.getElem?_eq_getElem hjl) hb
        rcases at2 i _ w with ⟨h, no⟩ | ⟨j', l, z, s', x, hr, hs', he, es, hss, ⟨z', lent⟩, hx, hσ⟩
        · exact ⟨b, .inl (by rw [wb_in nd hj (List.getElem?_eq_getElem hjl) hb] at w ⊢; rw [← h, hb])⟩
        · rw [hb] at he; cases he
          rcases lent with e' | e'
          · subst e'; exact ⟨z', .inl (by rw [w, es]; rfl)⟩
          · subst e'; exact ⟨z', .inr (by rw [w, es]; rfl)⟩
      · exact ⟨b, .inl (by rw [wb_out rs ss' e fun _ _ _ m' => m m']; exact hb)⟩
    · exact ⟨b, .inr (by rw [wb_out rs ss' e fun l z q _ => by rw [hb] at q; cases q]; exact hb)⟩
  · rcases at2 i _ h with ⟨q, _⟩ | ⟨j, l1, z, s', x, _, _, q, es, _, ⟨z', lent⟩, _⟩
    · exact S.sk i l b q
    · rcases lent with e' | e'
      · subst e'; cases es; exact S.sk i l z q
      · subst e'
        cases l1 with
        | true => cases es
        | false => cases es
theorem call_read {n : Nat} {m : FSem} {ma : SemA} {K : PySem.W.Frag} {σ : Sg} {H : Hp} {Q : VK} (h : tE K W (eCall n m ma) σ H Q) : tA K W ma σ H fun vs H1 => spF K n m vs H1 Q (WE W σ) := by
  obtain ⟨e, F, R, h⟩ := h
  refine tX_imp (tX_bind (rel := fun σ Hs F H xs rs => OdsR K σ Hs F H rs xs) R .refl h) fun xs H1 ⟨rs, e1, F1, R1, S1, O1, h1⟩ => ?_
  by_cases hl : rs.length = n
  · rw [if_pos hl] at h1
    refine ⟨by rw [← ods_len O1]; exact hl, ?_⟩
    unfold eCallR at h1
    cases q : toSls e1 rs with
    | none => rw [q] at h1; exact h1.elim
    | some ss =>
      simp only [q] at h1
      by_cases nd : (sIdx rs).Nodup
      · rw [if_pos nd] at h1
        obtain ⟨RA, _⟩ := args_rel R R1 S1 O1 q nd
        refine ⟨ss, F1, RA, ?_⟩
        cases w : m ss with
        | bad => rw [w] at h1; exact h1
        | exc c t ss' =>
          rw [w] at h1
          exact fun F' H' cls d R' S' x => let ⟨a, b⟩ := back_rel R R1 S1 O1 q nd R' S'; h1 F' H' cls d a b x
        | ok r ss' =>
          rw [w] at h1
          intro x F' H' R' S' o
          obtain ⟨a, b⟩ := back_rel R R1 S1 O1 q nd R' S'
          cases r with
          | s i => exact h1.elim
          | r t => exact h1 x F' H' a b o
          | b z => obtain ⟨p, ep, hn, hf, bx⟩ := o; exact h1 x F' H' a b ⟨p, ep, step_none S1 hn, hf, bx⟩
      · rw [if_neg nd] at h1; exact h1.elim
  · rw [if_neg hl] at h1; exact h1.elim
theorem qcall {CX : CXT} {k : Nat} {f : Addr} {fd : FuncData} {ps : List Str} {m : FSem} {ma : SemA} {x : Str} {p : Pos} {es : List Expr} {n : Nat} (Fn : FnOk X.prog X.w X.K X.mg X.base CX k f fd ps (spF X.K n m)) (hr : Room k X.A) (hg : Gl X x) (hm : X.mg x = some (.ref f)) (hk : PySem.W.keepIn X.K (.ref f) = true)
    (hb : Binds X.K fd ps []) (hx : ∀ σ, PassesAt CX X σ (WE W σ)) (ha : QA X W (a :: es) ma) (hdb : (x == ("__debug__" : Str)) = false := by decide) (he : starEach (a :: es) X.env = (false, eval a X.env) :: starEach es X.env := by rfl)
    (hpl : (backTo pos (starEach es X.env)).any (·.1) = false := by rfl) : QE X W (.Call (.Name x p) (a :: es) [] pos) (eCall n m ma) :=
  pe_mono (pe_callS (E := fun σ => WE W σ) Fn hr hg hm hk hb hx ha hdb he hpl) fun σ H Q h => call_read h
end
end Ev

set_option Elab.async false
set_option linter.all false
set_option maxRecDepth 100000
namespace Ev
open PySem PySem.Spec PyProof.Rows L2
/-- the entry of the def whose body runs -/
structure Bd where
  e : En
  σ : Sg
  F : Hp
  H : Hp
structure BOk (B : Bd) (e : En) (σ : Sg) (F H : Hp) : Prop where
  ff : ∀ a o, B.F a = some o → F a = some o
  keep : ∀ a o, B.H a = some o → ¬ Own B.e B.σ a → H a = some o ∧ (B.F a = none → F a = none)
  dom : ∀ a o, B.H a = some o → ∃ o', H a = some o'
  fresh : ∀ (i : Nat) (b : Bx) (p : Addr), e[i]? = some (Sl.ow false b) → σ[i]? = some (some (V.ref p)) → B.H p = none
  own : ∀ (i : Nat) (b : Bx), e[i]? = some (Sl.ow true b) → σ[i]? = B.σ[i]? ∧ ∃ b', B.e[i]? = some (Sl.ow true b')
  lent : ∀ (i : Nat) (b : Bx), B.e[i]? = some (Sl.ow true b) → Lent e i ∧ σ[i]? = B.σ[i]?
section
variable {K : PySem.W.Frag} {W : WX} {B : Bd} {e e1 e2 : En} {σ σ1 : Sg} {F H F1 H1 F2 H2 : Hp}
theorem BOk.own' (k : BOk B e σ F H) {p : Addr} (h : Own e σ p) : Own B.e B.σ p ∨ B.H p = none := by
  obtain ⟨i, l, b, h1, h2⟩ := h
  cases l with
  | true => obtain ⟨q, b', q2⟩ := k.own i b h1; exact .inl ⟨i, true, b', q2, by rw [← q]; exact h2⟩
  | false => exact .inr (k.fresh i b p h1 h2)
theorem BOk.step (k : BOk B e σ F H) (S : Step e e1 σ F H F1 H1) : BOk B e1 σ F1 H1 where
  ff := fun a o h => S.ff _ _ (k.ff _ _ h)
  keep := fun a o h n => by
    obtain ⟨h1, h2⟩ := k.keep a o h n
    obtain ⟨h3, h4⟩ := S.keep a o h1 fun z => by
      rcases k.own' z with z | z
      · exact n z
      · rw [h] at z; cases z
    exact ⟨h3, fun z => h4 (h2 z)⟩
  dom := fun a o h => by
    obtain ⟨o1, h1⟩ := k.dom a o h
    exact S.dom a o1 h1
  fresh := fun i b p h1 h2 => by
    obtain ⟨b', q⟩ := S.sk i _ _ h1
    exact k.fresh i b' p q h2
  own := fun i b h1 => by
    obtain ⟨b', q⟩ := S.sk i _ _ h1
    exact k.own i b' q
  lent := fun i b h => ⟨S.lt i (k.lent i b h).1, (k.lent i b h).2⟩

/-! ### statements -/
inductive Fl where
  | nx
  | rt (r : Od)
  | bk
  | ct
abbrev SemS := En → Out Fl
def OutS (K : PySem.W.Frag) (W : WX) (B : Bd) (o : Out Fl) (D : Ends) : Prop := match o with
  | .ok .nx e' => ∀ σ' F' H', Rel K e' σ' F' H' → BOk B e' σ' F' H' → D.nx σ' H'
  | .ok .bk e' => ∀ σ' F' H', Rel K e' σ' F' H' → BOk B e' σ' F' H' → D.bk σ' H'
  | .ok .ct e' => ∀ σ' F' H', Rel K e' σ' F' H' → BOk B e' σ' F' H' → D.ct σ' H'
  | .ok (.rt r) e' => ∀ x σ' F' H', Rel K e' σ' F' H' → BOk B e' σ' F' H' → OdR K [] B.H F' H' x r → D.rt x H'
  | .exc c t e' => ∀ σ' F' H' cls d, Rel K e' σ' F' H' → BOk B e' σ' F' H' → ExR K F' H' c t cls d → W cls d σ' H'
  | .bad => False
def tS (K : PySem.W.Frag) (W : WX) (B : Bd) (m : SemS) : TS := fun D σ H => ∃ e F, Rel K e σ F H ∧ BOk B e σ F H ∧ OutS K W B (m e) D
theorem tS_bind {α β : Type} {rel : Sg → Hp → Hp → Hp → β → α → Prop} {m : En → Out α} {f : α → En → Out Fl} {D : Ends} (R : Rel K e σ F H) (k : BOk B e σ F H) (h : OutS K W B ((m e).bind f) D) :
    tX K W rel m σ H (fun x H1 => ∃ r e1 F1, Rel K e1 σ F1 H1 ∧ Step e e1 σ F H F1 H1 ∧ BOk B e1 σ F1 H1 ∧ rel σ H F1 H1 x r ∧ OutS K W B (f r e1) D) := by
  refine ⟨e, F, R, ?_⟩
  cases q : m e with
  | ok r e' => rw [q] at h; exact fun x F' H' R' S' O => ⟨r, e', F', R', S', k.step S', O, h⟩
  | exc c t e' => rw [q] at h; exact fun F' H' cls d R' S' X => h σ F' H' cls d R' (k.step S') X
  | bad => rw [q] at h; exact h
abbrev QS (X : Cx) (W : WX) (B : Bd) (st : Stmt) (m : SemS) : Prop := PS X st (tS X.K W B m)
abbrev QSs (X : Cx) (W : WX) (B : Bd) (st : List Stmt) (m : SemS) : Prop := PSs X st (tS X.K W B m)
def isLent (e : En) (i : Nat) : Bool := match e[i]? with
  | some (.ow true _) => true
  | some (.fz _) => true
  | _ => false
theorem isLent_no {i : Nat} (h : isLent e i = false) : ¬ Lent e i := fun ⟨b, q⟩ => by
  rcases q with q | q <;> simp [isLent, q] at h
theorem set_v {i : Nat} {x : V} {t : T} (R : Rel K e σ F H) (k : BOk B e σ F H) (d : Dp K F x t) (n : ¬ Lent e i) : Rel K (e.set i (.v t)) (σ.set i (some x)) F H ∧ BOk B (e.set i (.v t)) (σ.set i (some x)) F H := by
  have get : ∀ (j : Nat) (s : Sl), (e.set i (.v t))[j]? = some s → (j = i ∧ s = .v t ∧ i < e.length) ∨ (i ≠ j ∧ e[j]? = some s) := fun j s h => by
    by_cases q : i = j
    · subst q
      have hi : i < e.length := by have := (List.getElem?_eq_some_iff.mp h).1; simpa using this
      rw [List.getElem?_set_self hi] at h; cases h; exact .inl ⟨rfl, rfl, hi⟩
    · rw [List.getElem?_set_ne q] at h; exact .inr ⟨q, h⟩
  have sg : ∀ (j : Nat), i ≠ j → (σ.set i (some x))[j]? = σ[j]? := fun j q => List.getElem?_set_ne q
  refine ⟨⟨R.sub, by simp [R.len], fun j s o h1 h2 => ?_, fun j j' l b l' b' p h1 h2 h3 h4 => ?_⟩, ⟨k.ff, k.keep, k.dom, fun j b p h1 h2 => ?_, fun j b h1 => ?_, fun j b h => ?_⟩⟩
  · rcases get j s h1 with ⟨rfl, rfl, hi⟩ | ⟨q, h⟩
    · rw [List.getElem?_set_self (by rw [← R.len]; exact hi)] at h2; cases h2; exact ⟨x, rfl, d⟩
    · rw [sg j q] at h2; exact R.at_ j s o h h2
  · rcases get j _ h1 with ⟨_, z, _⟩ | ⟨q, g1⟩
    · cases z
    · rcases get j' _ h2 with ⟨_, z, _⟩ | ⟨q', g2⟩
      · cases z
      · rw [sg j q] at h3; rw [sg j' q'] at h4; exact R.ne j j' l b l' b' p g1 g2 h3 h4
  · rcases get j _ h1 with ⟨_, z, _⟩ | ⟨q, g1⟩
    · cases z
    · rw [sg j q] at h2; exact k.fresh j b p g1 h2
  · rcases get j _ h1 with ⟨_, z, _⟩ | ⟨q, g1⟩
    · cases z
    · rw [sg j q]; exact k.own j b g1
  · obtain ⟨l, q⟩ := k.lent j b h
    have ne : i ≠ j := fun z => n (by rw [z]; exact l)
    refine ⟨?_, by rw [sg j ne]; exact q⟩
    obtain ⟨b', l⟩ := l
    exact ⟨b', by rw [List.getElem?_set_ne ne]; exact l⟩
theorem set_b {i : Nat} {p : Addr} {z : Bx} (R : Rel K e σ F H) (k : BOk B e σ F H) (hf : F p = none) (bx : BxAt K F H p z) (hB : B.H p = none) (no : ¬ Own e σ p) (n : ¬ Lent e i) : Rel K (e.set i (.ow false z)) (σ.set i (some (.ref p))) F H ∧ BOk B (e.set i (.ow false z)) (σ.set i (some (.ref p))) F H := by
  have get : ∀ (j : Nat) (s : Sl), (e.set i (.ow false z))[j]? = some s → (j = i ∧ s = .ow false z ∧ i < e.length) ∨ (i ≠ j ∧ e[j]? = some s) := fun j s h => by
    by_cases q : i = j
    · subst q
      have hi : i < e.length := by have := (List.getElem?_eq_some_iff.mp h).1; simpa using this
      rw [List.getElem?_set_self hi] at h; cases h; exact .inl ⟨rfl, rfl, hi⟩
    · rw [List.getElem?_set_ne q] at h; exact .inr ⟨q, h⟩
  have sg : ∀ (j : Nat), i ≠ j → (σ.set i (some (V.ref p)))[j]? = σ[j]? := fun j q => List.getElem?_set_ne q
  have si : i < e.length → (σ.set i (some (V.ref p)))[i]? = some (some (V.ref p)) := fun h => List.getElem?_set_self (by rw [← R.len]; exact h)
  refine ⟨⟨R.sub, by simp [R.len], fun j s o h1 h2 => ?_, fun j j' l b l' b' p' h1 h2 h3 h4 => ?_⟩, ⟨k.ff, k.keep, k.dom, fun j b p' h1 h2 => ?_, fun j b h1 => ?_, fun j b h => ?_⟩⟩
  · rcases get j s h1 with ⟨rfl, rfl, hi⟩ | ⟨q, h⟩
    · rw [si hi] at h2; cases h2; exact ⟨p, rfl, hf, bx⟩
    · rw [sg j q] at h2; exact R.at_ j s o h h2
  · rcases get j _ h1 with ⟨e1, _, hi⟩ | ⟨q, g1⟩
    · rcases get j' _ h2 with ⟨e2, _, _⟩ | ⟨q', g2⟩
      · rw [e1, e2]
      · subst e1
        rw [si hi] at h3; cases h3
        rw [sg j' q'] at h4
        exact absurd ⟨j', l', b', g2, h4⟩ no
    · rcases get j' _ h2 with ⟨e2, _, hi⟩ | ⟨q', g2⟩
      · subst e2
        rw [si hi] at h4; cases h4
        rw [sg j q] at h3
        exact absurd ⟨j, l, b, g1, h3⟩ no
      · rw [sg j q] at h3; rw [sg j' q'] at h4; exact R.ne j j' l b l' b' p' g1 g2 h3 h4
  · rcases get j _ h1 with ⟨e1, _, hi⟩ | ⟨q, g1⟩
    · subst e1; rw [si hi] at h2; cases h2; exact hB
    · rw [sg j q] at h2; exact k.fresh j b p' g1 h2
  · rcases get j _ h1 with ⟨_, z, _⟩ | ⟨q, g1⟩
    · cases z
    · rw [sg j q]; exact k.own j b g1
  · obtain ⟨l, q⟩ := k.lent j b h
    have ne : i ≠ j := fun z => n (by rw [z]; exact l)
    refine ⟨?_, by rw [sg j ne]; exact q⟩
    obtain ⟨b', l⟩ := l
    exact ⟨b', by rw [List.getElem?_set_ne ne]; exact l⟩
/-- name = value -/
def setO (i : Nat) (r : Od) (e : En) : Out Fl := if isLent e i then .bad else match r with
  | .b z => .ok .nx (e.set i (.ow false z))
  | r => match esc r e with
    | some (t, e') => .ok .nx (e'.set i (.v t))
    | none => .bad
theorem esc_lent {r : Od} {t : T} {i : Nat} (h : esc r e = some (t, e1)) (n : ¬ Lent e i) : ¬ Lent e1 i := by
  cases r with
  | r u => cases h; exact n
  | b z =>
    simp only [esc] at h
    split at h
    · cases h; exact n
    · cases h
  | s j =>
    simp only [esc] at h
    cases q : e[j]? with
    | none => rw [q] at h; cases h
    | some s =>
      rw [q] at h
      cases s with
      | un => cases h
      | v u => cases h; exact n
      | fz u => cases h; exact n
      | ow l b =>
        simp only at h
        split at h
        · cases h
          rintro ⟨b', w⟩
          by_cases ij : j = i
          · subst ij
            have hj : j < e.length := (List.getElem?_eq_some_iff.mp q).1
            rw [List.getElem?_set_self hj] at w
            cases l with
            | true => exact n ⟨b, .inl q⟩
            | false => rcases w with w | w <;> cases w
          · rw [List.getElem?_set_ne ij] at w
            exact n ⟨b', w⟩
        · cases h
theorem set_ok {i : Nat} {r : Od} {x : V} {D : Ends} {e0 : En} {F0 H0 : Hp} (R0 : Rel K e0 σ F0 H0) (k0 : BOk B e0 σ F0 H0) (R : Rel K e σ F H) (S : Step e0 e σ F0 H0 F H) (O : OdR K σ H0 F H x r) (h : OutS K W B (setO i r e) D) : D.nx (σ.set i (some x)) H := by
  unfold setO at h
  cases l : isLent e i with
  | true => rw [l] at h; exact h.elim
  | false =>
    rw [l, if_neg (by decide)] at h
    have n := isLent_no l
    have tree : ∀ t e', esc r e = some (t, e') → OutS K W B (.ok .nx (e'.set i (.v t))) D → D.nx (σ.set i (some x)) H := fun t e' q h => by
      obtain ⟨F', R', S', d, _⟩ := esc_ok R0 R S O q
      obtain ⟨a, b⟩ := set_v R' (k0.step S') d (esc_lent q n)
      exact h _ _ _ a b
    cases r with
    | b z =>
      obtain ⟨p, rfl, hn, hf, bx⟩ := O
      have hB : B.H p = none := by
        cases q : B.H p with
        | none => rfl
        | some o => obtain ⟨o', e'⟩ := k0.dom _ _ q; rw [hn] at e'; cases e'
      obtain ⟨a, b⟩ := set_b R (k0.step S) hf bx hB (fresh_not_own R0 S hn) n
      exact h _ _ _ a b
    | r t =>
      cases q : esc (.r t) e with
      | none => simp only [q] at h; exact h.elim
      | some te => obtain ⟨t', e'⟩ := te; simp only [q] at h; exact tree t' e' q h
    | s j =>
      cases q : esc (.s j) e with
      | none => simp only [q] at h; exact h.elim
      | some te => obtain ⟨t', e'⟩ := te; simp only [q] at h; exact tree t' e' q h
end
section
variable {X : Cx} {W : WX} {B : Bd} {a b c : Expr} {ma mb mc : SemE} {pos : Pos} {st : Stmt} {sts : List Stmt} {m1 m2 : SemS}
def sSet (i : Nat) (m : SemE) : SemS := fun e => (m e).bind fun r e1 => setO i r e1
theorem asg_read {i : Nat} {m : SemE} {K : PySem.W.Frag} {D : Ends} {σ : Sg} {H : Hp} (h : tS K W B (sSet i m) D σ H) : tAsg (tE K W m) (gName i) D σ H := by
  obtain ⟨e, F, R, k, h⟩ := h
  exact tX_imp (tS_bind (rel := fun σ => OdR K σ) R k h) fun x H1 ⟨r, e1, F1, R1, S1, k1, O, h1⟩ => set_ok R k R1 S1 O h1
theorem qset {i : Nat} {x : Str} {pos' : Pos} (hN : X.N.Nodup) (hi : X.N[i]? = some x) (hx : Loc X.env.scope x) (he : QE X W a ma) (hs : swapsWith a (some (.Name x pos')) pos.line X.env = pure false := by rfl)
    (hf : X.fn x = true ∨ X.env.scope.names.lookup x = some .local := by first | exact .inl rfl | exact .inr rfl | assumption) : QS X W B (.Assign [.Name x pos'] a pos) (sSet i ma) :=
  ps_mono (ps_set hN hi hx he hs hf) fun D σ H h => asg_read h
def sDrop (m : SemE) : SemS := fun e => (m e).bind fun _ e1 => .ok .nx e1
theorem qexpr (he : QE X W a ma) (hs : swapsWith a none pos.line X.env = pure false := by rfl) : QS X W B (.Expr a pos) (sDrop ma) := by
  refine ps_mono (ps_expr he hs) fun D σ H h => ?_
  obtain ⟨e, F, R, k, h⟩ := h
  exact tX_imp (tS_bind (rel := fun σ => OdR X.K σ) R k h) fun x H1 ⟨r, e1, F1, R1, S1, k1, O, h1⟩ => h1 _ _ _ R1 k1
def sNil : SemS := fun e => .ok .nx e
theorem qnil : QSs X W B [] sNil := pss_mono pss_nil fun D σ H ⟨e, F, R, k, h⟩ => h _ _ _ R k
def sBrk : SemS := fun e => .ok .bk e
def sCnt : SemS := fun e => .ok .ct e
def sNever : SemS := fun _ => .bad
theorem qnever : QS X W B st sNever := ps_mono ps_never fun D σ H ⟨e, F, R, k, h⟩ => h.elim
theorem qnevers : QSs X W B sts sNever := pss_mono pss_never fun D σ H ⟨e, F, R, k, h⟩ => h.elim
def sSeq (m1 m2 : SemS) : SemS := fun e => match m1 e with
  | .ok .nx e1 => m2 e1
  | o => o
theorem qcons (h1 : QS X W B st m1) (h2 : QSs X W B sts m2) : QSs X W B (st :: sts) (sSeq m1 m2) := by
  refine pss_mono (pss_cons h1 h2) fun D σ H h => ?_
  obtain ⟨e, F, R, k, h⟩ := h
  refine ⟨e, F, R, k, ?_⟩
  unfold sSeq at h
  cases q : m1 e with
  | bad => rw [q] at h; exact h
  | exc c t e' => rw [q] at h; exact h
  | ok f e' =>
    rw [q] at h
    cases f with
    | nx => exact fun σ' F' H' R' k' => ⟨e', F', R', k', h⟩
    | rt r => exact h
    | bk => exact h
    | ct => exact h
theorem qone (h1 : QS X W B st m1) : QSs X W B [st] m1 := pss_one h1
def sIf (c : SemT) (m1 m2 : SemS) : SemS := fun e => (c e).bind fun k e1 => if k then m1 e1 else m2 e1
theorem qif {mt : SemT} {s1 s2 : List Stmt} (hc : QT X W c mt) (h1 : QSs X W B s1 m1) (h2 : QSs X W B s2 m2) : QS X W B (.If c s1 s2 pos) (sIf mt m1 m2) := by
  refine ps_mono (ps_if hc h1 h2) fun D σ H h => ?_
  obtain ⟨e, F, R, k, h⟩ := h
  refine tX_imp (tS_bind (rel := fun _ _ _ _ (x : Bool) r => x = r) R k h) fun x H1 ⟨r, e1, F1, R1, S1, k1, O, h1⟩ => ?_
  subst O
  cases x with
  | true => exact ⟨e1, F1, R1, k1, h1⟩
  | false => exact ⟨e1, F1, R1, k1, h1⟩
/-- return: what a name alone holds goes with it -/
def retO (r : Od) (e : En) : Out Fl := match r with
  | .r t => .ok (.rt (.r t)) e
  | .b z => .ok (.rt (.b z)) e
  | .s i => match e[i]? with
    | some (.ow false z) => .ok (.rt (.b z)) (e.set i .un)
    | _ => (match esc (.s i) e with
      | some (t, e') => .ok (.rt (.r t)) e'
      | none => .bad)
def sRet (m : SemE) : SemS := fun e => (m e).bind fun r e1 => retO r e1
end
end Ev

set_option Elab.async false
set_option linter.all false
set_option maxRecDepth 100000
namespace Ev
open PySem PySem.Spec PyProof.Rows L2
section
variable {K : PySem.W.Frag} {W : WX} {B : Bd} {e e1 e2 : En} {σ σ1 : Sg} {F H F1 H1 F2 H2 : Hp}
theorem set_un {i : Nat} (R : Rel K e σ F H) (k : BOk B e σ F H) (n : ¬ Lent e i) : Rel K (e.set i .un) σ F H ∧ BOk B (e.set i .un) σ F H := by
  have get : ∀ (j : Nat) (s : Sl), (e.set i .un)[j]? = some s → s = .un ∨ e[j]? = some s := fun j s h => by
    by_cases q : i = j
    · subst q
      have hi : i < e.length := by have := (List.getElem?_eq_some_iff.mp h).1; simpa using this
      rw [List.getElem?_set_self hi] at h; cases h; exact .inl rfl
    · rw [List.getElem?_set_ne q] at h; exact .inr h
  have gow : ∀ (j : Nat) (l : Bool) (b : Bx), (e.set i .un)[j]? = some (.ow l b) → e[j]? = some (.ow l b) := fun j l b h => by
    rcases get j _ h with z | z
    · cases z
    · exact z
  refine ⟨⟨R.sub, by simp [R.len], fun j s o h1 h2 => ?_, fun j j' l b l' b' p h1 h2 => R.ne j j' l b l' b' p (gow _ _ _ h1) (gow _ _ _ h2)⟩, ⟨k.ff, k.keep, k.dom, fun j b p h1 => k.fresh j b p (gow _ _ _ h1), fun j b h1 => k.own j b (gow _ _ _ h1), fun j b h => ?_⟩⟩
  · rcases get j s h1 with rfl | z
    · trivial
    · exact R.at_ j s o z h2
  · obtain ⟨⟨b', l⟩, q⟩ := k.lent j b h
    have ne : i ≠ j := fun z => n (by rw [z]; exact ⟨b', l⟩)
    exact ⟨⟨b', by rw [List.getElem?_set_ne ne]; exact l⟩, q⟩
theorem ret_ok {r : Od} {x : V} {D : Ends} {e0 : En} {F0 H0 : Hp} (R0 : Rel K e0 σ F0 H0) (k0 : BOk B e0 σ F0 H0) (R : Rel K e σ F H) (S : Step e0 e σ F0 H0 F H) (O : OdR K σ H0 F H x r) (h : OutS K W B (retO r e) D) : D.rt x H := by
  have k := k0.step S
  have hB : ∀ p, H0 p = none → B.H p = none := fun p hn => by
    cases q : B.H p with
    | none => rfl
    | some o => obtain ⟨o', e'⟩ := k0.dom _ _ q; rw [hn] at e'; cases e'
  cases r with
  | r t => exact h x σ F H R k O
  | b z => obtain ⟨p, ep, hn, hf, bx⟩ := O; exact h x σ F H R k ⟨p, ep, hB p hn, hf, bx⟩
  | s i =>
    have hs : σ[i]? = some (some x) := O
    have tree : ∀ t e', esc (.s i) e = some (t, e') → OutS K W B (.ok (.rt (.r t)) e') D → D.rt x H := fun t e' q h => by
      obtain ⟨F', R', S', d, _⟩ := esc_ok R0 R S O q
      exact h x σ F' H R' (k0.step S') d
    have other : (match esc (.s i) e with
      | some (t, e') => OutS K W B (.ok (.rt (.r t)) e') D
      | none => False) → D.rt x H := fun h => by
      cases q : esc (.s i) e with
      | none => rw [q] at h; exact h.elim
      | some te => obtain ⟨t, e'⟩ := te; rw [q] at h; exact tree t e' q h
    have conv : OutS K W B (match esc (.s i) e with
      | some (t, e') => .ok (.rt (.r t)) e'
      | none => .bad) D → D.rt x H := fun h => by
      cases q : esc (.s i) e with
      | none => rw [q] at h; exact h.elim
      | some te => obtain ⟨t, e'⟩ := te; rw [q] at h; exact tree t e' q h
    simp only [retO] at h
    cases q : e[i]? with
    | none => rw [q] at h; exact conv h
    | some s =>
      rw [q] at h
      cases s with
      | un => exact conv h
      | v _ => exact conv h
      | fz _ => exact conv h
      | ow l z =>
        cases l with
        | true => exact conv h
        | false =>
          obtain ⟨p, ep, hf, bx⟩ := R.at_ i _ _ q hs
          cases ep
          have n : ¬ Lent e i := fun ⟨b, w⟩ => by rw [q] at w; rcases w with w | w <;> cases w
          obtain ⟨R', k'⟩ := set_un R k n
          exact h _ σ F H R' k' ⟨p, rfl, k.fresh i z p q hs, hf, bx⟩
end
section
variable {X : Cx} {W : WX} {B : Bd} {a b c : Expr} {ma mb mc : SemE} {pos : Pos} {st : Stmt} {sts : List Stmt} {m1 m2 : SemS} {t1 t2 : SemT}
theorem qret (he : QE X W a ma) : QS X W B (.Return (some a) pos) (sRet ma) := by
  refine ps_mono (ps_ret he) fun D σ H h => ?_
  obtain ⟨e, F, R, k, h⟩ := h
  exact tX_imp (tS_bind (rel := fun σ => OdR X.K σ) R k h) fun x H1 ⟨r, e1, F1, R1, S1, k1, O, h1⟩ => ret_ok R k R1 S1 O h1
def sRetN : SemS := fun e => .ok (.rt (.r .none)) e
/-! ### tests -/
/-- the truth of a bool -/
def tb (m : SemE) : SemT := fun e => (m e).bind fun r e1 => match r.val e1 with
  | some (.bool k) => .ok k e1
  | _ => .bad
theorem tb_read {m : SemE} {σ : Sg} {H : Hp} {K : PySem.W.Frag} {Q : Bool → Hp → Prop} (h : tT K W (tb m) σ H Q) : tE K W m σ H fun x H' => ∃ k, x = .bl k ∧ Q k H' := by
  obtain ⟨e, F, R, h⟩ := h
  refine tX_imp (tX_bind R .refl h) fun x H1 ⟨r, e1, F1, R1, S1, O1, h1⟩ => ?_
  cases q : r.val e1 with
  | none => simp only [q] at h1; exact h1.elim
  | some t =>
    have d := val_ok R1 O1 q
    cases t with
    | bool k => simp only [q] at h1; cases d; exact ⟨k, rfl, h1 k F1 H1 R1 S1 rfl⟩
    | none => simp only [q] at h1; exact h1.elim
    | int _ => simp only [q] at h1; exact h1.elim
    | str _ => simp only [q] at h1; exact h1.elim
    | list _ => simp only [q] at h1; exact h1.elim
    | tuple _ => simp only [q] at h1; exact h1.elim
    | dict _ => simp only [q] at h1; exact h1.elim
theorem qtval (h : QE X W a ma) (he : ∀ whole, isTrue a X.env whole = (do let v ← whole; standAt a.pos; holding [v] (truthy v)) := by intro _; rfl) : QT X W a (tb ma) :=
  pt_mono (pt_val h he) fun σ H Q h => tb_read h
theorem qtcmp {f : CmpOp} {r : R2} {g : T → T → Option Od} (ho : OpR X (compareOp f) r) (hr : Does2 X.K r g) (ha : QE X W a ma) (hb : QE X W b mb) (hm : behindInMarks f b = false := by first | rfl | exact nomark _) : QT X W (.Compare a [f] [b] pos) (tb (eOp2 g ma mb)) :=
  pt_mono (pt_cmpR ho ha hb hm) fun σ H Q h => tX_imp (two (tb_read h)) fun x H1 h1 => tX_imp h1 fun y H2 h2 => does2 hr h2
def tNot (t : SemT) : SemT := fun e => (t e).bind fun k e1 => .ok (!k) e1
theorem qtnot (h : QT X W a t1) : QT X W (.UnaryOp .Not a pos) (tNot t1) := by
  refine pt_mono (pt_not h) fun σ H Q h => ?_
  obtain ⟨e, F, R, h⟩ := h
  exact tX_imp (tX_bind (rel := fun _ _ _ _ (x : Bool) r => x = r) R .refl h) fun x H1 ⟨r, e1, F1, R1, S1, O1, h1⟩ => by subst O1; exact h1 _ F1 H1 R1 S1 rfl
abbrev QW (X : Cx) (W : WX) (ex : Expr) (m : SemT) : Prop := PW X ex (tT X.K W m)
theorem pw_mono {X : Cx} {ex : Expr} {t t' : TT} (h : PW X ex t) (m : ∀ σ H Q, t' σ H Q → t σ H Q) : PW X ex t' := ⟨fun wh pins s σ H Q I q => h.run wh pins s σ H Q I (m σ H Q q)⟩
def tAnd (t1 t2 : SemT) : SemT := fun e => (t1 e).bind fun k e1 => if k then t2 e1 else .ok false e1
def tOr (t1 t2 : SemT) : SemT := fun e => (t1 e).bind fun k e1 => if k then .ok true e1 else t2 e1
theorem qw_and1 (h : QT X W a t1) : QW X W (.BoolOp .And [a] pos) t1 := pw_and1 h
theorem qw_or1 (h : QT X W a t1) : QW X W (.BoolOp .Or [a] pos) t1 := pw_or1 h
theorem outT_trans {K : PySem.W.Frag} {m : SemT} {e e1 : En} {σ : Sg} {F H F1 H1 : Hp} {Q : Bool → Hp → Prop} (R : Rel K e1 σ F1 H1) (S : Step e e1 σ F H F1 H1) (h : OutX K W (fun _ _ _ (x : Bool) r => x = r) (m e1) e σ F H Q) : tT K W m σ H1 Q := by
  refine ⟨e1, F1, R, ?_⟩
  cases q : m e1 with
  | bad => rw [q] at h; exact h
  | exc c t e' => rw [q] at h; exact fun F' H' cls d R' S' => h F' H' cls d R' (S.trans S')
  | ok r e' => rw [q] at h; exact fun x F' H' R' S' => h x F' H' R' (S.trans S')
theorem qw_and {rest : List Expr} (ha : QT X W a t1) (hb : QW X W (.BoolOp .And (b :: rest) pos) t2) : QW X W (.BoolOp .And (a :: b :: rest) pos) (tAnd t1 t2) := by
  refine pw_mono (pw_and ha hb) fun σ H Q h => ?_
  obtain ⟨e, F, R, h⟩ := h
  refine tX_imp (tX_bind (rel := fun _ _ _ _ (x : Bool) r => x = r) R .refl h) fun x H1 ⟨r, e1, F1, R1, S1, O1, h1⟩ => ?_
  subst O1
  cases x with
  | true => exact outT_trans R1 S1 h1
  | false => exact h1 _ F1 H1 R1 S1 rfl
theorem qw_or {rest : List Expr} (ha : QT X W a t1) (hb : QW X W (.BoolOp .Or (b :: rest) pos) t2) : QW X W (.BoolOp .Or (a :: b :: rest) pos) (tOr t1 t2) := by
  refine pw_mono (pw_or ha hb) fun σ H Q h => ?_
  obtain ⟨e, F, R, h⟩ := h
  refine tX_imp (tX_bind (rel := fun _ _ _ _ (x : Bool) r => x = r) R .refl h) fun x H1 ⟨r, e1, F1, R1, S1, O1, h1⟩ => ?_
  subst O1
  cases x with
  | true => exact h1 _ F1 H1 R1 S1 rfl
  | false => exact outT_trans R1 S1 h1
theorem QW.t (h : QW X W a t1) : QT X W a t1 := h.pt
/-! ### and, or, not, if as values -/
theorem outE_trans {K : PySem.W.Frag} {m : SemE} {e e1 : En} {σ : Sg} {F H F1 H1 : Hp} {Q : VK} (R : Rel K e1 σ F1 H1) (S : Step e e1 σ F H F1 H1) (h : OutX K W (OdR K σ) (m e1) e σ F H Q) : tE K W m σ H1 Q := by
  refine ⟨e1, F1, R, ?_⟩
  cases q : m e1 with
  | bad => rw [q] at h; exact h
  | exc c t e' => rw [q] at h; exact fun F' H' cls d R' S' => h F' H' cls d R' (S.trans S')
  | ok r e' => rw [q] at h; exact fun x F' H' R' S' O => h x F' H' R' (S.trans S') (od_back O S)
def eAnd (ma mb : SemE) : SemE := fun e => (tb ma e).bind fun k e1 => if k then mb e1 else .ok (.r (.bool false)) e1
def eOr (ma mb : SemE) : SemE := fun e => (tb ma e).bind fun k e1 => if k then .ok (.r (.bool true)) e1 else mb e1
theorem qone_ {op : BoolOp} (h : QE X W a ma) : QE X W (.BoolOp op [a] pos) ma := pe_one h
theorem qand {rest : List Expr} (ha : QE X W a ma) (hb : QE X W (.BoolOp .And (b :: rest) pos) mb) : QE X W (.BoolOp .And (a :: b :: rest) pos) (eAnd ma mb) := by
  refine pe_mono (pe_and ha hb) fun σ H Q h => ?_
  obtain ⟨e, F, R, h⟩ := h
  have z := tX_bind (m := tb ma) (rel := fun _ _ _ _ (x : Bool) r => x = r) R .refl h
  refine tX_imp (tb_read z) fun x H1 ⟨k, ex, r, e1, F1, R1, S1, O1, h1⟩ => ⟨k, ex, ?_⟩
  subst O1
  cases k with
  | true => exact outE_trans R1 S1 h1
  | false => exact h1 _ F1 H1 R1 S1 (.bl false)
def eNot (ma : SemE) : SemE := fun e => (tb ma e).bind fun k e1 => .ok (.r (.bool !k)) e1
theorem qnot (ha : QE X W a ma) : QE X W (.UnaryOp .Not a pos) (eNot ma) := by
  refine pe_mono (pe_not ha) fun σ H Q h => ?_
  obtain ⟨e, F, R, h⟩ := h
  have z := tX_bind (m := tb ma) (rel := fun _ _ _ _ (x : Bool) r => x = r) R .refl h
  refine tX_imp (tb_read z) fun x H1 ⟨k, ex, r, e1, F1, R1, S1, O1, h1⟩ => ⟨k, ex, ?_⟩
  subst O1
  exact h1 _ F1 H1 R1 S1 (.bl _)
def eIf (t : SemT) (ma mb : SemE) : SemE := fun e => (t e).bind fun k e1 => if k then ma e1 else mb e1
theorem qifx (hc : QT X W c t1) (ha : QE X W a ma) (hb : QE X W b mb) : QE X W (.IfExp c a b pos) (eIf t1 ma mb) := by
  refine pe_mono (pe_ifExp hc ha hb) fun σ H Q h => ?_
  obtain ⟨e, F, R, h⟩ := h
  refine tX_imp (tX_bind (rel := fun _ _ _ _ (x : Bool) r => x = r) R .refl h) fun x H1 ⟨r, e1, F1, R1, S1, O1, h1⟩ => ?_
  subst O1
  cases x with
  | true => exact outE_trans R1 S1 h1
  | false => exact outE_trans R1 S1 h1
end
end Ev

set_option Elab.async false
set_option linter.all false
set_option maxRecDepth 100000
namespace Ev
open PySem PySem.Spec PyProof.Rows L2
section
variable {X : Cx}
theorem opr_or {f : Value → Value → Sem Value} {r r' : R2} (h : OpR X f r) (h' : OpR X f r') : OpR X f (fun x y H Q => r x y H Q ∨ r' x y H Q) := by
  intro pins s σ H x y v u Q I rx ry q
  rcases q with q | q
  · exact h pins s σ H x y v u Q I rx ry q
  · exact h' pins s σ H x y v u Q I rx ry q
def rCatS (K : PySem.W.Frag) : R2 := fun x y H Q => ∃ l b xs zs, x = .ref l ∧ y = .ref b ∧ SqL K H l xs ∧ SqL K H b zs ∧ xs.length + zs.length ≤ sizeLine ∧ ∀ p, H p = none → Q (.ref p) (upd H p (.lst (xs ++ zs)))
theorem op_catS : OpR X (binaryOp .Add) (rCatS X.K) := by
  intro pins s σ H x y v u Q I rx ry h
  obtain ⟨l, b, xs, zs, rfl, rfl, hH, hB, hz, q⟩ := h
  cases rx
  cases ry
  obtain ⟨its, r, ⟨⟨cls, dd, data, sl⟩, n, ho, hc, hd0, hd⟩, _⟩ := I.list hH
  obtain ⟨its2, r2, ⟨⟨cls2, dd2, data2, sl2⟩, n2, ho2, hc2, hd02, hd2⟩, _⟩ := I.list hB
  simp only at hc hd hc2 hd2 hd0 hd02
  subst hc hd hc2 hd2 hd0 hd02
  have hl := r.length
  have hl2 := r2.length
  refine concat_meets ⟨_, ho, rfl⟩ ⟨_, ho2, rfl⟩ noFill_list_add seq_list_add PySem.F.slot_list_add PySem.F.entry_list_add (PySem.F.args_list_add_2 _ _) (list_addW l b its.toArray its2.toArray n n2 none none sl sl2 (by simp; omega)) ⟨ho, ho2, ?_⟩
  have ea : its.toArray ++ its2.toArray = (its ++ its2).toArray := by simp
  rw [ea]
  exact ⟨.ref _, _, I.lnew (t' := s.toks) (r.append r2) (by rw [List.length_append]; omega), rfl, q _ I.fresh⟩
end
/-! ### what operations hand back -/
def gAdd : T → T → Option Od
  | .int i, .int j => some (.r (.int (i + j)))
  | .str i, .str j => if i.length + j.length ≤ sizeLine then some (.r (.str (i ++ j))) else none
  | .list xs, .list ys => if xs.length + ys.length ≤ sizeLine then some (.b (.l (xs ++ ys))) else none
  | .tuple xs, .tuple ys => if xs.length + ys.length ≤ sizeLine then some (.r (.tuple (xs ++ ys))) else none
  | _, _ => none
def rAdd4 (K : PySem.W.Frag) : R2 := fun x y H Q => (((∃ i j, x = .int i ∧ y = .int j ∧ Q (.int (i + j)) H) ∨ ∃ i j, x = .str i ∧ y = .str j ∧ i.length + j.length ≤ sizeLine ∧ Q (.str (i ++ j)) H) ∨ rCatS K x y H Q) ∨ rCatA K x y H Q
theorem op_add4 {X : Cx} : OpR X (binaryOp .Add) (rAdd4 X.K) := opr_or (opr_or (opr_or op_add op_add_str) op_catS) op_catA
theorem does_add {K : PySem.W.Frag} : Does2 K (rAdd4 K) gAdd := by
  intro x y t u w F H Q ff dx dy hg
  cases t with
  | int i =>
    cases u with
    | int j => cases hg; cases dx; cases dy; exact ⟨trivial, fun q => .inl (.inl (.inl ⟨i, j, rfl, rfl, q.1 _ (.int _)⟩))⟩
    | _ => cases hg
  | str i =>
    cases u with
    | str j =>
      simp only [gAdd] at hg
      split at hg
      · cases hg; cases dx; cases dy; rename_i hl; exact ⟨trivial, fun q => .inl (.inl (.inr ⟨i, j, rfl, rfl, hl, q.1 _ (.str _)⟩))⟩
      · cases hg
    | _ => cases hg
  | list xs =>
    cases u with
    | list ys =>
      simp only [gAdd] at hg
      split at hg
      · cases hg
        rename_i hl
        obtain ⟨p, vs, rfl, h1, d1⟩ := dx
        obtain ⟨p2, vs2, rfl, h2, d2⟩ := dy
        refine ⟨trivial, fun q => .inl (.inr ⟨p, p2, vs, vs2, rfl, rfl, h1, h2, by rw [dpAll_len d1, dpAll_len d2]; exact hl, fun p hp => q p _ hp (dpAll_app d1 d2)⟩)⟩
      · cases hg
    | _ => cases hg
  | tuple xs =>
    cases u with
    | tuple ys =>
      simp only [gAdd] at hg
      split at hg
      · cases hg
        rename_i hl
        have dx0 : Dp K F x (.tuple xs) := dx
        have dy0 : Dp K F y (.tuple ys) := dy
        cases dx with
        | tup h1 d1 =>
          cases dy with
          | tup h2 d2 =>
            refine ⟨trivial, fun q => .inr ⟨_, _, _, _, rfl, rfl, tupS ff h1, tupS ff h2, by rw [dpAll_len d1, dpAll_len d2]; exact hl, fun e => ?_, fun _ e => ?_, fun _ _ p hp => q.2 _ p _ rfl hp (dpAll_app d1 d2)⟩⟩
            · subst e; cases d1; exact q.1 _ dy0
            · subst e; cases d2; rw [List.append_nil] at q; exact q.1 _ dx0
      · cases hg
    | _ => cases hg
  | _ => cases hg
/-- ints -/
def gII (c : Int → Int → Bool) (g : Int → Int → T) : T → T → Option Od
  | .int i, .int j => if c i j then some (.r (g i j)) else none
  | _, _ => none
theorem does_ii {K : PySem.W.Frag} {C : Int → Int → Prop} {c : Int → Int → Bool} {g : Int → Int → V} {g' : Int → Int → T} (hc : ∀ i j, c i j = true → C i j) (hg : ∀ i j F, Dp K F (g i j) (g' i j)) : Does2 K (rI C g) (gII c g') := by
  intro x y t u w F H Q ff dx dy h
  cases t with
  | int i =>
    cases u with
    | int j =>
      simp only [gII] at h
      split at h
      · rename_i hl; cases h; cases dx; cases dy; exact ⟨trivial, fun q => ⟨i, j, rfl, rfl, hc i j hl, q.1 _ (hg i j F)⟩⟩
      · cases h
    | _ => cases h
  | _ => cases h
theorem does_ii0 {K : PySem.W.Frag} {g : Int → Int → V} {g' : Int → Int → T} (hg : ∀ i j F, Dp K F (g i j) (g' i j)) : Does2 K (rI0 g) (gII (fun _ _ => true) g') := by
  intro x y t u w F H Q ff dx dy h
  obtain ⟨a, b⟩ := does_ii (C := fun _ _ => True) (c := fun _ _ => true) (fun _ _ _ => trivial) hg x y t u w F H Q ff dx dy h
  refine ⟨a, fun q => ?_⟩
  obtain ⟨i, j, h1, h2, _, h3⟩ := b q
  exact ⟨i, j, h1, h2, h3⟩
abbrev gSub : T → T → Option Od := gII (fun _ _ => true) fun i j => .int (i - j)
theorem does_sub {K : PySem.W.Frag} : Does2 K (rI0 fun i j => .int (i - j)) gSub := does_ii0 fun _ _ _ => .int _
abbrev gMod : T → T → Option Od := gII (fun _ j => decide (0 < j)) fun i j => .int (i % j)
theorem does_mod {K : PySem.W.Frag} : Does2 K (rI (fun _ j => 0 < j) fun i j => .int (i % j)) gMod := does_ii (fun _ _ h => of_decide_eq_true h) fun _ _ _ => .int _
abbrev gDiv : T → T → Option Od := gII (fun _ j => decide (0 < j ∧ j.natAbs.log2 < 9000)) fun i j => .int (i / j)
theorem does_div {K : PySem.W.Frag} : Does2 K (rI CDivW fun i j => .int (i / j)) gDiv := does_ii (fun i j h => of_decide_eq_true (p := 0 < j ∧ j.natAbs.log2 < 9000) h) fun _ _ _ => .int _
abbrev gPow : T → T → Option Od := gII (fun i j => decide (0 ≤ j ∧ j ≤ 1000000 ∧ i.natAbs < 2 ^ 64)) fun i j => .int (i ^ j.toNat)
theorem does_pow {K : PySem.W.Frag} : Does2 K (rI CPow fun i j => .int (i ^ j.toNat)) gPow := does_ii (fun i j h => of_decide_eq_true (p := 0 ≤ j ∧ j ≤ 1000000 ∧ i.natAbs < 2 ^ 64) h) fun _ _ _ => .int _
def mulOk (i j : Int) : Bool := decide (i.natAbs.log2 + j.natAbs.log2 < 1000000)
def gMul : T → T → Option Od
  | .int i, .int j => if mulOk i j then some (.r (.int (i * j))) else none
  | _, _ => none
theorem does_mul {K : PySem.W.Frag} : Does2 K (rI CMulW fun i j => .int (i * j)) gMul := by
  intro x y t u w F H Q ff dx dy h
  refine does_ii (K := K) (C := CMulW) (c := mulOk) (g' := fun i j => .int (i * j)) (fun i j h => of_decide_eq_true (p := i.natAbs.log2 + j.natAbs.log2 < 1000000) h) (fun _ _ _ => .int _) x y t u w F H Q ff dx dy ?_
  cases t <;> cases u <;> first | exact h | cases h
abbrev gLt : T → T → Option Od := gII (fun _ _ => true) fun i j => .bool (decide (i < j))
abbrev gLe : T → T → Option Od := gII (fun _ _ => true) fun i j => .bool (decide (i ≤ j))
abbrev gGt : T → T → Option Od := gII (fun _ _ => true) fun i j => .bool (decide (j < i))
abbrev gGe : T → T → Option Od := gII (fun _ _ => true) fun i j => .bool (decide (j ≤ i))
theorem does_lt {K : PySem.W.Frag} : Does2 K (rI0 fun i j => .bl (decide (i < j))) gLt := does_ii0 fun _ _ _ => .bl _
theorem does_le {K : PySem.W.Frag} : Does2 K (rI0 fun i j => .bl (decide (i ≤ j))) gLe := does_ii0 fun _ _ _ => .bl _
theorem does_gt {K : PySem.W.Frag} : Does2 K (rI0 fun i j => .bl (decide (j < i))) gGt := does_ii0 fun _ _ _ => .bl _
theorem does_ge {K : PySem.W.Frag} : Does2 K (rI0 fun i j => .bl (decide (j ≤ i))) gGe := does_ii0 fun _ _ _ => .bl _
/-- == on data -/
def gEq (k : Bool → Bool) : T → T → Option Od := fun t u => if SeqAt.shaped t && SeqAt.shaped u then some (.r (.bool (k (PyData.eqv t u)))) else none
theorem does_eq {K : PySem.W.Frag} : Does2 K (rEqD K) (gEq id) := by
  intro x y t u w F H Q ff dx dy h
  simp only [gEq] at h
  split at h
  · rename_i hs
    rw [Bool.and_eq_true] at hs
    cases h
    exact ⟨trivial, fun q => ⟨t, u, dp_hand _ (noD_sh hs.1) (dx.dp ff), dp_hand _ (noD_sh hs.2) (dy.dp ff), hs.1, hs.2, q.1 _ (.bl _)⟩⟩
  · cases h
theorem does_ne {K : PySem.W.Frag} : Does2 K (rNeD K) (gEq not) := by
  intro x y t u w F H Q ff dx dy h
  simp only [gEq] at h
  split at h
  · rename_i hs
    rw [Bool.and_eq_true] at hs
    cases h
    exact ⟨trivial, fun q => ⟨t, u, dp_hand _ (noD_sh hs.1) (dx.dp ff), dp_hand _ (noD_sh hs.2) (dy.dp ff), hs.1, hs.2, q.1 _ (.bl _)⟩⟩
  · cases h
def isN : T → Bool
  | .none => true
  | _ => false
/-- is None -/
def gIsN (k : Bool → Bool) : T → T → Option Od := fun t u => match u with
  | .none => some (.r (.bool (k (isN t))))
  | _ => none
theorem dpo_non {K : PySem.W.Frag} {F H : Hp} {x : V} {t : T} (d : DpO K F H x t) : decide (x = .non) = isN t := by
  cases t with
  | list ts => obtain ⟨p, xs, rfl, _⟩ := d; rfl
  | none => cases d; rfl
  | bool _ => cases d; rfl
  | int _ => cases d; rfl
  | str _ => cases d; rfl
  | tuple _ => cases d; rfl
  | dict _ => cases d; rfl
theorem does_isN {K : PySem.W.Frag} : Does2 K (fun x y H Q => y = .non ∧ Q (.bl (decide (x = .non))) H) (gIsN id) := by
  intro x y t u w F H Q ff dx dy h
  cases u with
  | none => cases h; cases dy; exact ⟨trivial, fun q => ⟨rfl, by rw [dpo_non dx]; exact q.1 _ (.bl _)⟩⟩
  | _ => cases h
/-! ### in -/
def flatT : T → Bool
  | .none => true
  | .bool _ => true
  | .int _ => true
  | .str _ => true
  | _ => false
def gIn (k : Bool → Bool) : T → T → Option Od := fun t u => match u with
  | .list ds => if SeqAt.shaped t && SeqAt.shaped (.list ds) then some (.r (.bool (k (ds.any fun z => PyData.eqv z t)))) else none
  | .tuple ds => if flatT t && ds.all flatT then some (.r (.bool (k (ds.any fun z => PyData.eqv z t)))) else none
  | _ => none
theorem dp_flat {K : PySem.W.Frag} {F : Hp} {x : V} {t : T} (d : Dp K F x t) (h : flatT t = true) : flatV x = true := by
  cases d <;> first | rfl | cases h
theorem dp_flats {K : PySem.W.Frag} {F : Hp} : ∀ {ts : List T} {xs : List V}, DpAll K F xs ts → ts.all flatT = true → xs.all flatV = true
  | [], _, h, _ => by cases h; rfl
  | t :: ts, _, .cons a b, h => by
    rw [List.all_cons, Bool.and_eq_true] at h
    rw [List.all_cons, dp_flat a h.1, dp_flats b h.2]
    rfl
theorem flat_eqv {K : PySem.W.Frag} {F : Hp} {x y : V} {t u : T} (d : Dp K F x t) (d' : Dp K F y u) (h : flatT t = true) (h' : flatT u = true) : eqV x y = PyData.eqv t u := by
  cases d <;> cases d' <;> first | (simp only [eqV, PyData.eqv]; done) | cases h | cases h' | (simp [eqV, PyData.eqv]; done) | (unfold eqV PyData.eqv; rfl)
theorem flat_any {K : PySem.W.Frag} {F : Hp} {x : V} {t : T} (d : Dp K F x t) (h : flatT t = true) : ∀ {ts : List T} {xs : List V}, DpAll K F xs ts → ts.all flatT = true → inV x xs = ts.any fun z => PyData.eqv z t
  | [], _, h1, _ => by cases h1; rfl
  | u :: ts, _, .cons a b, h1 => by
    rw [List.all_cons, Bool.and_eq_true] at h1
    have e := flat_any d h b h1.2
    unfold inV at e ⊢
    rw [List.any_cons, List.any_cons, e, flat_eqv a d h1.1 h]
def rNotIn2 (K : PySem.W.Frag) : R2 := fun x y H Q => rNotInD K x y H Q ∨ rIn K true x y H Q
theorem op_notIn2 {X : Cx} (hu : X.A.units + 65 < cLine) : OpR X (compareOp .NotIn) (rNotIn2 X.K) := opr_or (op_notInD hu) op_notIn_seq
theorem does_notIn {K : PySem.W.Frag} : Does2 K (rNotIn2 K) (gIn not) := by
  intro x y t u w F H Q ff dx dy h
  cases u with
  | list ds =>
    simp only [gIn] at h
    split at h
    · rename_i hs
      rw [Bool.and_eq_true] at hs
      cases h
      exact ⟨trivial, fun q => .inl ⟨t, ds, dp_hand _ (noD_sh hs.1) (dx.dp ff), dp_hand _ (noD_sh hs.2) (dy.dp ff), hs.1, hs.2, q.1 _ (.bl _)⟩⟩
    · cases h
  | tuple ds =>
    simp only [gIn] at h
    split at h
    · rename_i hs
      rw [Bool.and_eq_true] at hs
      cases h
      cases dy with
      | tup h1 d1 =>
        have dx' : Dp K F x t := by cases t <;> first | exact dx | (cases hs.1)
        exact ⟨trivial, fun q => .inr ⟨_, _, rfl, .inr (tupS ff h1), dp_flat dx' hs.1, dp_flats d1 hs.2, by rw [flat_any dx' hs.1 d1 hs.2]; exact q.1 _ (.bl _)⟩⟩
    · cases h
  | _ => cases h
/-! ### an item -/
def gIx : T → T → Option Od
  | .list ts, .int i => (atI ts i).map .r
  | .tuple ts, .int i => (atI ts i).map .r
  | _, _ => none
theorem atI_dp {K : PySem.W.Frag} {F : Hp} {ts : List T} {xs : List V} {i : Int} {t : T} (d : DpAll K F xs ts) (h : atI ts i = some t) : ∃ v, atI xs i = some v ∧ Dp K F v t := by
  unfold atI at h ⊢
  rw [dpAll_len d]
  cases q : ixN ts.length i with
  | none => rw [q] at h; cases h
  | some j => rw [q] at h; exact dpAll_get d h
def rIx2 (K : PySem.W.Frag) : R2 := fun x y H Q => rIxL K x y H Q ∨ rIxT K x y H Q
theorem ix2 {X : Cx} : IxR X (rIx2 X.K) := by
  intro value slice pins s σ H x y v u Q I rx ry h hs
  rcases h with h | h
  · exact ix_list value slice pins s σ H x y v u Q I rx ry h hs
  · exact ix_tup value slice pins s σ H x y v u Q I rx ry h hs
theorem does_ix {K : PySem.W.Frag} : Does2 K (rIx2 K) gIx := by
  intro x y t u w F H Q ff dx dy h
  cases t with
  | list ts =>
    cases u with
    | int i =>
      simp only [gIx] at h
      cases q : atI ts i with
      | none => rw [q] at h; cases h
      | some t' =>
        rw [q] at h; cases h
        obtain ⟨p, xs, rfl, h1, d1⟩ := dx
        cases dy
        obtain ⟨v, hv, dv⟩ := atI_dp d1 q
        exact ⟨trivial, fun k => .inl ⟨p, xs, i, v, rfl, rfl, h1, hv, k.1 _ dv⟩⟩
    | _ => cases h
  | tuple ts =>
    cases u with
    | int i =>
      simp only [gIx] at h
      cases q : atI ts i with
      | none => rw [q] at h; cases h
      | some t' =>
        rw [q] at h; cases h
        cases dy
        cases dx with
        | tup h1 d1 =>
          obtain ⟨v, hv, dv⟩ := atI_dp d1 q
          exact ⟨trivial, fun k => .inr ⟨_, _, i, v, rfl, rfl, tupS ff h1, hv, k.1 _ dv⟩⟩
    | _ => cases h
  | _ => cases h
section
variable {X : Cx} {W : WX} {a b c : Expr} {ma mb mc : SemE} {pos : Pos}
theorem qix (ha : QE X W a ma) (hb : QE X W b mb) (hs : ∀ o i, subscripted b false o i = operate [o, i] (getItem o i) := by intros; rfl) : QE X W (.Subscript a b pos) (eOp2 gIx ma mb) :=
  pe_mono (pe_ix ix2 ha hb hs) fun σ H Q h => tX_imp (two h) fun x H1 h1 => tX_imp h1 fun y H2 h2 => does2 does_ix h2
def eNeg (m : SemE) : SemE := fun e => (m e).bind fun r e1 => match r.val e1 with
  | some (.int i) => .ok (.r (.int (-i))) e1
  | _ => .bad
theorem qneg (ha : QE X W a ma) : QE X W (.UnaryOp .USub a pos) (eNeg ma) := by
  refine pe_mono (pe_un un_neg ha) fun σ H Q h => ?_
  obtain ⟨e, F, R, h⟩ := h
  refine tX_imp (tX_bind (rel := fun σ => OdR X.K σ) R .refl h) fun x H1 ⟨r, e1, F1, R1, S1, O1, h1⟩ => ?_
  cases q : r.val e1 with
  | none => simp only [q] at h1; exact h1.elim
  | some t =>
    have d := val_ok R1 O1 q
    cases t with
    | int i => simp only [q] at h1; cases d; exact ⟨i, rfl, h1 _ F1 H1 R1 S1 (.int _)⟩
    | none => simp only [q] at h1; exact h1.elim
    | bool _ => simp only [q] at h1; exact h1.elim
    | str _ => simp only [q] at h1; exact h1.elim
    | list _ => simp only [q] at h1; exact h1.elim
    | tuple _ => simp only [q] at h1; exact h1.elim
    | dict _ => simp only [q] at h1; exact h1.elim
end
end Ev

set_option Elab.async false
set_option linter.all false
set_option maxRecDepth 100000
namespace Ev
open PySem PySem.Spec PyProof.Rows L2
/-! ### isinstance -/
def kindT : T → String
  | .none => "NoneType"
  | .bool _ => "bool"
  | .int _ => "int"
  | .str _ => "str"
  | .list _ => "list"
  | .tuple _ => "tuple"
  | .dict _ => "dict"
def isInt : T → Bool
  | .bool _ => true
  | .int _ => true
  | _ => false
def isBool : T → Bool
  | .bool _ => true
  | _ => false
def isStr : T → Bool
  | .str _ => true
  | _ => false
def isList : T → Bool
  | .list _ => true
  | _ => false
def isTuple : T → Bool
  | .tuple _ => true
  | _ => false
def isDict : T → Bool
  | .dict _ => true
  | _ => false
def isTL : T → Bool
  | .tuple _ => true
  | .list _ => true
  | _ => false
theorem k_int (t : T) : kitB (kindT t) "int" = some (isInt t) := by cases t <;> (simp only [kindT, isInt]; decide +kernel)
theorem k_bool (t : T) : kitB (kindT t) "bool" = some (isBool t) := by cases t <;> (simp only [kindT, isBool]; decide +kernel)
theorem k_str (t : T) : kitB (kindT t) "str" = some (isStr t) := by cases t <;> (simp only [kindT, isStr]; decide +kernel)
theorem k_list (t : T) : kitB (kindT t) "list" = some (isList t) := by cases t <;> (simp only [kindT, isList]; decide +kernel)
theorem k_tuple (t : T) : kitB (kindT t) "tuple" = some (isTuple t) := by cases t <;> (simp only [kindT, isTuple]; decide +kernel)
theorem sqL_ty {K : PySem.W.Frag} {H : Hp} {p : Addr} {xs : List V} (h : SqL K H p xs) : TyX K H (.ref p) (.type "list") := by
  rcases h with h | ⟨o, its, n, hk, hc, _⟩
  · rcases h with h | ⟨o, h⟩
    · exact .base (.lst h)
    · exact .base (.frz h)
  · exact .kList hk hc
theorem sqT_ty {K : PySem.W.Frag} {H : Hp} {p : Addr} {xs : List V} (h : SqT K H p xs) : TyX K H (.ref p) (.type "tuple") := by
  rcases h with h | ⟨o, its, n, hk, hc, _⟩
  · rcases h with h | ⟨o, h⟩
    · exact .base (.tup h)
    · exact .fTuple h
  · exact .kTuple hk hc
theorem dpo_ty {K : PySem.W.Frag} {F H : Hp} {x : V} {t : T} (ff : ∀ a o, F a = some o → H a = some o) (d : DpO K F H x t) : TyX K H x (.type (kindT t)) := by
  cases t with
  | list ts => obtain ⟨p, xs, rfl, h, _⟩ := d; exact sqL_ty h
  | none => cases d; exact .base .non
  | bool _ => cases d; exact .base (.bl _)
  | int _ => cases d; exact .base (.int _)
  | str _ => cases d; exact .base (.str _)
  | tuple _ => cases d with | tup h _ => exact sqT_ty (tupS ff h)
  | dict _ => cases d with | dct h _ => exact .base (.dT (ff _ _ h))
section
variable {X : Cx} {W : WX} {a b c : Expr} {ma mb mc : SemE} {pos : Pos}
def eIsi (f : T → Bool) (m : SemE) : SemE := fun e => (m e).bind fun r e1 => match r.val e1 with
  | some t => .ok (.r (.bool (f t))) e1
  | none => .bad
theorem isi_read {K : PySem.W.Frag} {f : T → Bool} {m : SemE} {σ : Sg} {H : Hp} {Q : VK} (h : tE K W (eIsi f m) σ H Q) :
    tE K W m σ H fun x H1 => ∃ t, TyX K H1 x (.type (kindT t)) ∧ Q (.bl (f t)) H1 ∧ ∀ y p, H1 p = none → TyX K (upd H1 p (.tup y)) x (.type (kindT t)) ∧ Q (.bl (f t)) (upd H1 p (.tup y)) := by
  obtain ⟨e, F, R, h⟩ := h
  refine tX_imp (tX_bind (rel := fun σ => OdR K σ) R .refl h) fun x H1 ⟨r, e1, F1, R1, S1, O1, h1⟩ => ?_
  cases q : r.val e1 with
  | none => simp only [q] at h1; exact h1.elim
  | some t =>
    simp only [q] at h1
    have d := val_ok R1 O1 q
    refine ⟨t, dpo_ty R1.sub d, h1 _ F1 H1 R1 S1 (.bl _), fun y p hp => ?_⟩
    have R2 := laid_own (o := .tup y) R1 hp
    have S2 := laid_own_step (e := e1) (σ := σ) (F := F1) (o := .tup y) hp
    have d2 : DpO K F1 (upd H1 p (.tup y)) x t := by
      cases t with
      | list ts => obtain ⟨q, xs, rfl, h, z⟩ := d; exact ⟨q, xs, rfl, sqL_mono (fun a o w => by rw [upd_ne (ne_of_none w hp)]; exact w) h, z⟩
      | _ => exact d
    exact ⟨dpo_ty R2.sub d2, h1 _ F1 _ R2 (S1.trans S2) (.bl _)⟩
theorem qisi {n : Str} {T' : String} {f : T → Bool} {p p2 : Pos} (hk : ∀ t, kitB (kindT t) T' = some (f t)) (hg : Gl X "isinstance") (hm : X.mg "isinstance" = none) (hgn : Gl X n) (hmn : X.mg n = none) (hv : bootBuiltins n = some (.type T')) (ha : QE X W a ma)
    (hn : n ≠ "__name__" := by decide) (hd : (n == ("__debug__" : Str)) = false := by decide)
    (he : starEach [a, .Name n p2] X.env = (false, eval a X.env) :: starEach [.Name n p2] X.env := by rfl) (he2 : starEach [.Name n p2] X.env = [(false, eval (.Name n p2) X.env)] := by rfl) (hpl : (backTo pos (starEach [.Name n p2] X.env)).any (·.1) = false := by rfl) :
    QE X W (.Call (.Name "isinstance" p) [a, .Name n p2] [] pos) (eIsi f ma) := by
  refine pe_mono (pe_callB call_isi hg hm (by decide +kernel) (pa_cons ha (pa_cons (pe_bltn hgn hmn hv (v := .ty T') rfl hn hd) pa_nil he2) he) (by decide) (by decide) he hpl) fun σ H Q h => ?_
  refine tX_imp (isi_read h) fun x H1 ⟨t, ty, q, _⟩ => ?_
  exact ⟨x, .ty T', _, .type T', f t, rfl, .ty T', ty, kit_ty (hk t), q⟩
/-! ### slices -/
abbrev SemP := En → Out (Option Int)
abbrev QP (X : Cx) (W : WX) (ex : Option Expr) (m : SemP) : Prop := PO X ex (tX X.K W (fun _ _ _ _ (x : Option Int) r => x = r) m)
theorem po_mono {ex : Option Expr} {t t' : TO} (h : PO X ex t) (m : ∀ σ H Q, t' σ H Q → t σ H Q) : PO X ex t' := ⟨fun pins s σ H Q I q => h.run pins s σ H Q I (m σ H Q q)⟩
def pNo : SemP := fun e => .ok none e
def pSo (m : SemE) : SemP := fun e => (m e).bind fun r e1 => match r.val e1 with
  | some (.int i) => .ok (some i) e1
  | _ => .bad
theorem qpn : QP X W none pNo := po_mono po_none fun σ H Q ⟨e, F, R, h⟩ => h _ F H R .refl rfl
theorem qps (ha : QE X W a ma) : QP X W (some a) (pSo ma) := by
  refine po_mono (po_some ha) fun σ H Q h => ?_
  obtain ⟨e, F, R, h⟩ := h
  refine tX_imp (tX_bind (rel := fun σ => OdR X.K σ) R .refl h) fun x H1 ⟨r, e1, F1, R1, S1, O1, h1⟩ => ?_
  cases q : r.val e1 with
  | none => simp only [q] at h1; exact h1.elim
  | some t =>
    have d := val_ok R1 O1 q
    cases t with
    | int i => simp only [q] at h1; cases d; exact ⟨i, rfl, h1 _ F1 H1 R1 S1 rfl⟩
    | none => simp only [q] at h1; exact h1.elim
    | bool _ => simp only [q] at h1; exact h1.elim
    | str _ => simp only [q] at h1; exact h1.elim
    | list _ => simp only [q] at h1; exact h1.elim
    | tuple _ => simp only [q] at h1; exact h1.elim
    | dict _ => simp only [q] at h1; exact h1.elim
def cutT {α : Type} (xs : List α) (lo hi : Option Int) : List α := (xs.drop (HT.sIx xs.length 0 lo)).take (HT.sIx xs.length xs.length hi - HT.sIx xs.length 0 lo)
def eSl (m : SemE) (lo hi : SemP) : SemE := fun e => (m e).bind fun r e1 => (lo e1).bind fun l e2 => (hi e2).bind fun h e3 => match r.val e3 with
  | some (.list ts) => .ok (.b (.l (cutT ts l h))) e3
  | some (.tuple ts) => .ok (.r (.tuple (cutT ts l h))) e3
  | _ => .bad
theorem cut_dp {K : PySem.W.Frag} {F : Hp} {ts : List T} {xs : List V} {l h : Option Int} (d : DpAll K F xs ts) : DpAll K F (cutV xs l h) (cutT ts l h) := by
  unfold cutV cutT
  rw [dpAll_len d]
  exact dpAll_take _ (dpAll_drop _ d)
theorem qsl {lo hi : Option Expr} {ml mh : SemP} {p2 : Pos} (ha : QE X W a ma) (hl : QP X W lo ml) (hu : QP X W hi mh) : QE X W (.Subscript a (.Slice lo hi none p2) pos) (eSl ma ml mh) := by
  refine pe_mono (pe_slice (SlR.or sl_list sl_tupA) ha hl hu) fun σ H Q h => ?_
  obtain ⟨e, F, R, h⟩ := h
  refine tX_imp (tX_bind (rel := fun σ => OdR X.K σ) R .refl h) fun x H1 ⟨r, e1, F1, R1, S1, O1, h1⟩ => ?_
  refine tX_imp (tX_bind (rel := fun _ _ _ _ (x : Option Int) r => x = r) R1 S1 h1) fun l H2 ⟨l', e2, F2, R2, S2, El, h2⟩ => ?_
  refine tX_imp (tX_bind (rel := fun _ _ _ _ (x : Option Int) r => x = r) R2 (S1.trans S2) h2) fun u H3 ⟨u', e3, F3, R3, S3, Eu, h3⟩ => ?_
  subst El Eu
  have S' := (S1.trans S2).trans S3
  have O3 := od_stay O1 (fun p hp => fresh_not_own R S1 hp) (S2.trans S3)
  cases q : r.val e3 with
  | none => simp only [q] at h3; exact h3.elim
  | some t =>
    have d := val_ok R3 O3 q
    cases t with
    | list ts =>
      simp only [q] at h3
      obtain ⟨p, xs, rfl, hs, dd⟩ := d
      exact .inl ⟨p, xs, rfl, hs, fun p hp => (fin_of R3 S' h3 True.intro : Fin X.K F3 H3 Q (.b (.l _))) p _ hp (cut_dp dd)⟩
    | tuple ts =>
      simp only [q] at h3
      have fin := (fin_of R3 S' h3 True.intro : Fin X.K F3 H3 Q (.r (.tuple _)))
      have d0 : Dp X.K F3 x (.tuple ts) := d
      cases d with
      | tup hs dd =>
        refine .inr ⟨_, _, rfl, tupS R3.sub hs, fun w => ?_, fun _ p hp => fin.2 _ p _ rfl hp (cut_dp dd)⟩
        refine fin.1 _ ?_
        have e : cutT ts l u = ts := by
          unfold cutT
          rw [← dpAll_len dd, w.1, w.2, dpAll_len dd]
          simp
        rw [e]; exact d0
    | none => simp only [q] at h3; exact h3.elim
    | bool _ => simp only [q] at h3; exact h3.elim
    | str _ => simp only [q] at h3; exact h3.elim
    | int _ => simp only [q] at h3; exact h3.elim
    | dict _ => simp only [q] at h3; exact h3.elim
end
/-! ### xs[::-1] of a list and of a tuple -/
section
variable {prog : Program} {w : World} {A : Around} {E : Value → Shared → Prop} {s : Shared}
theorem dpAll_rev {K : PySem.W.Frag} {F : Hp} : ∀ {ts : List T} {xs : List V}, DpAll K F xs ts → DpAll K F xs.reverse ts.reverse
  | [], _, h => by cases h; exact .nil
  | _ :: _, _, h => by cases h with | cons a b => rw [List.reverse_cons, List.reverse_cons]; exact dpAll_app (dpAll_rev b) (.cons a .nil)
end
end Ev
namespace Ev
open PySem PySem.Spec PyProof.Rows L2 HT
section
variable {prog : Program} {w : World} {A : Around} {E : Value → Shared → Prop} {s : Shared}
theorem adjust_rev (n : Nat) : Builtin.Slice.sliceAdjust none none (-1) (n : Int) = ((n : Int) - 1, -1) := by
  unfold Builtin.Slice.sliceAdjust
  have h1 : ((-1 : Int) < 0) := by omega
  simp only [h1, if_true]
theorem places_rev (n : Nat) : Builtin.Slice.slicePlaces ((n : Int) - 1) (-1) (-1) = n := by
  unfold Builtin.Slice.slicePlaces
  have h1 : ¬ ((-1 : Int) > 0) := by omega
  have h2 : (- -1 : Int) = 1 := by decide
  simp only [h1, if_false, h2, Int.ediv_one]
  split <;> omega
theorem applied_rev {sl : Addr} {vl vu vs : Value} {n : Nat} {Q : Int × Int × Nat → Shared → Prop} (hs : s.heap.IsSliceOf sl vl vu vs) (pl : IsPart vl none) (pu : IsPart vu none) (ps : IsPart vs (some (-1)))
    (h : Q ((n : Int) - 1, -1, n) s) : wpAny (model prog w) A (Builtin.Slice.sliceApplied (.ref sl) (pure (n : Int))) Q E s := by
  obtain ⟨os, hos, hcs, hds⟩ := id hs
  unfold Builtin.Slice.sliceApplied Builtin.Slice.sliceFields
  refine wpAny_bind (wpAny_bind (wpAny_field hos hds (x := vl) rfl (wpAny_bind (wpAny_field hos hds (x := vu) rfl (wpAny_bind (wpAny_field hos hds (x := vs) rfl (wpAny_pure ?_)))))))
  refine wpAny_bind (slicePart_ ps ?_)
  show wpAny _ _ (if ((-1 : Int) == 0) = true then _ else _) _ _ s
  rw [if_neg (by decide)]
  refine wpAny_bind (slicePart_ pl (wpAny_bind (slicePart_ pu (wpAny_bind (wpAny_pure ?_)))))
  show wpAny _ _ (match Builtin.Slice.sliceAdjust none none (-1) (n : Int) with | (lo, hi) => pure (lo, (-1 : Int), Builtin.Slice.slicePlaces lo hi (-1))) _ _ s
  rw [adjust_rev n]
  show wpAny _ _ (pure ((n : Int) - 1, (-1 : Int), Builtin.Slice.slicePlaces ((n : Int) - 1) (-1) (-1))) _ _ s
  rw [places_rev]
  exact wpAny_pure h
theorem pick_rev (xs : Array Value) : ((List.range xs.size).filterMap fun (m : Nat) => xs[((xs.size : Int) - 1 + (m : Int) * (-1)).toNat]?).toArray = xs.toList.reverse.toArray := by
  have e : (fun (m : Nat) => xs[((xs.size : Int) - 1 + (m : Int) * (-1)).toNat]?) = fun m => xs[xs.size - 1 - m]? := by
    funext m
    have : ((xs.size : Int) - 1 + (m : Int) * (-1)).toNat = xs.size - 1 - m := by omega
    rw [this]
  rw [e]
  congr 1
  have h1 := PySem.W.krv_range xs.size
  have h2 : (List.range xs.size).filterMap (fun m => xs[xs.size - 1 - m]?) = ((List.range xs.size).map (fun k => xs.size - 1 - k)).filterMap (fun j => xs[j]?) := by rw [List.filterMap_map]; rfl
  rw [h2, h1, List.filterMap_reverse, PySem.W.krv_all]
theorem getItem_tuple_rev {t sl : Addr} {items : Array Value} {vl vu vs : Value} {Q : Value → Shared → Prop} (ht : IsTup s.heap t items) (hs : s.heap.IsSliceOf sl vl vu vs) (pl : IsPart vl none) (pu : IsPart vu none) (ps : IsPart vs (some (-1)))
    (h : Q (.ref s.heap.objs.size) { s with heap := s.heap.push { cls := .type "tuple", data := .seq items.toList.reverse.toArray } })
    (hsz : items.size ≤ sizeLine) : wpAny (model prog w) A (getItem (.ref t) (.ref sl)) Q E s := by
  have htake : sizeOk (.seq items.toList.reverse.toArray) := by
    show items.toList.reverse.toArray.size ≤ sizeLine
    rw [List.size_toArray, List.length_reverse, Array.length_toList]
    omega
  obtain ⟨os, hos, hcs, hds⟩ := id hs
  have hTs : s.TypeIs (.ref sl) "slice" := ⟨os, hos, hcs⟩
  unfold getItem
  try with_reducible refine wpAny_holding ?_
  first | refine wpAny_bind (wpAny_pure ?_) | skip
  refine wpAny_bind (wpAny_sequenceKey ht.typeIs (by decide) ?_)
  refine wpAny_bind (wpAny_callSpecial?_slot (name := Str.ofString "__getitem__") ht.typeIs PyProof.Rows.slot_tuple_getitem
    (wpAny_call_entry PyProof.Rows.slot_tuple_getitem ht.typeIs entry_tuple_getitem ?_ (args_tuple_getitem _ _)))
  show wpAny _ _ (Builtin.Tuple.tupleItemsOf (.ref t) >>= _) _ _ s
  refine wpAny_bind (tupleItemsOf_ ht ?_)
  refine wpAny_bind (wpAny_typeOf hTs ?_)
  rw [if_pos (by decide)]
  refine wpAny_bind (applied_rev (n := items.size) hs pl pu ps ?_)
  have hno : ¬ ((((items.size : Nat) : Int) - 1 == 0 && (-1 : Int) == 1 && items.size == items.size) = true) := by simp
  show wpAny _ _ (if ((((items.size : Nat) : Int) - 1 == 0 && (-1 : Int) == 1 && items.size == items.size) = true) then _ else _) _ _ s
  rw [if_neg hno, pick_rev]
  first
    | exact wpAny_bind (m := Builtin.Tuple.tupleExact _) (wpAny_newObj_type (wpAny_pure ⟨_, rfl, wpAny_pure h⟩) htake)
    | exact wpAny_bind (m := Builtin.Tuple.tupleExact _) (wpAny_newObj_type (wpAny_bind (wpAny_pure (wpAny_pure ⟨_, rfl, wpAny_pure h⟩))) htake)
    | exact wpAny_bind (wpAny_bind (m := Builtin.Tuple.tupleExact _) (wpAny_newObj_type (wpAny_pure (wpAny_pure ⟨_, rfl, wpAny_pure h⟩)) htake))
    | exact wpAny_bind (wpAny_bind (m := Builtin.Tuple.tupleExact _) (wpAny_newObj_type (wpAny_pure ⟨_, rfl, wpAny_pure h⟩) htake))
end
section
variable {X : Cx} {W : WX} {a : Expr} {ma : SemE} {pos : Pos}
def tRev2 (K : PySem.W.Frag) (te : TE) : TE := fun σ H Q => te σ H fun x H1 => ∃ a xs, x = .ref a ∧ ((SqL K H1 a xs ∧ ∀ p, H1 p = none → Q (.ref p) (upd H1 p (.lst xs.reverse))) ∨ (SqT K H1 a xs ∧ ∀ p, H1 p = none → Q (.ref p) (upd H1 p (.tup xs.reverse))))
theorem pe_rev2 {e : Expr} {te : TE} {k : Nat} {p1 p2 p3 pos : Pos} (he : PE X e te) : PE X (.Subscript e (.Slice none none (some (.UnaryOp .USub (.Constant (.int 1) k p1) p2)) p3) pos) (tRev2 X.K te) := by
  refine ⟨fun pins s σ H Q I h => ?_⟩
  refine Subscript_ (thn (he.run pins s σ H _ I h) fun v s1 ⟨x, H1, I1, r1, q1⟩ => ?_)
  obtain ⟨a, xs, ex, q1⟩ := q1
  subst ex
  cases r1
  have hst : PO X (some (.UnaryOp .USub (.Constant (.int 1) k p1) p2)) (tPart (tUn (rU fun i => .int (-i)) (tC (.int 1)))) := po_some (pe_un un_neg pe_int)
  refine wpAny_Slice (thn (po_none.run pins s1 σ H1 (fun o H2 => o = none ∧ H2 = H1) I1 ⟨rfl, rfl⟩) fun vl s2 ⟨l, H2, I2, pl, el, e2⟩ => ?_)
  subst el e2
  refine thn (po_none.run pins s2 σ H2 (fun o H3 => o = none ∧ H3 = H2) I2 ⟨rfl, rfl⟩) fun vu s3 ⟨u, H3, I3, pu, eu, e3⟩ => ?_
  subst eu e3
  refine thn (hst.run pins s3 σ H3 (fun o H4 => o = some (-1) ∧ H4 = H3) I3 ⟨1, rfl, -1, rfl, rfl, rfl⟩) fun vs s4 ⟨o, H4, I4, ps, eo, e4⟩ => ?_
  subst eo e4
  have I5 : Inv X pins σ H4 { s4 with heap := s4.heap.push { cls := .type "slice", data := .fields #[vl, vu, vs] } } := I4.kept (t' := s4.toks) fun b ob q => Heap.get?_push_of_some _ q
  show wpAny (model X.prog X.w) X.A (subscriptTail e (.Slice none none (some (.UnaryOp .USub (.Constant (.int 1) k p1) p2)) p3) (.ref a) (.ref s4.heap.objs.size)) (EP X pins σ Q) X.xe { s4 with heap := s4.heap.push { cls := .type "slice", data := .fields #[vl, vu, vs] } }
  rcases q1 with ⟨hx, q⟩ | ⟨hx, q⟩
  · obtain ⟨its, r, ht, hz⟩ := I5.list hx
    have hlen := r.length
    refine tail_any (ops := [.ref a, .ref s4.heap.objs.size]) ht.isList.typeIs (PySem.slot_list_getitem.lookup) ?_ (by with_unfolding_all rfl)
    refine wpAny_getItem_list_slice ht.isList (Heap.IsSliceOf.new _ vl vu vs) pl pu ps (by decide) ?_ (by rw [List.size_toArray]; omega)
    rw [PySem.W.krv_pick]
    refine ⟨.ref _, _, I5.laid (t' := s4.toks) (o := .lst xs.reverse) (fun b ob q => Heap.get?_push_of_some _ q) (Nat.le_refl _) ?_, rfl, q _ (I5.hok.fresh (Nat.le_refl _))⟩
    exact ⟨by rw [List.length_reverse]; exact hz, _, 0, r.reverse, Heap.get?_push_size _ rfl⟩
  · obtain ⟨its, r, ht, hz⟩ := I5.tuple hx
    have hlen := r.length
    refine tail_any (ops := [.ref a, .ref s4.heap.objs.size]) ht.typeIs (PyProof.Rows.slot_tuple_getitem.lookup) ?_ (by with_unfolding_all rfl)
    refine getItem_tuple_rev ht (Heap.IsSliceOf.new _ vl vu vs) pl pu ps ?_ (by rw [List.size_toArray]; omega)
    refine ⟨.ref _, _, I5.laid (t' := s4.toks) (o := .tup xs.reverse) (fun b ob q => Heap.get?_push_of_some _ q) (Nat.le_refl _) ?_, rfl, q _ (I5.hok.fresh (Nat.le_refl _))⟩
    exact ⟨by rw [List.length_reverse]; exact hz, _, r.reverse, IsTup.new _ _⟩
def eRev (m : SemE) : SemE := fun e => (m e).bind fun r e1 => match r.val e1 with
  | some (.list ts) => .ok (.b (.l ts.reverse)) e1
  | some (.tuple ts) => .ok (.r (.tuple ts.reverse)) e1
  | _ => .bad
theorem qrev {k : Nat} {p1 p2 p3 : Pos} (ha : QE X W a ma) : QE X W (.Subscript a (.Slice none none (some (.UnaryOp .USub (.Constant (.int 1) k p1) p2)) p3) pos) (eRev ma) := by
  refine pe_mono (pe_rev2 ha) fun σ H Q h => ?_
  obtain ⟨e, F, R, h⟩ := h
  refine tX_imp (tX_bind (rel := fun σ => OdR X.K σ) R .refl h) fun x H1 ⟨r, e1, F1, R1, S1, O1, h1⟩ => ?_
  cases q : r.val e1 with
  | none => simp only [q] at h1; exact h1.elim
  | some t =>
    have d := val_ok R1 O1 q
    cases t with
    | list ts =>
      simp only [q] at h1
      obtain ⟨p, xs, rfl, hs, dd⟩ := d
      exact ⟨p, xs, rfl, .inl ⟨hs, fun p hp => (fin_of R1 S1 h1 True.intro : Fin X.K F1 H1 Q (.b (.l _))) p _ hp (dpAll_rev dd)⟩⟩
    | tuple ts =>
      simp only [q] at h1
      cases d with
      | tup hs dd => exact ⟨_, _, rfl, .inr ⟨tupS R1.sub hs, fun p hp => (fin_of R1 S1 h1 True.intro : Fin X.K F1 H1 Q (.r (.tuple _))).2 _ p _ rfl hp (dpAll_rev dd)⟩⟩
    | none => simp only [q] at h1; exact h1.elim
    | bool _ => simp only [q] at h1; exact h1.elim
    | str _ => simp only [q] at h1; exact h1.elim
    | int _ => simp only [q] at h1; exact h1.elim
    | dict _ => simp only [q] at h1; exact h1.elim
end
end Ev

set_option Elab.async false
set_option linter.all false
set_option maxRecDepth 100000
namespace Ev
open PySem PySem.Spec PyProof.Rows L2
section
variable {K : PySem.W.Frag} {W : WX} {e e1 : En} {σ : Sg} {F H : Hp}
/-- what a name alone holds is changed -/
theorem upd_own {i : Nat} {l : Bool} {z : Bx} {ts' : List T} {p : Addr} {xs' : List V} (R : Rel K e σ F H) (h1 : e[i]? = some (.ow l z)) (h2 : σ[i]? = some (some (.ref p))) (d : DpAll K F xs' ts') :
    Rel K (e.set i (.ow l (.l ts'))) σ F (upd H p (.lst xs')) ∧ Step e (e.set i (.ow l (.l ts'))) σ F H F (upd H p (.lst xs')) := by
  have hi : i < e.length := (List.getElem?_eq_some_iff.mp h1).1
  have ow : Own e σ p := ⟨i, l, z, h1, h2⟩
  have hf := (R.owned ow).1
  have get : ∀ (j : Nat) (s : Sl), (e.set i (.ow l (.l ts')))[j]? = some s → (j = i ∧ s = .ow l (.l ts')) ∨ (i ≠ j ∧ e[j]? = some s) := fun j s h => by
    by_cases q : i = j
    · subst q; rw [List.getElem?_set_self hi] at h; cases h; exact .inl ⟨rfl, rfl⟩
    · rw [List.getElem?_set_ne q] at h; exact .inr ⟨q, h⟩
  have kind : ∀ (j : Nat) (l' : Bool) (b' : Bx), (e.set i (.ow l (.l ts')))[j]? = some (.ow l' b') → ∃ b, e[j]? = some (.ow l' b) := fun j l' b' h => by
    rcases get j _ h with ⟨rfl, q⟩ | ⟨_, q⟩
    · cases q; exact ⟨z, h1⟩
    · exact ⟨b', q⟩
  refine ⟨⟨fun a o h => ?_, by simp [R.len], fun j s o g1 g2 => ?_, fun j j' l1 b1 l2 b2 q g1 g2 g3 g4 => ?_⟩, ⟨fun _ _ h => h, fun a o h n => ?_, fun a o h => ?_, fun a ⟨j, l', b', g1, g2⟩ => ?_, fun j hj => ?_, kind⟩⟩
  · rw [upd_ne (ne_of_none h hf)]; exact R.sub _ _ h
  · rcases get j s g1 with ⟨rfl, rfl⟩ | ⟨q, g⟩
    · rw [h2] at g2; cases g2; exact ⟨p, rfl, hf, xs', upd_same, d⟩
    · have w := R.at_ j s o g g2
      cases s with
      | un => trivial
      | v t => exact w
      | fz b => exact w
      | ow l' b =>
        obtain ⟨p', ep, hf', bx⟩ := w
        subst ep
        have np : p' ≠ p := fun w => by subst w; exact q (R.ne i j l z l' b p' h1 g h2 g2)
        exact ⟨p', rfl, hf', bx_keep bx (fun _ _ h => h) fun o' h' => by rw [upd_ne np]; exact h'⟩
  · obtain ⟨b1', q1⟩ := kind j _ _ g1
    obtain ⟨b2', q2⟩ := kind j' _ _ g2
    exact R.ne j j' _ _ _ _ q q1 q2 g3 g4
  · have np : a ≠ p := fun w => n (by subst w; exact ow)
    exact ⟨by rw [upd_ne np]; exact h, fun w => w⟩
  · by_cases q : a = p
    · subst q; exact ⟨_, upd_same⟩
    · exact ⟨o, by rw [upd_ne q]; exact h⟩
  · obtain ⟨b, q⟩ := kind j _ _ g1
    exact ⟨j, l', b, q, g2⟩
  · obtain ⟨b', q⟩ := hj
    by_cases ij : i = j
    · subst ij
      rw [h1] at q
      rcases q with q | q
      · cases q; exact ⟨_, .inl (List.getElem?_set_self hi)⟩
      · cases q
    · exact ⟨b', by rw [List.getElem?_set_ne ij]; exact q⟩
end
/-- a method that changes a list, met by g -/
def MutDoes (K : PySem.W.Frag) (r : V → List V → Hp → VK → Prop) (g : List T → List T → Option (List T × T)) : Prop :=
  ∀ (p : Addr) (xs vs : List V) (ts us : List T) (ts' : List T) (w : T) (F H : Hp) (Q : VK), H p = some (.lst xs) → DpAll K F xs ts → DpAll K F vs us → g ts us = some (ts', w) →
    (∀ xs' v, DpAll K F xs' ts' → Dp K F v w → Q v (upd H p (.lst xs'))) → r (.ref p) vs H Q
def eMut (i : Nat) (g : List T → List T → Option (List T × T)) (ma : SemA) : SemE := fun e => match e[i]? with
  | some (.ow _ (.l _)) => (ma e).bind fun rs e1 => (match escs rs e1 with
    | some (us, e2) => (match e2[i]? with
      | some (.ow l (.l ts)) => (match g ts us with
        | some (ts', w) => .ok (.r w) (e2.set i (.ow l (.l ts')))
        | none => .bad)
      | _ => .bad)
    | none => .bad)
  | _ => .bad
section
variable {X : Cx} {W : WX} {a b c : Expr} {ma mb mc : SemE} {pos : Pos}
theorem mut_read {K : PySem.W.Frag} {i : Nat} {r : V → List V → Hp → VK → Prop} {g : List T → List T → Option (List T × T)} {m : SemA} (hr : MutDoes K r g) {σ : Sg} {H : Hp} {Q : VK} (h : tE K W (eMut i g m) σ H Q) :
    ∃ p, σ[i]? = some (some (.ref p)) ∧ (∃ xs, SqL K H p xs) ∧ tA K W m σ H fun vs H2 => r (.ref p) vs H2 Q := by
  obtain ⟨e, F, R, h⟩ := h
  simp only [eMut] at h
  cases q : e[i]? with
  | none => rw [q] at h; exact h.elim
  | some s =>
    rw [q] at h
    cases s with
    | un => exact h.elim
    | v _ => exact h.elim
    | fz _ => exact h.elim
    | ow l z =>
      cases z with
      | d _ => exact h.elim
      | m _ => exact h.elim
      | n _ => exact h.elim
      | l ts0 =>
        simp only at h
        obtain ⟨o, hs, p, ep, hf, xs0, hx0, d0⟩ := R.var q
        subst ep
        refine ⟨p, hs, ⟨xs0, SqL.of hx0⟩, ?_⟩
        refine tX_imp (tX_bind (rel := fun σ Hs F H xs rs => OdsR K σ Hs F H rs xs) R .refl h) fun vs H1 ⟨rs, e1, F1, R1, S1, O1, h1⟩ => ?_
        cases q1 : escs rs e1 with
        | none => simp only [q1] at h1; exact h1.elim
        | some te =>
          obtain ⟨us, e2⟩ := te
          simp only [q1] at h1
          obtain ⟨F2, R2, S2, d2, _⟩ := escs_ok R R1 S1 O1 q1
          cases q2 : e2[i]? with
          | none => rw [q2] at h1; exact h1.elim
          | some s2 =>
            rw [q2] at h1
            cases s2 with
            | un => exact h1.elim
            | v _ => exact h1.elim
            | fz _ => exact h1.elim
            | ow l2 z2 =>
              cases z2 with
              | d _ => exact h1.elim
              | m _ => exact h1.elim
              | n _ => exact h1.elim
              | l ts =>
                simp only at h1
                obtain ⟨p', ep, hf2, xs, hx, d⟩ := R2.at_ i _ _ q2 hs
                cases ep
                cases q3 : g ts us with
                | none => rw [q3] at h1; exact h1.elim
                | some tw =>
                  obtain ⟨ts', w⟩ := tw
                  rw [q3] at h1
                  refine hr p xs vs ts us ts' w F2 H1 Q hx d d2 q3 fun xs' v d' dw => ?_
                  obtain ⟨R3, S3⟩ := upd_own R2 q2 hs d'
                  exact h1 v F2 _ R3 (S2.trans S3) dw
theorem qmeth {i : Nat} {x name : Str} {p apos cpos : Pos} {id : String} {r : V → List V → Hp → VK → Prop} {g : List T → List T → Option (List T × T)} {m : SemA} {es : List Expr} (slot : Slot "list" name id) (hty : typeOf (.builtin id) = pure (.type "method_descriptor")) (hm : MtR X id r) (hr : MutDoes X.K r g)
    (hN : X.N[i]? = some x) (hv : Vis X.env.scope x) (ha : QA X W (a :: es) m) (hd : (x == ("__debug__" : Str)) = false := by decide) (hcd : (x == ("__classdict__" : Str)) = false := by decide)
    (hbase : attributeBase (.Name x p) name X.env (eval (.Name x p) X.env) = eval (.Name x p) X.env := by rfl)
    (hfew : ((backTo cpos (starEach (a :: es) X.env)).all (fun x => !x.1) && (backToKw cpos (keywordEach [] X.env)).all (fun x => x.1.isSome)
      && decide ((a :: es).length + ([] : List Keyword).length + (if ([] : List Keyword).isEmpty then 0 else 1) < 30)) = true := by rfl)
    (hline : (apos.endLine == cpos.line) = true := by rfl) (hs : starEach (a :: es) X.env = (false, eval a X.env) :: starEach es X.env := by rfl) (hplain : (backTo cpos (starEach es X.env)).any (·.1) = false := by rfl) :
    QE X W (.Call (.Attribute (.Name x p) name apos) (a :: es) [] cpos) (eMut i g m) :=
  pe_mono (pe_bm PySem.F.plainAttrs_list slot hty hm (pe_var hN hv hd hcd) ha hbase hfew hline hs hplain) fun σ H Q h => by
    obtain ⟨p, hs, hl, h⟩ := mut_read hr h
    exact ⟨_, hs, .inl ⟨rfl, hl⟩, h⟩
/-! ### the methods -/
def gAppend (ts us : List T) : Option (List T × T) := match us with
  | [u] => if ts.length < sizeLine then some (ts ++ [u], .none) else none
  | _ => none
theorem does_append {K : PySem.W.Frag} : MutDoes K rAppend gAppend := by
  intro p xs vs ts us ts' w F H Q hx d dv hg q
  cases dv with
  | nil => cases hg
  | cons a dv =>
    cases dv with
    | cons _ _ => cases hg
    | nil =>
      simp only [gAppend] at hg
      split at hg
      · rename_i hl; cases hg
        exact ⟨p, xs, _, rfl, rfl, hx, by rw [dpAll_len d]; exact hl, q _ _ (dpAll_app d (.cons a .nil)) .non⟩
      · cases hg
def gInsert (ts us : List T) : Option (List T × T) := match us with
  | [.int i, u] => if ts.length < sizeLine ∧ 0 ≤ i ∧ i < 2 ^ 63 then some (ts.take i.toNat ++ [u] ++ ts.drop i.toNat, .none) else none
  | _ => none
theorem dpAll_erase {K : PySem.W.Frag} {F : Hp} {ts : List T} {vs : List V} (k : Nat) (d : DpAll K F vs ts) : DpAll K F (vs.eraseIdx k) (ts.eraseIdx k) := by
  rw [List.eraseIdx_eq_take_drop_succ, List.eraseIdx_eq_take_drop_succ]
  exact dpAll_app (dpAll_take _ d) (dpAll_drop _ d)
def gPop (ts us : List T) : Option (List T × T) := match us with
  | [.int i] => if -(2 ^ 63) ≤ i ∧ i < 2 ^ 63 then (match seqIndex? i ts.length with
    | some k => (match ts[k]? with
      | some t => some (ts.eraseIdx k, t)
      | none => none)
    | none => none) else none
  | _ => none
theorem does_pop {K : PySem.W.Frag} : MutDoes K rPopAt gPop := by
  intro p xs vs ts us ts' w F H Q hx d dv hg q
  cases dv with
  | nil => cases hg
  | cons a dv =>
    cases dv with
    | cons _ _ => cases a <;> cases hg
    | nil =>
      cases a with
      | int i =>
        simp only [gPop] at hg
        split at hg
        · rename_i hl
          cases e : seqIndex? i ts.length with
          | none => rw [e] at hg; cases hg
          | some k =>
            simp only [e] at hg
            cases e2 : ts[k]? with
            | none => rw [e2] at hg; cases hg
            | some t =>
              rw [e2] at hg; cases hg
              obtain ⟨v, hv, dv⟩ := dpAll_get d e2
              exact ⟨p, xs, i, k, v, rfl, rfl, hx, hl.1, hl.2, by rw [dpAll_len d]; exact e, hv, q _ _ (dpAll_erase _ d) dv⟩
        · cases hg
      | _ => cases hg
/-! ### built-ins -/
end
/-- of one value; of two -/
def g1 (f : T → Option Od) : List T → Option Od
  | [t] => f t
  | _ => none
def g2 (f : T → T → Option Od) : List T → Option Od
  | [t, u] => f t u
  | _ => none
theorem doesN1 {K : PySem.W.Frag} {r : List V → Hp → VK → Prop} {f : T → Option Od} (h : ∀ (x : V) (t : T) (w : Od) (F H : Hp) (Q : VK), (∀ a o, F a = some o → H a = some o) → DpO K F H x t → f t = some w → Back w ∧ (Fin K F H Q w → r [x] H Q)) : DoesN K r (g1 f) := by
  intro xs ts w F H Q ff d hg
  cases d with
  | nil => cases hg
  | cons a d =>
    cases d with
    | nil => exact h _ _ w F H Q ff a hg
    | cons _ _ => cases hg
theorem doesN2 {K : PySem.W.Frag} {r : List V → Hp → VK → Prop} {f : T → T → Option Od} (h : ∀ (x y : V) (t u : T) (w : Od) (F H : Hp) (Q : VK), (∀ a o, F a = some o → H a = some o) → DpO K F H x t → DpO K F H y u → f t u = some w → Back w ∧ (Fin K F H Q w → r [x, y] H Q)) : DoesN K r (g2 f) := by
  intro xs ts w F H Q ff d hg
  cases d with
  | nil => cases hg
  | cons a d =>
    cases d with
    | nil => cases hg
    | cons b d =>
      cases d with
      | nil => exact h _ _ _ _ w F H Q ff a b hg
      | cons _ _ => cases hg
def fLen : T → Option Od
  | .list ts => some (.r (.int ts.length))
  | .tuple ts => some (.r (.int ts.length))
  | _ => none
abbrev gLen := g1 fLen
def rLen2 (K : PySem.W.Frag) : List V → Hp → VK → Prop := fun xs H Q => ∃ p ys, xs = [.ref p] ∧ (SqL K H p ys ∨ SqT K H p ys) ∧ Q (.int ys.length) H
theorem does_len {K : PySem.W.Frag} : DoesN K (rLen2 K) gLen := doesN1 fun x t w F H Q ff d hg => by
  cases t with
  | list ts =>
    cases hg
    obtain ⟨p, ys, rfl, h, dd⟩ := d
    exact ⟨trivial, fun q => ⟨p, ys, rfl, .inl h, by rw [dpAll_len dd]; exact q.1 _ (.int _)⟩⟩
  | tuple ts =>
    cases hg
    cases d with
    | tup h dd => exact ⟨trivial, fun q => ⟨_, _, rfl, .inr (tupS ff h), by rw [dpAll_len dd]; exact q.1 _ (.int _)⟩⟩
  | _ => cases hg
def fInt : T → Option Od
  | .int i => some (.r (.int i))
  | .bool k => some (.r (.int (if k then 1 else 0)))
  | _ => none
abbrev gInt := g1 fInt
theorem does_int {K : PySem.W.Frag} : DoesN K (fun xs H Q => (∃ i, xs = [.int i] ∧ Q (.int i) H) ∨ ∃ k, xs = [.bl k] ∧ Q (.int (if k then 1 else 0)) H) gInt := doesN1 fun x t w F H Q ff d hg => by
  cases t with
  | int i => cases hg; cases d; exact ⟨trivial, fun q => .inl ⟨i, rfl, q.1 _ (.int _)⟩⟩
  | bool i => cases hg; cases d; exact ⟨trivial, fun q => .inr ⟨i, rfl, q.1 _ (.int _)⟩⟩
  | _ => cases hg
def fAbs : T → Option Od
  | .int i => some (.r (.int (if i < 0 then -i else i)))
  | _ => none
abbrev gAbs := g1 fAbs
abbrev gMax2 := g2 (gII (fun _ _ => true) fun i j => .int (if j > i then j else i))
abbrev gMin2 := g2 (gII (fun _ _ => true) fun i j => .int (if j < i then j else i))
theorem does2I {K : PySem.W.Frag} {c : Int → Int → Bool} {g : Int → Int → Int} : DoesN K (fun xs H Q => ∃ i j, xs = [.int i, .int j] ∧ Q (.int (g i j)) H) (g2 (gII c fun i j => .int (g i j))) := doesN2 fun x y t u w F H Q ff d d' hg => by
  cases t with
  | int i =>
    cases u with
    | int j =>
      simp only [gII] at hg
      split at hg
      · cases hg; cases d; cases d'; exact ⟨trivial, fun q => ⟨i, j, rfl, q.1 _ (.int _)⟩⟩
      · cases hg
    | _ => cases hg
  | _ => cases hg
theorem does_max2 {K : PySem.W.Frag} : DoesN K (fun xs H Q => ∃ i j, xs = [.int i, .int j] ∧ Q (.int (if j > i then j else i)) H) gMax2 := does2I
theorem does_min2 {K : PySem.W.Frag} : DoesN K (fun xs H Q => ∃ i j, xs = [.int i, .int j] ∧ Q (.int (if j < i then j else i)) H) gMin2 := does2I
abbrev gDivmod := g2 (gII (fun _ j => decide (0 < j ∧ j < 1073741824)) fun i j => .tuple [.int (i / j), .int (i % j)])
theorem does_divmod {K : PySem.W.Frag} : DoesN K (fun xs H Q => ∃ i j, xs = [.int i, .int j] ∧ CDiv i j ∧ ∀ p, H p = none → Q (.ref p) (upd H p (.tup [.int (i / j), .int (i % j)]))) gDivmod := doesN2 fun x y t u w F H Q ff d d' hg => by
  cases t with
  | int i =>
    cases u with
    | int j =>
      simp only [gII] at hg
      split at hg
      · rename_i hl
        cases hg; cases d; cases d'
        exact ⟨trivial, fun q => ⟨i, j, rfl, of_decide_eq_true (p := 0 < j ∧ j < 1073741824) hl, fun p hp => q.2 _ p _ rfl hp (.cons (.int _) (.cons (.int _) .nil))⟩⟩
      · cases hg
    | _ => cases hg
  | _ => cases hg
def fTuple : T → Option Od
  | .list ts => some (.r (.tuple ts))
  | .tuple ts => some (.r (.tuple ts))
  | _ => none
abbrev gTuple := g1 fTuple
theorem does_tuple {K : PySem.W.Frag} : DoesN K (fun xs H Q => ∃ p ys, xs = [.ref p] ∧ ((SqL K H p ys ∧ ∀ l, H l = none → Q (.ref l) (upd H l (.tup ys))) ∨ (SqT K H p ys ∧ Q (.ref p) H))) gTuple := doesN1 fun x t w F H Q ff d hg => by
  cases t with
  | list ts =>
    cases hg
    obtain ⟨p, ys, rfl, h, dd⟩ := d
    exact ⟨trivial, fun q => ⟨p, ys, rfl, .inl ⟨h, fun l hl => q.2 _ l _ rfl hl dd⟩⟩⟩
  | tuple ts =>
    cases hg
    have a0 : Dp K F x (.tuple ts) := d
    cases d with
    | tup h dd => exact ⟨trivial, fun q => ⟨_, _, rfl, .inr ⟨tupS ff h, q.1 _ a0⟩⟩⟩
  | _ => cases hg
def fList : T → Option Od
  | .list ts => some (.b (.l ts))
  | .tuple ts => some (.b (.l ts))
  | _ => none
abbrev gList := g1 fList
theorem does_list {K : PySem.W.Frag} : DoesN K (fun xs H Q => ∃ p ys, xs = [.ref p] ∧ (SqL K H p ys ∨ SqT K H p ys) ∧ ∀ l, H l = none → Q (.ref l) (upd H l (.lst ys))) gList := doesN1 fun x t w F H Q ff d hg => by
  cases t with
  | list ts =>
    cases hg
    obtain ⟨p, ys, rfl, h, dd⟩ := d
    exact ⟨trivial, fun q => ⟨p, ys, rfl, .inl h, fun l hl => q l _ hl dd⟩⟩
  | tuple ts =>
    cases hg
    cases d with
    | tup h dd => exact ⟨trivial, fun q => ⟨_, _, rfl, .inr (tupS ff h), fun l hl => q l _ hl dd⟩⟩
  | _ => cases hg
/-- the truths of a list -/
def bools : List T → Option (List Bool)
  | [] => some []
  | .bool b :: ts => (bools ts).map (b :: ·)
  | _ => none
theorem bools_dp {K : PySem.W.Frag} {F : Hp} : ∀ {ts : List T} {xs : List V} {bs : List Bool}, DpAll K F xs ts → bools ts = some bs → xs = bs.map V.bl
  | [], _, _, d, h => by cases d; cases h; rfl
  | t :: ts, _, _, d, h => by
    cases d with
    | cons a d =>
      cases t with
      | bool b =>
        cases a
        simp only [bools] at h
        cases q : bools ts with
        | none => rw [q] at h; cases h
        | some bs => rw [q] at h; cases h; rw [bools_dp d q]; rfl
      | _ => cases h
def fAll (k : List Bool → Bool) : T → Option Od
  | .list ts => (bools ts).map fun bs => .r (.bool (k bs))
  | _ => none
abbrev gAll := g1 (fAll fun bs => bs.all id)
theorem doesBs {K : PySem.W.Frag} {k : List Bool → Bool} : DoesN K (fun vs H Q => ∃ (a : Addr) (bs : List Bool), vs = [V.ref a] ∧ SqL K H a (bs.map V.bl) ∧ Q (.bl (k bs)) H) (g1 (fAll k)) := doesN1 fun x t w F H Q ff d hg => by
  cases t with
  | list ts =>
    simp only [fAll] at hg
    cases q : bools ts with
    | none => rw [q] at hg; cases hg
    | some bs =>
      rw [q] at hg; cases hg
      obtain ⟨p, ys, rfl, h, dd⟩ := d
      refine ⟨trivial, fun k => ⟨p, bs, rfl, ?_, k.1 _ (.bl _)⟩⟩
      rw [← bools_dp dd q]; exact h
  | _ => cases hg
theorem does_all {K : PySem.W.Frag} : DoesN K (rAll K) gAll := doesBs
end Ev

set_option Elab.async false
set_option linter.all false
set_option maxRecDepth 100000
namespace Ev
open PySem PySem.Spec PyProof.Rows L2
section
variable {K : PySem.W.Frag} {W : WX} {B : Bd} {e e1 e2 : En} {σ σ1 : Sg} {F H F1 H1 F2 H2 : Hp}
theorem BOk.up (k : BOk B e σ F H) : BOk { B with F := F } e σ F H :=
  ⟨fun _ _ h => h, fun a o h n => ⟨(k.keep a o h n).1, fun z => z⟩, k.dom, k.fresh, k.own, k.lent⟩
theorem BOk.down (k1 : BOk B e1 σ1 F1 H1) (k : BOk { B with F := F1 } e σ F H) : BOk B e σ F H where
  ff := fun a o h => k.ff _ _ (k1.ff _ _ h)
  keep := fun a o h n => ⟨(k.keep a o h n).1, fun z => (k.keep a o h n).2 ((k1.keep a o h n).2 z)⟩
  dom := k.dom
  fresh := k.fresh
  own := k.own
  lent := k.lent
/-! ### targets -/
/-- slots apart from ws stay -/
def Agree (ws : List Nat) (σ σ' : Sg) : Prop := σ'.length = σ.length ∧ ∀ j, j ∉ ws → σ'[j]? = σ[j]?
theorem Agree.refl {ws : List Nat} : Agree ws σ σ := ⟨rfl, fun _ _ => rfl⟩
theorem Agree.trans {ws : List Nat} {σ2 : Sg} (a : Agree ws σ σ1) (b : Agree ws σ1 σ2) : Agree ws σ σ2 := ⟨b.1.trans a.1, fun j h => (b.2 j h).trans (a.2 j h)⟩
abbrev SemG := T → En → Option En
def tG (K : PySem.W.Frag) (B : Bd) (ws : List Nat) (g : SemG) : TG := fun x σ H Q => ∃ e F t e', Rel K e σ F H ∧ BOk B e σ F H ∧ Dp K F x t ∧ g t e = some e' ∧ ∀ σ', Rel K e' σ' F H → BOk B e' σ' F H → Agree ws σ σ' → Q σ' H
theorem pg_mono {X : Cx} {tg : Expr} {t t' : TG} (h : PG X tg t) (m : ∀ x σ H Q, t' x σ H Q → t x σ H Q) : PG X tg t' := ⟨fun pins s σ H v u Q I r q => h.run pins s σ H v u Q I r (m v σ H Q q)⟩
abbrev QG (X : Cx) (B : Bd) (ws : List Nat) (tg : Expr) (g : SemG) : Prop := PG X tg (tG X.K B ws g)
def gN (i : Nat) : SemG := fun t e => if isLent e i then none else some (e.set i (.v t))
theorem qgn {X : Cx} {ws : List Nat} {i : Nat} {x : Str} {pos : Pos} (hN : X.N.Nodup) (hi : X.N[i]? = some x) (hx : Loc X.env.scope x) (hw : i ∈ ws) (hf : X.fn x = true ∨ X.env.scope.names.lookup x = some .local := by first | exact .inl rfl | exact .inr rfl | assumption) : QG X B ws (.Name x pos) (gN i) := by
  refine pg_mono (pg_name hN hi hx hf) fun x σ H Q h => ?_
  obtain ⟨e, F, t, e', R, k, d, hg, q⟩ := h
  simp only [gN] at hg
  cases l : isLent e i with
  | true => rw [l] at hg; cases hg
  | false =>
    rw [l] at hg; cases hg
    obtain ⟨a, b⟩ := set_v R k d (isLent_no l)
    exact q _ a b ⟨by simp, fun j hj => List.getElem?_set_ne fun (z : i = j) => hj (by rw [← z]; exact hw)⟩
abbrev SemGs := List T → En → Option En
def tGs (K : PySem.W.Frag) (B : Bd) (ws : List Nat) (g : SemGs) : TGs := fun xs σ H Q => ∃ e F ts e', Rel K e σ F H ∧ BOk B e σ F H ∧ DpAll K F xs ts ∧ g ts e = some e' ∧ ∀ σ', Rel K e' σ' F H → BOk B e' σ' F H → Agree ws σ σ' → Q σ' H
theorem pgs_mono {X : Cx} {tg : List Expr} {t t' : TGs} (h : PGs X tg t) (m : ∀ x σ H Q, t' x σ H Q → t x σ H Q) : PGs X tg t' := ⟨fun pins s σ H v u Q I r q => h.run pins s σ H v u Q I r (m v σ H Q q)⟩
abbrev QGs (X : Cx) (B : Bd) (ws : List Nat) (tg : List Expr) (g : SemGs) : Prop := PGs X tg (tGs X.K B ws g)
def gsNil : SemGs := fun ts e => match ts with
  | [] => some e
  | _ => none
def gsCons (g : SemG) (gs : SemGs) : SemGs := fun ts e => match ts with
  | t :: ts => (match g t e with
    | some e1 => gs ts e1
    | none => none)
  | [] => none
theorem qgsnil {X : Cx} {ws : List Nat} : QGs X B ws [] gsNil := by
  refine pgs_mono pgs_nil fun xs σ H Q h => ?_
  obtain ⟨e, F, ts, e', R, k, d, hg, q⟩ := h
  cases ts with
  | nil => cases d; cases hg; exact ⟨rfl, q _ R k .refl⟩
  | cons _ _ => cases hg
theorem qgscons {X : Cx} {ws : List Nat} {tg : Expr} {tgs : List Expr} {g : SemG} {gs : SemGs} (h1 : QG X B ws tg g) (h2 : QGs X B ws tgs gs)
    (hs : (assignEach (tg :: tgs) X.env).map (·.2) = assign tg X.env :: (assignEach tgs X.env).map (·.2) := by rfl) : QGs X B ws (tg :: tgs) (gsCons g gs) := by
  refine pgs_mono (pgs_cons h1 h2 hs) fun xs σ H Q h => ?_
  obtain ⟨e, F, ts, e', R, k, d, hg, q⟩ := h
  cases ts with
  | nil => cases hg
  | cons t ts =>
    cases d with
    | cons a b =>
      simp only [gsCons] at hg
      cases q1 : g t e with
      | none => rw [q1] at hg; cases hg
      | some e1 =>
        rw [q1] at hg
        exact ⟨_, _, rfl, e, F, t, e1, R, k, a, q1, fun σ' R' k' ag => ⟨e1, F, ts, e', R', k', b, hg, fun σ2 R2 k2 ag2 => q σ2 R2 k2 (ag.trans ag2)⟩⟩
def gT (n : Nat) (gs : SemGs) : SemG := fun t e => match t with
  | .tuple ts => if ts.length = n then gs ts e else none
  | _ => none
theorem qgt {X : Cx} {ws : List Nat} {es : List Expr} {k : Nat} {pos : Pos} {gs : SemGs} {n : Nat} (hc : X.calm = true) (h : QGs X B ws es gs)
    (hn : (assignEach es X.env).length = n := by rfl) (hst : (assignEach es X.env).findIdx? (·.1) = none := by rfl) : QG X B ws (.Tuple es k pos) (gT n gs) := by
  refine pg_mono (pg_tup hc h hn hst) fun x σ H Q h => ?_
  obtain ⟨e, F, t, e', R, k, d, hg, q⟩ := h
  cases t with
  | tuple ts =>
    simp only [gT] at hg
    split at hg
    · rename_i hl
      cases d with
      | tup hs dd => exact ⟨_, _, rfl, tupS R.sub hs, by rw [dpAll_len dd]; exact hl, e, F, ts, e', R, k, dd, hg, q⟩
    · cases hg
  | _ => cases hg
/-- target = value -/
def sAsg (g : SemG) (m : SemE) : SemS := fun e => (m e).bind fun r e1 => match esc r e1 with
  | some (t, e2) => (match g t e2 with
    | some e3 => .ok .nx e3
    | none => .bad)
  | none => .bad
theorem qasg {X : Cx} {ws : List Nat} {tg a : Expr} {pos : Pos} {g : SemG} {ma : SemE} (he : QE X W a ma) (hg : QG X B ws tg g) (hs : swapsWithSole [tg] a pos.line X.env = pure false := by rfl) (hw : swappedStores [tg] a X.env = pure none := by rfl)
    (h1 : (assignEach [tg] X.env).map (·.2) = [assign tg X.env] := by rfl) : QS X W B (.Assign [tg] a pos) (sAsg g ma) := by
  refine ps_mono (ps_asg he hg hs hw h1) fun D σ H h => ?_
  obtain ⟨e, F, R, k, h⟩ := h
  refine tX_imp (tS_bind (rel := fun σ => OdR X.K σ) R k h) fun x H1 ⟨r, e1, F1, R1, S1, k1, O, h2⟩ => ?_
  cases q : esc r e1 with
  | none => simp only [q] at h2; exact h2.elim
  | some te =>
    obtain ⟨t, e2⟩ := te
    simp only [q] at h2
    obtain ⟨F2, R2, S2, d, _⟩ := esc_ok R R1 S1 O q
    cases q2 : g t e2 with
    | none => simp only [q2] at h2; exact h2.elim
    | some e3 =>
      simp only [q2] at h2
      exact ⟨e2, F2, t, e3, R2, k.step S2, d, q2, fun σ' R' k' _ => h2 σ' F2 _ R' k'⟩
/-! ### what a loop walks -/
def Wk (K : PySem.W.Frag) (F0 : Hp) (J : It) (ts : List T) : Prop := ∀ (i : Nat) (F H : Hp), (∀ a o, F0 a = some o → F a = some o) → (∀ a o, F a = some o → H a = some o) →
  (∀ t, ts[i]? = some t → J.go i H ∧ ∀ x H', J.yld i H x H' → (H' = H ∧ Dp K F x t) ∨ ∃ p vs ws, x = .ref p ∧ H p = none ∧ H' = upd H p (.tup vs) ∧ t = .tuple ws ∧ DpAll K F vs ws) ∧ (ts.length ≤ i → J.stop i H)
abbrev SemI := En → Out (List T)
theorem pi_mono {X : Cx} {tg it : Expr} {t t' : TI} (h : PI X tg it t) (m : ∀ σ H Q, t' σ H Q → t σ H Q) : PI X tg it t' := ⟨fun pins s σ H Q I q => h.run pins s σ H Q I (m σ H Q q)⟩
abbrev tI (K : PySem.W.Frag) (W : WX) (m : SemI) : TI := tX K W (fun _ _ F _ J ts => Wk K F J ts) m
abbrev QI (X : Cx) (W : WX) (tg it : Expr) (m : SemI) : Prop := PI X tg it (tI X.K W m)
theorem wk_list {F : Hp} {a : Addr} {xs : List V} {ts : List T} (h : SqL K F a xs) (d : DpAll K F xs ts) : Wk K F (Itl K a) ts := by
  intro i F' H ff fh
  have hF : SqL K F' a xs := sqL_mono ff h
  have hH : SqL K H a xs := sqL_mono fh hF
  refine ⟨fun t ht => ?_, fun hi => ⟨xs, hH, by rw [dpAll_len d]; exact hi⟩⟩
  obtain ⟨v, hv, dv⟩ := dpAll_get d ht
  refine ⟨⟨xs, v, hH, hv⟩, fun x H' ⟨eH, y⟩ => .inl ⟨eH, ?_⟩⟩
  have := y xs hH
  rw [hv] at this; cases this
  exact dp_mono ff _ _ dv
theorem wk_tup {F : Hp} {a : Addr} {xs : List V} {ts : List T} (h : SqT K F a xs) (d : DpAll K F xs ts) : Wk K F (Itt K a) ts := by
  intro i F' H ff fh
  have hF : SqT K F' a xs := sqT_mono ff h
  have hH : SqT K H a xs := sqT_mono fh hF
  refine ⟨fun t ht => ?_, fun hi => ⟨xs, hH, by rw [dpAll_len d]; exact hi⟩⟩
  obtain ⟨v, hv, dv⟩ := dpAll_get d ht
  refine ⟨⟨xs, v, hH, hv⟩, fun x H' ⟨eH, y⟩ => .inl ⟨eH, ?_⟩⟩
  have := y xs hH
  rw [hv] at this; cases this
  exact dp_mono ff _ _ dv
def iSeq (K : PySem.W.Frag) (tl : TE) : TI := fun σ H R => tl σ H fun x H1 => ∃ a, x = .ref a ∧ (((∃ xs, SqL K H1 a xs) ∧ R (Itl K a) H1) ∨ ((∃ xs, SqT K H1 a xs) ∧ R (Itt K a) H1))
theorem pi_seq {X : Cx} {tg l : Expr} {tl : TE} (hl : PE X l tl) : PI X tg l (iSeq X.K tl) := by
  refine ⟨fun pins s σ H R I h => ?_⟩
  refine thn (hl.run pins s σ H _ I h) fun v s1 ⟨x, H1, I1, r1, q1⟩ => ?_
  obtain ⟨a, e, q⟩ := q1
  subst e
  cases r1
  have fp : ∀ b ∈ [s1.heap.objs.size], FpOk X pins H1 b := fun b hb => by
    have e : b = s1.heap.objs.size := by simpa using hb
    subst e
    exact I1.fpOk (Nat.le_refl _) (I1.hok.fresh (Nat.le_refl _))
  rcases q with ⟨⟨xs, hq⟩, q⟩ | ⟨⟨xs, hq⟩, q⟩
  · obtain ⟨its, rv, p, hz⟩ := I1.list hq
    refine wpAny_pyIter_list p.isList ?_
    exact ⟨s1.heap.objs.size, [s1.heap.objs.size], _, _, H1, rfl, I1.kept (t' := s1.toks) fun b o e => Heap.get?_push_of_some _ e, turn_list a _, ⟨_, Heap.get?_push_size _ rfl, rfl, rfl⟩, fp, q⟩
  · obtain ⟨its, rv, p, hz⟩ := I1.tuple hq
    refine wpAny_pyIter_tuple (show s1.heap.IsTuple a its.toArray from p) ?_
    exact ⟨s1.heap.objs.size, [s1.heap.objs.size], _, _, H1, rfl, I1.kept (t' := s1.toks) fun b o e => Heap.get?_push_of_some _ e, turn_tuple a _, ⟨_, Heap.get?_push_size _ rfl, rfl, rfl⟩, fp, q⟩
/-- the items of a list, of a tuple -/
def iOf (m : SemE) : SemI := fun e => (m e).bind fun r e1 => match esc r e1 with
  | some (.list ts, e2) => .ok ts e2
  | some (.tuple ts, e2) => .ok ts e2
  | _ => .bad
theorem qiof {X : Cx} {tg a : Expr} {ma : SemE} (ha : QE X W a ma) : QI X W tg a (iOf ma) := by
  refine pi_mono (pi_seq ha) fun σ H Q h => ?_
  obtain ⟨e, F, R, h⟩ := h
  refine tX_imp (tX_bind (rel := fun σ => OdR X.K σ) R .refl h) fun x H1 ⟨r, e1, F1, R1, S1, O, h2⟩ => ?_
  cases q : esc r e1 with
  | none => simp only [q] at h2; exact h2.elim
  | some te =>
    obtain ⟨t, e2⟩ := te
    obtain ⟨F2, R2, S2, d, _⟩ := esc_ok R R1 S1 O q
    cases t with
    | list ts =>
      simp only [q] at h2
      cases d with
      | lst hs dd => exact ⟨_, rfl, .inl ⟨⟨_, sqL_mono R2.sub hs⟩, h2 _ F2 H1 R2 S2 (wk_list hs dd)⟩⟩
    | tuple ts =>
      simp only [q] at h2
      cases d with
      | tup hs dd => exact ⟨_, rfl, .inr ⟨⟨_, tupS R2.sub hs⟩, h2 _ F2 H1 R2 S2 (wk_tup (SqT.of hs) dd)⟩⟩
    | none => simp only [q] at h2; exact h2.elim
    | bool _ => simp only [q] at h2; exact h2.elim
    | str _ => simp only [q] at h2; exact h2.elim
    | int _ => simp only [q] at h2; exact h2.elim
    | dict _ => simp only [q] at h2; exact h2.elim
/-- lo, lo + 1, .. -/
def intsT (lo : Int) (n : Nat) : List T := (List.range n).map fun (k : Nat) => .int (lo + (k : Int))
theorem wk_range {F : Hp} {lo : Int} {n : Nat} : Wk K F (Itr lo n) (intsT lo n) := by
  intro i F' H ff fh
  refine ⟨fun t ht => ?_, fun hi => (show n ≤ i by simpa [intsT] using hi)⟩
  have hi : i < n := by have := (List.getElem?_eq_some_iff.mp ht).1; simpa [intsT] using this
  refine ⟨hi, fun x H' ⟨eH, ex⟩ => .inl ⟨eH, ?_⟩⟩
  subst ex
  simp [intsT, hi] at ht
  subst ht
  exact .int _
def iR1 (m : SemA) : SemI := fun e => (m e).bind fun rs e1 => match vals e1 rs with
  | some [.int j] => if -(2 ^ 62) ≤ j ∧ j < 2 ^ 62 then .ok (intsT 0 j.toNat) e1 else .bad
  | _ => .bad
def iR2 (m : SemA) : SemI := fun e => (m e).bind fun rs e1 => match vals e1 rs with
  | some [.int i, .int j] => if -(2 ^ 62) ≤ i ∧ i < 2 ^ 62 ∧ -(2 ^ 62) ≤ j ∧ j < 2 ^ 62 then .ok (intsT i (j - i).toNat) e1 else .bad
  | _ => .bad
theorem qir1 {X : Cx} {tg a : Expr} {m : SemA} {p pos : Pos} (hg : Gl X "range") (hm : X.mg "range" = none) (ha : QA X W [a] m) (hs : starEach [a] X.env = [(false, eval a X.env)] := by rfl) : QI X W tg (.Call (.Name "range" p) [a] [] pos) (iR1 m) := by
  refine pi_mono (pi_range1 hg hm ha hs) fun σ H Q h => ?_
  obtain ⟨e, F, R, h⟩ := h
  refine tX_imp (tX_bind (rel := fun σ Hs F H xs rs => OdsR X.K σ Hs F H rs xs) R .refl h) fun xs H1 ⟨rs, e1, F1, R1, S1, O, h2⟩ => ?_
  split at h2
  · rename_i j q
    have d := vals_ok R1 O q
    split at h2
    · rename_i hl
      cases d with
      | cons a d => cases d; cases a; exact ⟨j, rfl, hl.1, hl.2, h2 _ F1 H1 R1 S1 wk_range⟩
    · exact h2.elim
  · exact h2.elim
/-- pairs -/
def pairs (ts us : List T) : List T := (ts.zip us).map fun p => .tuple [p.1, p.2]
def iZip (m : SemA) : SemI := fun e => (m e).bind fun rs e1 => match escs rs e1 with
  | some ([.list ts, .list us], e2) => .ok (pairs ts us) e2
  | _ => .bad
/-- numbered -/
def enumT (ts : List T) : List T := ts.zipIdx.map fun p => .tuple [.int (p.2 : Nat), p.1]
def iEnu (m : SemA) : SemI := fun e => (m e).bind fun rs e1 => match escs rs e1 with
  | some ([.list ts], e2) => .ok (enumT ts) e2
  | _ => .bad
/-! ### for -/
def forS (g : SemG) (b : SemS) : List T → SemS
  | [], e => .ok .nx e
  | t :: ts, e => match g t e with
    | some e1 => (match b e1 with
      | .ok .nx e2 => forS g b ts e2
      | .ok .ct e2 => forS g b ts e2
      | .ok .bk e2 => .ok .nx e2
      | .ok (.rt r) e2 => .ok (.rt r) e2
      | .exc c t e2 => .exc c t e2
      | .bad => .bad)
    | none => .bad
def sFor (mi : SemI) (g : SemG) (b : SemS) : SemS := fun e => (mi e).bind fun ts e1 => forS g b ts e1
theorem qss_any {X : Cx} {st : List Stmt} {m : SemS} (h : ∀ B, QSs X W B st m) : PSs X st (fun D σ H => ∃ B, tS X.K W B m D σ H) := ⟨fun pins s σ H D I ⟨B, q⟩ => (h B).run pins s σ H D I q⟩
theorem qg_any {X : Cx} {ws : List Nat} {tg : Expr} {g : SemG} (h : ∀ B, QG X B ws tg g) : PG X tg (fun x σ H Q => ∃ B, tG X.K B ws g x σ H Q) := ⟨fun pins s σ H v u Q I r ⟨B, q⟩ => (h B).run pins s σ H v u Q I r q⟩
def LoopN (K : PySem.W.Frag) (W : WX) (B : Bd) (F1 : Hp) (g : SemG) (b : SemS) (D : Ends) (ts : List T) (σ : Sg) (H : Hp) : Prop :=
  ∃ e F, Rel K e σ F H ∧ BOk { B with F := F1 } e σ F H ∧ OutS K W B (forS g b ts e) D
theorem qfor {X : Cx} {ws : List Nat} {tg it : Expr} {body : List Stmt} {mi : SemI} {g : SemG} {b : SemS} {pos : Pos} (hp : PassesOwn (model X.prog X.w) X.A X.env X.xe) (hc : X.calm = true) (hi : QI X W tg it mi) (hg : ∀ B, QG X B ws tg g) (hb : ∀ B, QSs X W B body b)
    (hs : ∀ x, foldedSetIterable it X.env x = pure x := by intro _; rfl) : QS X W B (.For tg it body [] pos) (sFor mi g b) := by
  refine ps_mono (ps_for hp hc hi (qg_any hg) (qss_any hb) hs) fun D σ H h => ?_
  obtain ⟨e, F, R, k, h⟩ := h
  refine tX_imp (tS_bind (rel := fun _ _ F _ J ts => Wk X.K F J ts) R k h) fun J H1 ⟨ts, e1, F1, R1, S1, k1, wk, h1⟩ => ?_
  refine ⟨fun i m σ' H' => m = ts.length - i ∧ i ≤ ts.length ∧ LoopN X.K W B F1 g b D (ts.drop i) σ' H', ⟨_, rfl, Nat.zero_le _, e1, F1, R1, k1.up, h1⟩, ?_⟩
  rintro i m σ' H' ⟨rfl, hi, e2, F2, R2, k2, h2⟩
  obtain ⟨go, stop⟩ := wk i F2 H' k2.ff R2.sub
  by_cases hlt : i < ts.length
  · have ht : ts[i]? = some ts[i] := List.getElem?_eq_getElem hlt
    rw [List.drop_eq_getElem_cons hlt] at h2
    obtain ⟨g1, y1⟩ := go _ ht
    refine .inr ⟨g1, LoopN X.K W B F1 g b D (ts.drop (i + 1)), fun σ3 H3 n => ⟨_, (by omega : ts.length - (i + 1) < ts.length - i), rfl, hlt, n⟩, fun x H3 y => ?_⟩
    simp only [forS] at h2
    cases q : g ts[i] e2 with
    | none => simp only [q] at h2; exact h2.elim
    | some e3 =>
      simp only [q] at h2
      have next : ∀ (F3 : Hp) (σ4 : Sg) (H4 : Hp), Rel X.K e3 σ4 F3 H4 → BOk { B with F := F1 } e3 σ4 F3 H4 → ∃ B', tS X.K W B' b { D with nx := LoopN X.K W B F1 g b D (ts.drop (i + 1)), ct := LoopN X.K W B F1 g b D (ts.drop (i + 1)), bk := D.nx } σ4 H4 := fun F3 σ4 H4 R4 k4 => by
        refine ⟨{ B with F := F1 }, e3, F3, R4, k4, ?_⟩
        cases w : b e3 with
        | bad => rw [w] at h2; exact h2
        | exc c t e5 => rw [w] at h2; exact fun σ5 F5 H5 cls d R5 k5 => h2 σ5 F5 H5 cls d R5 (k1.down k5)
        | ok f e5 =>
          rw [w] at h2
          cases f with
          | nx => exact fun σ5 F5 H5 R5 k5 => ⟨e5, F5, R5, k5, h2⟩
          | ct => exact fun σ5 F5 H5 R5 k5 => ⟨e5, F5, R5, k5, h2⟩
          | bk => exact fun σ5 F5 H5 R5 k5 => h2 σ5 F5 H5 R5 (k1.down k5)
          | rt r => exact fun x σ5 F5 H5 R5 k5 o => h2 x σ5 F5 H5 R5 (k1.down k5) o
      rcases y1 x H3 y with ⟨eH, d⟩ | ⟨p, vs, ws, ex, hp, eH, et, d⟩
      · subst eH
        exact ⟨_, e2, F2, _, e3, R2, k2, d, q, fun σ4 R4 k4 _ => next F2 σ4 _ R4 k4⟩
      · subst eH ex
        have R3 := laid_frz (o := .tup vs) R2 hp
        have S3 := laid_frz_step (o := .tup vs) R2 .refl hp
        have dd : Dp X.K (upd F2 p (.tup vs)) (.ref p) ts[i] := by
          rw [et]
          exact .tup upd_same (dpAll_mono (fun a o h => by rw [upd_ne (ne_of_none h (sub_none R2 hp))]; exact h) d)
        exact ⟨_, e2, _, _, e3, R3, k2.step S3, dd, q, fun σ4 R4 k4 _ => next _ σ4 _ R4 k4⟩
  · have he : i = ts.length := by omega
    subst he
    rw [List.drop_length] at h2
    exact .inl ⟨stop (Nat.le_refl _), h2 _ F2 H' R2 (k1.down k2)⟩
/-! ### while -/
def whileN (c : SemT) (b : SemS) : Nat → SemS
  | 0, _ => .bad
  | n + 1, e => (c e).bind fun k e1 => if k then (match b e1 with
    | .ok .nx e2 => whileN c b n e2
    | .ok .ct e2 => whileN c b n e2
    | .ok .bk e2 => .ok .nx e2
    | .ok (.rt r) e2 => .ok (.rt r) e2
    | .exc c t e2 => .exc c t e2
    | .bad => .bad) else .ok .nx e1
open Classical in
noncomputable def sWhile (c : SemT) (b : SemS) : SemS := fun e => if h : ∃ n, whileN c b n e ≠ .bad then whileN c b (Classical.choose h) e else .bad
theorem whileN_mono {c : SemT} {b : SemS} : ∀ {n : Nat} {e : En} (m : Nat), whileN c b n e ≠ .bad → whileN c b (n + m) e = whileN c b n e
  | 0, _, _, h => absurd rfl h
  | n + 1, e, m, h => by
    rw [Nat.add_right_comm]
    simp only [whileN] at h ⊢
    cases q : c e with
    | bad => rfl
    | exc c' t e' => rfl
    | ok k e1 =>
      rw [q] at h
      simp only [Out.bind] at h ⊢
      cases k with
      | false => rfl
      | true =>
        simp only [if_true] at h ⊢
        cases w : b e1 with
        | bad => rfl
        | exc c' t e' => rfl
        | ok f e2 =>
          rw [w] at h
          cases f with
          | nx => exact whileN_mono m h
          | ct => exact whileN_mono m h
          | bk => rfl
          | rt r => rfl
theorem sWhile_eq {c : SemT} {b : SemS} {n : Nat} {e : En} {o : Out Fl} (h : whileN c b n e = o) (ho : o ≠ .bad) : sWhile c b e = o := by
  have hx : ∃ n, whileN c b n e ≠ .bad := ⟨n, by rw [h]; exact ho⟩
  unfold sWhile
  rw [dif_pos hx]
  have h1 := Classical.choose_spec hx
  have h2 := whileN_mono (Classical.choose hx) (show whileN c b n e ≠ .bad by rw [h]; exact ho)
  have h3 := whileN_mono n h1
  rw [Nat.add_comm] at h3
  rw [← h3, h2, h]
theorem qwhile {X : Cx} {c : Expr} {body : List Stmt} {mc : SemT} {b : SemS} {pos : Pos} (hp : PassesOwn (model X.prog X.w) X.A X.env X.xe) (hc : QT X W c mc) (hb : QSs X W B body b) : QS X W B (.While c body [] pos) (sWhile mc b) := by
  refine ps_mono (ps_while hp hc hb) fun D σ H h => ?_
  obtain ⟨e, F, R, k, h⟩ := h
  by_cases hx : ∃ n, whileN mc b n e ≠ .bad
  · unfold sWhile at h
    rw [dif_pos hx] at h
    refine ⟨fun m σ' H' => ∃ e F, Rel X.K e σ' F H' ∧ BOk B e σ' F H' ∧ OutS X.K W B (whileN mc b m e) D, ⟨_, e, F, R, k, h⟩, ?_⟩
    rintro m σ1 H1 ⟨e1, F1, R1, k1, h1⟩
    cases m with
    | zero => exact h1.elim
    | succ m =>
      refine tX_imp (tS_bind (m := mc) (rel := fun _ _ _ _ (x : Bool) r => x = r) R1 k1 h1) fun x H2 ⟨r, e2, F2, R2, S2, k2, O, h2⟩ => ?_
      subst O
      cases x with
      | false => exact h2 _ _ _ R2 k2
      | true =>
        refine ⟨fun σ' H' => ∃ e F, Rel X.K e σ' F H' ∧ BOk B e σ' F H' ∧ OutS X.K W B (whileN mc b m e) D, fun σ' H' n => ⟨m, Nat.lt_succ_self _, n⟩, e2, F2, R2, k2, ?_⟩
        simp only [if_true] at h2
        cases w : b e2 with
        | bad => rw [w] at h2; exact h2
        | exc c t e5 => rw [w] at h2; exact h2
        | ok f e5 =>
          rw [w] at h2
          cases f with
          | nx => exact fun σ5 F5 H5 R5 k5 => ⟨e5, F5, R5, k5, h2⟩
          | ct => exact fun σ5 F5 H5 R5 k5 => ⟨e5, F5, R5, k5, h2⟩
          | bk => exact h2
          | rt r => exact h2
  · unfold sWhile at h
    rw [dif_neg hx] at h
    exact h.elim
end
end Ev

set_option Elab.async false
set_option linter.all false
set_option maxRecDepth 100000
namespace Ev
open PySem PySem.Spec PyProof.Rows L2
def GOk (ws : List Nat) (g : SemG) : Prop := ∀ t e e', g t e = some e' → e'.length = e.length ∧ ∀ j, e'[j]? = e[j]? ∨ (j ∈ ws ∧ ∃ t, e'[j]? = some (.v t))
def GsOk (ws : List Nat) (g : SemGs) : Prop := ∀ t e e', g t e = some e' → e'.length = e.length ∧ ∀ j, e'[j]? = e[j]? ∨ (j ∈ ws ∧ ∃ t, e'[j]? = some (.v t))
theorem gok_n {ws : List Nat} {i : Nat} (h : i ∈ ws) : GOk ws (gN i) := fun t e e' hg => by
  simp only [gN] at hg
  split at hg
  · cases hg
  · cases hg
    refine ⟨by simp, fun j => ?_⟩
    by_cases q : i = j
    · subst q
      by_cases hi : i < e.length
      · exact .inr ⟨h, t, List.getElem?_set_self hi⟩
      · left; rw [List.getElem?_eq_none (by simpa using hi), List.getElem?_eq_none (by simpa using hi)]
    · exact .inl (List.getElem?_set_ne q)
theorem gsok_nil {ws : List Nat} : GsOk ws gsNil := fun t e e' hg => by
  cases t with
  | nil => cases hg; exact ⟨rfl, fun j => .inl rfl⟩
  | cons _ _ => cases hg
theorem gsok_cons {ws : List Nat} {g : SemG} {gs : SemGs} (h1 : GOk ws g) (h2 : GsOk ws gs) : GsOk ws (gsCons g gs) := fun t e e' hg => by
  cases t with
  | nil => cases hg
  | cons t ts =>
    simp only [gsCons] at hg
    cases q : g t e with
    | none => rw [q] at hg; cases hg
    | some e1 =>
      rw [q] at hg
      obtain ⟨l1, a1⟩ := h1 t e e1 q
      obtain ⟨l2, a2⟩ := h2 ts e1 e' hg
      refine ⟨l2.trans l1, fun j => ?_⟩
      rcases a2 j with z | z
      · rcases a1 j with w | ⟨w, t', w2⟩
        · exact .inl (z.trans w)
        · exact .inr ⟨w, t', z.trans w2⟩
      · exact .inr z
theorem gok_t {ws : List Nat} {n : Nat} {gs : SemGs} (h : GsOk ws gs) : GOk ws (gT n gs) := fun t e e' hg => by
  cases t with
  | tuple ts =>
    simp only [gT] at hg
    split at hg
    · exact h ts e e' hg
    · cases hg
  | _ => cases hg
def wipeE (e : En) : List Nat → En
  | [] => e
  | v :: vs => (wipeE e vs).set v .un
theorem wipeE_len (e : En) : ∀ vs, (wipeE e vs).length = e.length
  | [] => rfl
  | v :: vs => by unfold wipeE; rw [List.length_set, wipeE_len e vs]
theorem wipeE_out {e : En} {j : Nat} : ∀ {vs : List Nat}, j ∉ vs → (wipeE e vs)[j]? = e[j]?
  | [], _ => rfl
  | v :: vs, h => by
    unfold wipeE
    rw [List.getElem?_set_ne (fun z => h (by rw [← z]; exact List.mem_cons_self)), wipeE_out fun z => h (List.mem_cons_of_mem _ z)]
theorem wipeE_in {e : En} {j : Nat} {s : Sl} : ∀ {vs : List Nat}, j ∈ vs → (wipeE e vs)[j]? = some s → s = .un
  | [], h, _ => by cases h
  | v :: vs, h, q => by
    unfold wipeE at q
    by_cases hv : v = j
    · subst hv
      have hl : v < (wipeE e vs).length := by have := (List.getElem?_eq_some_iff.mp q).1; simpa using this
      rw [List.getElem?_set_self hl] at q; cases q; rfl
    · rw [List.getElem?_set_ne hv] at q
      exact wipeE_in ((List.mem_cons.mp h).resolve_left fun z => hv z.symm) q
theorem wipe_out {σ : Sg} {j : Nat} : ∀ {vs : List Nat}, j ∉ vs → (wipe σ vs)[j]? = σ[j]?
  | [], _ => rfl
  | v :: vs, h => by
    unfold wipe
    rw [List.getElem?_set_ne (fun z => h (by rw [← z]; exact List.mem_cons_self)), wipe_out fun z => h (List.mem_cons_of_mem _ z)]
theorem wipe_in {σ : Sg} {j : Nat} {o : Option V} : ∀ {vs : List Nat}, j ∈ vs → (wipe σ vs)[j]? = some o → o = none
  | [], h, _ => by cases h
  | v :: vs, h, q => by
    unfold wipe at q
    by_cases hv : v = j
    · subst hv
      have hl : v < (wipe σ vs).length := by have := (List.getElem?_eq_some_iff.mp q).1; simpa using this
      rw [List.getElem?_set_self hl] at q; cases q; rfl
    · rw [List.getElem?_set_ne hv] at q
      exact wipe_in ((List.mem_cons.mp h).resolve_left fun z => hv z.symm) q
theorem wipe_agree {σ σ2 : Sg} {vs : List Nat} (a : Agree vs (wipe σ vs) σ2) : wipe σ2 vs = wipe σ vs := by
  have l1 : σ2.length = σ.length := a.1.trans (wipe_length σ vs)
  refine List.ext_getElem? fun j => ?_
  by_cases h : j ∈ vs
  · by_cases hj : j < σ.length
    · have h1 : j < (wipe σ2 vs).length := by rw [wipe_length, l1]; exact hj
      have h2 : j < (wipe σ vs).length := by rw [wipe_length]; exact hj
      have q1 := wipe_in h (List.getElem?_eq_getElem h1)
      have q2 := wipe_in h (List.getElem?_eq_getElem h2)
      rw [List.getElem?_eq_getElem h1, List.getElem?_eq_getElem h2, q1, q2]
    · rw [List.getElem?_eq_none (by rw [wipe_length, l1]; omega), List.getElem?_eq_none (by rw [wipe_length]; omega)]
  · rw [wipe_out h, a.2 j h]
def restE (e e2 : En) : List Nat → En
  | [] => e2
  | v :: vs => (restE e e2 vs).set v ((e[v]?).getD .un)
theorem restE_len (e e2 : En) : ∀ vs, (restE e e2 vs).length = e2.length
  | [] => rfl
  | v :: vs => by unfold restE; rw [List.length_set, restE_len e e2 vs]
theorem restE_out {e e2 : En} {j : Nat} : ∀ {vs : List Nat}, j ∉ vs → (restE e e2 vs)[j]? = e2[j]?
  | [], _ => rfl
  | v :: vs, h => by
    unfold restE
    rw [List.getElem?_set_ne (fun z => h (by rw [← z]; exact List.mem_cons_self)), restE_out fun z => h (List.mem_cons_of_mem _ z)]
theorem restE_in {e e2 : En} {j : Nat} (hl : e2.length = e.length) : ∀ {vs : List Nat}, j ∈ vs → (restE e e2 vs)[j]? = e[j]?
  | [], h => by cases h
  | v :: vs, h => by
    unfold restE
    by_cases hv : v = j
    · subst hv
      by_cases hj : v < e.length
      · rw [List.getElem?_set_self (by rw [restE_len, hl]; exact hj), List.getElem?_eq_getElem hj]; rfl
      · rw [List.getElem?_eq_none (by rw [List.length_set, restE_len, hl]; omega), List.getElem?_eq_none (by omega)]
    · rw [List.getElem?_set_ne hv]
      exact restE_in hl ((List.mem_cons.mp h).resolve_left fun z => hv z.symm)
section
variable {K : PySem.W.Frag} {W : WX} {B : Bd} {e e1 e2 : En} {σ σ1 : Sg} {F H F1 H1 F2 H2 : Hp}
theorem wipe_rel {vs : List Nat} (R : Rel K e σ F H) : Rel K (wipeE e vs) (wipe σ vs) F H := by
  have get : ∀ (j : Nat) (s : Sl), (wipeE e vs)[j]? = some s → s = .un ∨ (j ∉ vs ∧ e[j]? = some s) := fun j s h => by
    by_cases q : j ∈ vs
    · exact .inl (wipeE_in q h)
    · rw [wipeE_out q] at h; exact .inr ⟨q, h⟩
  refine ⟨R.sub, by rw [wipeE_len, wipe_length]; exact R.len, fun j s o h1 h2 => ?_, fun j j' l b l' b' p h1 h2 h3 h4 => ?_⟩
  · rcases get j s h1 with rfl | ⟨q, h⟩
    · trivial
    · rw [wipe_out q] at h2; exact R.at_ j s o h h2
  · rcases get j _ h1 with z | ⟨q, g1⟩
    · cases z
    · rcases get j' _ h2 with z | ⟨q', g2⟩
      · cases z
      · rw [wipe_out q] at h3; rw [wipe_out q'] at h4; exact R.ne j j' l b l' b' p g1 g2 h3 h4
theorem upd_at {D : Addr} {o o' : HO} (R : Rel K e σ F H) (hH : H D = some o) (hf : F D = none) (no : ¬ Own e σ D) : Rel K e σ F (upd H D o') := by
  refine ⟨fun a u h => ?_, R.len, fun i s u h1 h2 => ?_, R.ne⟩
  · have ne : a ≠ D := fun z => by subst z; rw [hf] at h; cases h
    rw [upd_ne ne]; exact R.sub _ _ h
  · have z := R.at_ i s u h1 h2
    cases s with
    | un => trivial
    | v t => exact z
    | fz b => exact z
    | ow l b =>
      obtain ⟨p, ep, hf', bx⟩ := z
      have np : p ≠ D := fun w => no ⟨i, l, b, h1, by rw [h2, ep, w]⟩
      exact ⟨p, ep, hf', bx_keep bx (fun _ _ h => h) fun o h => by rw [upd_ne np]; exact h⟩
theorem step_upd {D : Addr} {o' : HO} (S : Step e e1 σ F H F1 H1) (hD : H D = none) : Step e e1 σ F H F1 (upd H1 D o') := by
  have ne : ∀ a u, H a = some u → a ≠ D := fun a u h z => by subst z; rw [hD] at h; cases h
  exact ⟨S.ff, fun a u h n => ⟨by rw [upd_ne (ne a u h)]; exact (S.keep a u h n).1, (S.keep a u h n).2⟩, fun a u h => by rw [upd_ne (ne a u h)]; exact S.dom a u h, S.own, S.lt, S.sk⟩
/-- a bound that says nothing -/
def bd0 (e : En) (σ : Sg) : Bd := ⟨e, σ, fun _ => none, fun _ => none⟩
theorem bok0 {e : En} {σ : Sg} {F H : Hp} : BOk (bd0 e σ) e σ F H :=
  ⟨(fun _ _ h => nomatch h), (fun _ _ h => nomatch h), (fun _ _ h => nomatch h), (fun _ _ _ _ _ => rfl), (fun i b h => ⟨rfl, b, h⟩), (fun i b h => ⟨⟨b, .inl h⟩, rfl⟩)⟩
/-- behind a turn of a comprehension -/
theorem rest_rel {vs : List Nat} {e4 : En} {σ2 : Sg} {F4 H4 : Hp} (R : Rel K e σ F H) (h1 : e1.length = e.length) (a1 : ∀ j, e1[j]? = (wipeE e vs)[j]? ∨ (j ∈ vs ∧ ∃ t, e1[j]? = some (.v t))) (ag : Agree vs (wipe σ vs) σ2)
    (R4 : Rel K e4 σ2 F4 H4) (S : Step e1 e4 σ2 F H F4 H4) : Rel K (restE e e4 vs) σ F4 H4 ∧ Step e (restE e e4 vs) σ F H F4 H4 := by
  have sg : ∀ j, j ∉ vs → σ2[j]? = σ[j]? := fun j h => by rw [ag.2 j h, wipe_out h]
  have l2 : σ2.length = σ.length := ag.1.trans (wipe_length σ vs)
  have l4 : e4.length = e.length := by rw [R4.len, l2, ← R.len]
  have in1 : ∀ (j : Nat) (l : Bool) (b : Bx), e1[j]? = some (.ow l b) → j ∉ vs ∧ e[j]? = some (.ow l b) := fun j l b h => by
    by_cases q : j ∈ vs
    · rcases a1 j with z | ⟨_, t, z⟩
      · rw [h] at z; exact nomatch wipeE_in q z.symm
      · rw [h] at z; cases z
    · rcases a1 j with z | ⟨q', _⟩
      · rw [h, wipeE_out q] at z; exact ⟨q, z.symm⟩
      · exact absurd q' q
  have own1 : ∀ p, Own e1 σ2 p → Own e σ p := fun p ⟨j, l, b, q1, q2⟩ => by
    obtain ⟨n, q⟩ := in1 j l b q1
    exact ⟨j, l, b, q, by rw [← sg j n]; exact q2⟩
  have get : ∀ (j : Nat) (s : Sl), (restE e e4 vs)[j]? = some s → (j ∈ vs ∧ e[j]? = some s) ∨ (j ∉ vs ∧ e4[j]? = some s) := fun j s h => by
    by_cases q : j ∈ vs
    · rw [restE_in l4 q] at h; exact .inl ⟨q, h⟩
    · rw [restE_out q] at h; exact .inr ⟨q, h⟩
  have kind : SameKinds e (restE e e4 vs) := fun j l b h => by
    rcases get j _ h with ⟨_, q⟩ | ⟨n, q⟩
    · exact ⟨b, q⟩
    · obtain ⟨b', q'⟩ := S.sk j l b q
      exact ⟨b', (in1 j l b' q').2⟩
  refine ⟨⟨R4.sub, by rw [restE_len, l4]; exact R.len, fun j s o g1 g2 => ?_, fun j j' l b l' b' p g1 g2 g3 g4 => ?_⟩, ⟨S.ff, fun a o h n => S.keep a o h fun z => n (own1 a z), S.dom, fun p ⟨j, l, b, g1, g2⟩ => ?_, fun j hj => ?_, kind⟩⟩
  · rcases get j s g1 with ⟨q, g⟩ | ⟨q, g⟩
    · have w := R.at_ j s o g g2
      cases s with
      | un => trivial
      | v t => obtain ⟨y, ey, d⟩ := w; exact ⟨y, ey, dp_mono S.ff _ _ d⟩
      | fz b => obtain ⟨y, ey, d⟩ := w; exact ⟨y, ey, dp_mono S.ff _ _ d⟩
      | ow l b =>
        obtain ⟨p, ep, hf, bx⟩ := w
        subst ep
        obtain ⟨u, hu⟩ := bx_some bx
        have na : ¬ Own e1 σ2 p := fun ⟨j', l', b', q1, q2⟩ => by
          obtain ⟨n, q3⟩ := in1 j' l' b' q1
          have := R.ne j' j l' b' l b p q3 g (by rw [← sg j' n]; exact q2) g2
          subst this
          exact n q
        obtain ⟨k1, k2⟩ := S.keep p u hu na
        exact ⟨p, rfl, k2 hf, bx_keep bx S.ff fun o' h' => by rw [hu] at h'; cases h'; exact k1⟩
    · rw [← sg j q] at g2; exact R4.at_ j s o g g2
  · obtain ⟨b1, q1⟩ := kind j l b g1
    obtain ⟨b2, q2⟩ := kind j' l' b' g2
    exact R.ne j j' l b1 l' b2 p q1 q2 g3 g4
  · obtain ⟨b1, q1⟩ := kind j l b g1
    exact ⟨j, l, b1, q1, g2⟩
  · by_cases q : j ∈ vs
    · obtain ⟨b, w⟩ := hj
      exact ⟨b, by rw [restE_in l4 q]; exact w⟩
    · have : Lent e1 j := by
        obtain ⟨b, w⟩ := hj
        rcases a1 j with z | ⟨q', _⟩
        · exact ⟨b, by rw [z, wipeE_out q]; exact w⟩
        · exact absurd q' q
      obtain ⟨b, w⟩ := S.lt j this
      exact ⟨b, by rw [restE_out q]; exact w⟩
end
/-! ### comprehensions -/
/-- nothing raised -/
def Out.nx {α : Type} : Out α → Out α
  | .exc _ _ _ => .bad
  | o => o
def compS (g : SemG) (c : SemT) (m : SemE) (vs : List Nat) : List T → List T → SemE
  | [], acc, e => .ok (.b (.l acc)) e
  | t :: ts, acc, e => match g t (wipeE e vs) with
    | some e1 => (c e1).nx.bind fun k e2 => if k then (m e2).nx.bind fun r e3 => (match esc r e3 with
        | some (u, e4) => if acc.length < sizeLine then compS g c m vs ts (acc ++ [u]) (restE e e4 vs) else .bad
        | none => .bad)
      else compS g c m vs ts acc (restE e e2 vs)
    | none => .bad
def eComp (mi : SemI) (g : SemG) (c : SemT) (m : SemE) (vs : List Nat) : SemE := fun e => (mi e).bind fun ts e1 => compS g c m vs ts [] e1
abbrev W0 : WX := fun _ _ _ _ => False
theorem tX_nx {α β : Type} {K : PySem.W.Frag} {rel : Sg → Hp → Hp → Hp → β → α → Prop} {m : En → Out α} {e1 e2 : En} {r : α} {σ : Sg} {F1 H1 : Hp} {Q : β → Hp → Prop} (R1 : Rel K e1 σ F1 H1) (w : m e1 = .ok r e2)
    (hq : ∀ x F2 H2, Rel K e2 σ F2 H2 → Step e1 e2 σ F1 H1 F2 H2 → rel σ H1 F2 H2 x r → Q x H2) : tX K W0 rel m σ H1 Q := by
  refine ⟨e1, F1, R1, ?_⟩
  rw [w]
  exact fun x F' H' R' S' O => hq x F' H' R' S' O
/-- the reading of a comprehension's walk, from a state on -/
structure CompN (K : PySem.W.Frag) (W : WX) (F1 : Hp) (g : SemG) (c : SemT) (m : SemE) (vs : List Nat) (e0 : En) (F0 H0 : Hp) (σ : Sg) (D : Addr) (Q : VK) (ts : List T) (H : Hp) : Prop where
  ex : ∃ e F acc accV, Rel K e σ F H ∧ Step e0 e σ F0 H0 F H ∧ (∀ a o, F1 a = some o → F a = some o) ∧ F D = none ∧ H D = some (.lst accV) ∧ DpAll K F accV acc ∧ OutX K W (OdR K σ) (compS g c m vs ts acc e) e0 σ F0 H0 Q
theorem comp_read {K : PySem.W.Frag} {W : WX} {mi : SemI} {g : SemG} {c : SemT} {m : SemE} {vs : List Nat} {σ : Sg} {H : Hp} {Q : VK} (hk : GOk vs g) (h : tE K W (eComp mi g c m vs) σ H Q) :
    tLc (tI K W mi) (fun x σ H Q => ∃ B, tG K B vs g x σ H Q) (tT K W0 c) (tE K W0 m) vs σ H Q := by
  obtain ⟨e0, F0, R0, h⟩ := h
  refine tX_imp (tX_bind (rel := fun _ _ F _ J ts => Wk K F J ts) R0 .refl h) fun J H1 ⟨ts, e1, F1, R1, S1, wk, h1⟩ => ?_
  intro D hD
  have hD0 : H D = none := step_none S1 hD
  have hDF : F1 D = none := sub_none R1 hD
  have ff0 : ∀ a o, F1 a = some o → F1 a = some o := fun _ _ h => h
  refine ⟨fun i n H' => n = ts.length - i ∧ i ≤ ts.length ∧ CompN K W F1 g c m vs e0 F0 H σ D Q (ts.drop i) H', ⟨_, rfl, Nat.zero_le _, ⟨e1, F1, [], [], laid_own R1 hD, S1.trans (laid_own_step hD), ff0, hDF, upd_same, .nil, h1⟩⟩, ?_⟩
  rintro i n H' ⟨rfl, hi, ⟨e2, F2, acc, accV, R2, S2, ff2, hf, hH, d, h2⟩⟩
  obtain ⟨go, stop⟩ := wk i F2 H' ff2 R2.sub
  by_cases hlt : i < ts.length
  · have ht : ts[i]? = some ts[i] := List.getElem?_eq_getElem hlt
    rw [List.drop_eq_getElem_cons hlt] at h2
    obtain ⟨g1, y1⟩ := go _ ht
    refine .inr ⟨g1, CompN K W F1 g c m vs e0 F0 H σ D Q (ts.drop (i + 1)), fun H3 n => ⟨_, (by omega : ts.length - (i + 1) < ts.length - i), rfl, hlt, n⟩, fun x H3 y => ?_⟩
    simp only [compS] at h2
    cases q : g ts[i] (wipeE e2 vs) with
    | none => simp only [q] at h2; exact h2.elim
    | some e3 =>
      simp only [q] at h2
      obtain ⟨l3, a3⟩ := hk _ _ _ q
      have l3 : e3.length = e2.length := l3.trans (wipeE_len e2 vs)
      have D0 : ∀ {e F H3}, Step e0 e σ F0 H F H3 → ¬ Own e σ D := fun S => fresh_not_own R0 S hD0
      -- behind the target
      have next : ∀ (F3 : Hp) (H3 : Hp) (σ2 : Sg), Rel K e2 σ F3 H3 → Step e0 e2 σ F0 H F3 H3 → (∀ a o, F1 a = some o → F3 a = some o) → F3 D = none → H3 D = some (.lst accV) → DpAll K F3 accV acc → Rel K e3 σ2 F3 H3 → Agree vs (wipe σ vs) σ2 →
          wipe σ2 vs = wipe σ vs ∧ tT K W0 c σ2 H3 fun b H4 => if b = true then tE K W0 m σ2 H4 fun y H5 => ∃ acc, H5 D = some (.lst acc) ∧ acc.length < sizeLine ∧ CompN K W F1 g c m vs e0 F0 H σ D Q (ts.drop (i + 1)) (upd H5 D (.lst (acc ++ [y]))) else CompN K W F1 g c m vs e0 F0 H σ D Q (ts.drop (i + 1)) H4 := by
        intro F3 H3 σ2 R3 S3 ff3 hf3 hH3 d3 RB ag
        refine ⟨wipe_agree ag, ?_⟩
        have noD : ¬ Own e3 σ2 D := fun ⟨j, l, b, q1, q2⟩ => by
          have n : j ∉ vs ∧ e2[j]? = some (.ow l b) := by
            by_cases qv : j ∈ vs
            · rcases a3 j with z | ⟨_, t, z⟩
              · rw [q1] at z; exact absurd (wipeE_in qv z.symm) (by intro w; cases w)
              · rw [q1] at z; cases z
            · rcases a3 j with z | ⟨q', _⟩
              · rw [q1, wipeE_out qv] at z; exact ⟨qv, z.symm⟩
              · exact absurd q' qv
          exact D0 S3 ⟨j, l, b, n.2, by rw [← wipe_out n.1, ← ag.2 j n.1]; exact q2⟩
        cases wc : c e3 with
        | bad => rw [wc] at h2; exact h2.elim
        | exc _ _ _ => rw [wc] at h2; exact h2.elim
        | ok k e4 =>
        rw [wc] at h2
        have h4 : OutX K W (OdR K σ) (if k = true then (m e4).nx.bind fun r e5 => (match esc r e5 with
            | some (u, e6) => if acc.length < sizeLine then compS g c m vs (ts.drop (i + 1)) (acc ++ [u]) (restE e2 e6 vs) else .bad
            | none => .bad) else compS g c m vs (ts.drop (i + 1)) acc (restE e2 e4 vs)) e0 σ F0 H Q := h2
        refine tX_nx RB wc fun b F4 H4 R4 S4 eb => ?_
        subst eb
        obtain ⟨hD4, fD4⟩ := S4.keep D _ hH3 noD
        have fD4 := fD4 hf3
        cases b with
        | false =>
          obtain ⟨R', S'⟩ := rest_rel R3 l3 a3 ag R4 S4
          exact ⟨restE e2 e4 vs, F4, acc, accV, R', S3.trans S', fun a o h => S4.ff _ _ (ff3 _ _ h), fD4, hD4, dpAll_mono S4.ff d3, h4⟩
        | true =>
          simp only [if_true] at h4
          rw [if_pos rfl]
          cases wm : m e4 with
          | bad => rw [wm] at h4; exact h4.elim
          | exc _ _ _ => rw [wm] at h4; exact h4.elim
          | ok r e5 =>
          rw [wm] at h4
          have h5 : OutX K W (OdR K σ) (match esc r e5 with
            | some (u, e6) => if acc.length < sizeLine then compS g c m vs (ts.drop (i + 1)) (acc ++ [u]) (restE e2 e6 vs) else .bad
            | none => .bad) e0 σ F0 H Q := h4
          refine tX_nx R4 wm fun y F5 H5 R5 S5 O5 => ?_
          obtain ⟨hD5, fD5⟩ := S5.keep D _ hD4 (fun z => noD (S4.own _ z))
          have fD5 := fD5 fD4
          cases w : esc r e5 with
          | none => simp only [w] at h5; exact h5.elim
          | some te =>
            obtain ⟨u, e6⟩ := te
            simp only [w] at h5
            obtain ⟨F6, R6, S6, d6, _, only⟩ := esc_ok R4 R5 S5 O5 w
            by_cases hl : acc.length < sizeLine
            · rw [if_pos hl] at h5
              obtain ⟨R', S'⟩ := rest_rel R3 l3 a3 ag R6 (S4.trans S6)
              have dd : DpAll K F6 (accV ++ [y]) (acc ++ [u]) := dpAll_app (dpAll_mono (fun a o h => S6.ff _ _ (S4.ff _ _ h)) d3) (.cons d6 .nil)
              have fD6 : F6 D = none := (S6.keep D _ hD4 (fun z => noD (S4.own _ z))).2 fD4
              refine ⟨accV, hD5, by rw [dpAll_len d3]; exact hl, ⟨restE e2 e6 vs, F6, acc ++ [u], accV ++ [y], upd_at R' hD5 fD6 (D0 (S3.trans S')), ?_, fun a o h => S6.ff _ _ (S4.ff _ _ (ff3 _ _ h)), fD6, upd_same, dd, h5⟩⟩
              exact step_upd (S3.trans S') hD0
            · rw [if_neg hl] at h5; exact h5.elim
      have Rw := wipe_rel (vs := vs) R2
      rcases y1 x H3 y with ⟨eH, dx⟩ | ⟨p, xs, ws, ex, hp, eH, et, dx⟩
      · subst eH
        exact ⟨bd0 _ _, wipeE e2 vs, F2, _, e3, Rw, bok0, dx, q, fun σ2 R' _ ag => next F2 _ σ2 R2 S2 ff2 hf hH d R' ag⟩
      · subst eH ex
        have ff3 : ∀ a o, F2 a = some o → upd F2 p (.tup xs) a = some o := fun a o h => by rw [upd_ne (ne_of_none h (sub_none R2 hp))]; exact h
        have nD : D ≠ p := ne_of_none hH hp
        have R3 := laid_frz (o := .tup xs) R2 hp
        have S3 := laid_frz_step (o := .tup xs) R2 S2 hp
        have dd : Dp K (upd F2 p (.tup xs)) (.ref p) ts[i] := by
          rw [et]
          exact .tup upd_same (dpAll_mono ff3 dx)
        exact ⟨bd0 _ _, wipeE e2 vs, _, _, e3, wipe_rel R3, bok0, dd, q, fun σ2 R' _ ag => next _ _ σ2 R3 S3 (fun a o h => ff3 _ _ (ff2 _ _ h)) (by rw [upd_ne nD]; exact hf) (by rw [upd_ne nD]; exact hH) (dpAll_mono ff3 d) R' ag⟩
  · have he : i = ts.length := by omega
    subst he
    rw [List.drop_length] at h2
    exact .inl ⟨stop (Nat.le_refl _), h2 _ F2 H' R2 S2 ⟨D, rfl, hD0, hf, accV, hH, d⟩⟩
end Ev

set_option Elab.async false
set_option linter.all false
set_option maxRecDepth 100000
namespace Ev
open PySem PySem.Spec PyProof.Rows L2
section
variable {X : Cx} {W : WX} {a b c : Expr} {ma mb mc : SemE} {pos : Pos}
abbrev tTrue : SemT := fun e => .ok true e
abbrev QTs (X : Cx) (W : WX) (ex : List Expr) (m : SemT) : Prop := PTs X ex (tT X.K W m)
theorem qtsnil : QTs X W [] tTrue := ⟨fun pins s σ H Q I ⟨e, F, R, h⟩ => pts_nil.run pins s σ H Q I (h true F H R .refl rfl)⟩
theorem qtsone {t : SemT} (h : QT X W c t) : QTs X W [c] t := pts_one h
theorem qcomp {elt tg iter : Expr} {ifs : List Expr} {scope : Scope} {own : List (Str × Nat)} {vs : List Nat} {mi : SemI} {g : SemG} {t : SemT} {m : SemE} (hc : X.calm = true) (hN : X.N.Nodup) (hi : QI X W tg iter mi) (ok : BlkOk X.N X.env.scope scope own) (hk : GOk vs g) (hvs : own.map (·.2) = vs)
    (hg : ∀ (s : Shared) (H : Hp) (C : Addr) (cl : List (Str × Addr)) (fp : List Addr) (B : Bd), QG (X.blk s H scope (compEnvC scope cl C X.env) fp) B vs tg g) (ht : ∀ (s : Shared) (H : Hp) (C : Addr) (cl : List (Str × Addr)) (fp : List Addr), QTs (X.blk s H scope (compEnvC scope cl C X.env) fp) W0 ifs t)
    (he : ∀ (s : Shared) (H : Hp) (C : Addr) (cl : List (Str × Addr)) (fp : List Addr), QE (X.blk s H scope (compEnvC scope cl C X.env) fp) W0 elt m) (hs : ∀ x, foldedSetIterable iter X.env x = pure x := by intro _; rfl) :
    QE X W (.ListComp elt [⟨tg, iter, ifs, 0⟩] scope pos) (eComp mi g t m vs) := by
  subst hvs
  exact pe_mono (pe_lc hc hN hi ok (fun s H C cl fp => qg_any (hg s H C cl fp)) ht he hs) fun σ H Q h => comp_read hk h
theorem qsetcomp {B : Bd} {i : Nat} {y : Str} {py : Pos} {elt tg iter : Expr} {ifs : List Expr} {scope : Scope} {own : List (Str × Nat)} {spos : Pos} {vs : List Nat} {mi : SemI} {g : SemG} {t : SemT} {m : SemE} (hc : X.calm = true) (hN : X.N.Nodup) (hy : X.N[i]? = some y) (hyl : X.env.scope.names.lookup y = some .local)
    (hsw : swapsWith (.ListComp elt [⟨tg, iter, ifs, 0⟩] scope pos) (some (.Name y py)) spos.line X.env = pure true) (hi : QI X W tg iter mi) (ok : BlkOk X.N X.env.scope scope own) (hk : GOk vs g) (hvs : own.map (·.2) = vs)
    (hg : ∀ (s : Shared) (H : Hp) (C : Addr) (cl : List (Str × Addr)) (fp : List Addr) (B : Bd), QG (X.blk s H scope (compEnvC scope cl C X.env) fp) B vs tg g) (ht : ∀ (s : Shared) (H : Hp) (C : Addr) (cl : List (Str × Addr)) (fp : List Addr), QTs (X.blk s H scope (compEnvC scope cl C X.env) fp) W0 ifs t)
    (he : ∀ (s : Shared) (H : Hp) (C : Addr) (cl : List (Str × Addr)) (fp : List Addr), QE (X.blk s H scope (compEnvC scope cl C X.env) fp) W0 elt m) (hs : ∀ x, foldedSetIterable iter X.env x = pure x := by intro _; rfl) :
    QS X W B (.Assign [.Name y py] (.ListComp elt [⟨tg, iter, ifs, 0⟩] scope pos) spos) (sSet i (eComp mi g t m vs)) := by
  subst hvs
  exact ps_mono (ps_setLc hc hN hy hyl hsw hi ok (fun s H C cl fp => qg_any (hg s H C cl fp)) ht he hs) fun D σ H h => comp_read hk (asg_read h)
end
/-! ### a def -/
def okArg : Sl → Bool
  | .v _ => true
  | .ow true _ => true
  | _ => false
def finE : List Sl → En → List Sl
  | .ow true z :: ss, s' :: es => s' :: finE ss es
  | s :: ss, _ :: es => s :: finE ss es
  | ss, [] => ss
  | [], _ => []
def runFn (n : Nat) (b : SemS) : FSem := fun ss => if ss.all okArg then (match b (ss ++ List.replicate (n - ss.length) .un) with
  | .ok .nx e' => .ok (.r .none) (finE ss e')
  | .ok (.rt r) e' => .ok r (finE ss e')
  | .exc c t e' => .exc c t (finE ss e')
  | _ => .bad) else .bad
theorem finE_len : ∀ (ss : List Sl) (es : En), (finE ss es).length = ss.length
  | [], [] => rfl
  | [], _ :: _ => rfl
  | .un :: ss, [] => rfl
  | .v _ :: ss, [] => rfl
  | .fz _ :: ss, [] => rfl
  | .ow true _ :: ss, [] => rfl
  | .ow false _ :: ss, [] => rfl
  | .un :: ss, _ :: es => by simp [finE, finE_len ss es]
  | .v _ :: ss, _ :: es => by simp [finE, finE_len ss es]
  | .fz _ :: ss, _ :: es => by simp [finE, finE_len ss es]
  | .ow true _ :: ss, _ :: es => by simp [finE, finE_len ss es]
  | .ow false _ :: ss, _ :: es => by simp [finE, finE_len ss es]
theorem finE_get : ∀ {ss : List Sl} {es : En} {j : Nat} {s : Sl}, ss[j]? = some s → ((∃ z, s = .ow true z) → j < es.length) → (∃ z, s = .ow true z ∧ (finE ss es)[j]? = es[j]?) ∨ ((∀ z, s ≠ .ow true z) ∧ (finE ss es)[j]? = some s)
  | [], _, _, _, h, _ => by simp at h
  | s0 :: ss, [], j, s, h, hl => by
    have e : finE (s0 :: ss) [] = s0 :: ss := by
      cases s0 with
      | ow l z => cases l <;> rfl
      | un => rfl
      | v _ => rfl
      | fz _ => rfl
    refine .inr ⟨fun z ez => ?_, by rw [e]; exact h⟩
    have := hl ⟨z, ez⟩
    simp at this
  | s :: ss, s' :: es, 0, _, h, _ => by
    simp at h; subst h
    cases s with
    | ow l z => cases l with
      | true => exact .inl ⟨z, rfl, rfl⟩
      | false => exact .inr ⟨fun z h => (by cases h), rfl⟩
    | un => exact .inr ⟨fun z h => (by cases h), rfl⟩
    | v _ => exact .inr ⟨fun z h => (by cases h), rfl⟩
    | fz _ => exact .inr ⟨fun z h => (by cases h), rfl⟩
  | s :: ss, s' :: es, j + 1, _, h, hl => by
    have ih := finE_get (ss := ss) (es := es) (j := j) (by simpa using h) (fun q => by have := hl q; simpa using this)
    have e : (finE (s :: ss) (s' :: es))[j + 1]? = (finE ss es)[j]? := by
      cases s with
      | ow l z => cases l <;> simp [finE]
      | un => simp [finE]
      | v _ => simp [finE]
      | fz _ => simp [finE]
    rw [e]
    simpa using ih
section
variable {K : PySem.W.Frag} {F H : Hp}
theorem start_rel {N : List Str} {vs : List V} {ss : List Sl} (R : Rel K ss (vs.map some) F H) : Rel K (ss ++ List.replicate (N.length - ss.length) .un) (start N vs) F H := by
  have hl : ss.length = vs.length := by have := R.len; simpa using this
  have get : ∀ (j : Nat) (s : Sl), (ss ++ List.replicate (N.length - ss.length) Sl.un)[j]? = some s → (j < ss.length ∧ ss[j]? = some s) ∨ s = .un := fun j s h => by
    by_cases q : j < ss.length
    · rw [List.getElem?_append_left q] at h; exact .inl ⟨q, h⟩
    · rw [List.getElem?_append_right (by omega)] at h
      have := List.mem_of_getElem? h
      exact .inr (List.eq_of_mem_replicate this)
  have sg : ∀ j, j < ss.length → (start N vs)[j]? = (vs.map some)[j]? := fun j h => by
    unfold L2.start
    rw [List.getElem?_append_left (by simp; omega)]
  refine ⟨R.sub, by unfold L2.start; simp [hl], fun j s o h1 h2 => ?_, fun j j' l b l' b' p h1 h2 h3 h4 => ?_⟩
  · rcases get j s h1 with ⟨q, h⟩ | rfl
    · rw [sg j q] at h2; exact R.at_ j s o h h2
    · trivial
  · rcases get j _ h1 with ⟨q, g1⟩ | z
    · rcases get j' _ h2 with ⟨q', g2⟩ | z
      · rw [sg j q] at h3; rw [sg j' q'] at h4; exact R.ne j j' l b l' b' p g1 g2 h3 h4
      · cases z
    · cases z
theorem fin_rel {N : List Str} {vs : List V} {ss : List Sl} {e' : En} {σ' : Sg} {F' H' : Hp} (R : Rel K ss (vs.map some) F H) (R' : Rel K e' σ' F' H') (k : BOk ⟨ss ++ List.replicate (N.length - ss.length) .un, start N vs, F, H⟩ e' σ' F' H')
    (ha : ss.all okArg = true) : Rel K (finE ss e') (vs.map some) F' H' ∧ Step ss (finE ss e') (vs.map some) F H F' H' := by
  have hl : ss.length = vs.length := by have := R.len; simpa using this
  have sg : ∀ j, j < ss.length → (start N vs)[j]? = (vs.map some)[j]? := fun j h => by
    unfold L2.start
    rw [List.getElem?_append_left (by simp; omega)]
  have e0 : ∀ j, j < ss.length → (ss ++ List.replicate (N.length - ss.length) Sl.un)[j]? = ss[j]? := fun j h => List.getElem?_append_left h
  have lentLt : ∀ (j : Nat) (z : Bx), ss[j]? = some (.ow true z) → j < e'.length := fun j z h => by
    have hj := (List.getElem?_eq_some_iff.mp h).1
    obtain ⟨⟨b, q⟩, _⟩ := k.lent j z (by show (ss ++ _)[j]? = _; rw [e0 j hj, h])
    rcases q with q | q
    · exact (List.getElem?_eq_some_iff.mp q).1
    · exact (List.getElem?_eq_some_iff.mp q).1
  have get : ∀ (j : Nat) (s : Sl), (finE ss e')[j]? = some s → ∃ s0, ss[j]? = some s0 ∧ j < ss.length ∧ ((∃ z, s0 = .ow true z ∧ e'[j]? = some s ∧ Lent e' j ∧ σ'[j]? = (vs.map some)[j]?) ∨ (s = s0 ∧ ∃ t, s = .v t)) := fun j s h => by
    have hj : j < ss.length := by have := (List.getElem?_eq_some_iff.mp h).1; rw [finE_len] at this; exact this
    have hs : ss[j]? = some ss[j] := List.getElem?_eq_getElem hj
    refine ⟨_, hs, hj, ?_⟩
    rcases finE_get (es := e') hs (fun ⟨z, q⟩ => lentLt j z (by rw [hs, q])) with ⟨z, q, w⟩ | ⟨q, w⟩
    · have hL := k.lent j z (by show (ss ++ _)[j]? = _; rw [e0 j hj, hs, q])
      exact .inl ⟨z, q, by rw [← w, h], hL.1, by rw [hL.2]; exact sg j hj⟩
    · rw [h] at w
      cases w
      have hm : okArg ss[j] = true := List.all_eq_true.mp ha _ (List.getElem_mem hj)
      cases w2 : ss[j] with
      | v t => exact .inr ⟨rfl, t, rfl⟩
      | un => rw [w2] at hm; cases hm
      | fz _ => rw [w2] at hm; cases hm
      | ow l z => cases l with
        | true => exact absurd w2 (q z)
        | false => rw [w2] at hm; cases hm
  have kind : SameKinds ss (finE ss e') := fun j l b h => by
    obtain ⟨s0, h0, hj, q⟩ := get j _ h
    rcases q with ⟨z, ez, he, ⟨b', lent⟩, _⟩ | ⟨_, t, et⟩
    · rw [he] at lent
      rcases lent with lent | lent
      · cases lent; exact ⟨z, by rw [h0, ez]⟩
      · cases lent
    · cases et
  have owB : ∀ a, Own (ss ++ List.replicate (N.length - ss.length) .un) (start N vs) a → Own ss (vs.map some) a := fun a ⟨j, l, b, h1, h2⟩ => by
    by_cases q : j < ss.length
    · rw [e0 j q] at h1; rw [sg j q] at h2; exact ⟨j, l, b, h1, h2⟩
    · rw [List.getElem?_append_right (by omega)] at h1
      have := List.eq_of_mem_replicate (List.mem_of_getElem? h1)
      cases this
  refine ⟨⟨R'.sub, by rw [finE_len, hl]; simp, fun j s o g1 g2 => ?_, fun j j' l b l' b' p g1 g2 g3 g4 => ?_⟩, ⟨k.ff, fun a o h n => k.keep a o h fun z => n (owB a z), k.dom, fun p ⟨j, l, b, g1, g2⟩ => ?_, fun j hj => ?_, kind⟩⟩
  · obtain ⟨s0, h0, hj, q⟩ := get j _ g1
    rcases q with ⟨z, ez, he, _, hs⟩ | ⟨es, t, et⟩
    · exact R'.at_ j s o he (by rw [hs]; exact g2)
    · have w := R.at_ j s o (by rw [es]; exact h0) g2
      subst et
      obtain ⟨y, ey, d⟩ := w
      exact ⟨y, ey, dp_mono k.ff _ _ d⟩
  · obtain ⟨s0, h0, hj, q⟩ := get j _ g1
    obtain ⟨s0', h0', hj', q'⟩ := get j' _ g2
    rcases q with ⟨z, ez, he, _, hs⟩ | ⟨es, t, et⟩
    · rcases q' with ⟨z', ez', he', _, hs'⟩ | ⟨es, t, et⟩
      · exact R'.ne j j' l b l' b' p he he' (by rw [hs]; exact g3) (by rw [hs']; exact g4)
      · cases et
    · cases et
  · obtain ⟨b', q⟩ := kind j l b g1
    exact ⟨j, l, b', q, g2⟩
  · obtain ⟨b, hb⟩ := hj
    rcases hb with hb | hb
    · have hjl : j < ss.length := (List.getElem?_eq_some_iff.mp hb).1
      have hL := k.lent j b (by show (ss ++ _)[j]? = _; rw [e0 j hjl, hb])
      rcases finE_get (es := e') hb (fun ⟨z, q⟩ => lentLt j z (by rw [hb, q])) with ⟨z, _, w⟩ | ⟨w, _⟩
      · obtain ⟨b', q⟩ := hL.1
        exact ⟨b', by rw [w]; exact q⟩
      · exact absurd rfl (w b)
    · have hjl : j < ss.length := (List.getElem?_eq_some_iff.mp hb).1
      have hm : okArg (.fz b) = true := List.all_eq_true.mp ha _ (List.mem_of_getElem? hb)
      cases hm
end
theorem fn_ok {P : Program} {w : World} {K : PySem.W.Frag} {mg : Str → Option Value} {base : Heap} {x qual : Str} {params : Arguments} {body : List Stmt} {scope : Scope} {f : Addr} {fd : FuncData} {N ps : List Str} {k : Nat} {b : SemS}
    (Fn : FunD K x qual params body scope [] [] f fd) (S : FnScope N ps scope)
    (hb : ∀ (cdv : Value) (A : Around) (outer : List Env) (s : Shared) (H : Hp) (E : XK), Room k (A.deeper (envOfC qual scope s.heap.objs.size f cdv)) →
      ∀ B, QSs (cxOf (L2N.CX P w) P w K mg base N qual scope f cdv A outer s H E) (fun cls d _ H => E cls d H) B body b) :
    FnOk P w K mg base (L2N.CX P w) (k + 1) f fd ps (spF K ps.length (runFn N.length b)) := by
  refine Fn.ok S (fun vs H Q E h => h.1) fun cdv A outer s H vs Q E hr ⟨hlen, ss, F, R, h⟩ => ?_
  have hl : ss.length = vs.length := by have := R.len; simpa using this
  have hN : ps.length ≤ N.length := by have := congrArg List.length S.pre; rw [List.length_take] at this; omega
  unfold runFn at h
  by_cases ha : ss.all okArg = true
  · rw [if_pos ha] at h
    refine ⟨_, hb cdv A outer s H E hr ⟨ss ++ List.replicate (N.length - ss.length) Sl.un, L2.start N vs, F, H⟩, ss ++ List.replicate (N.length - ss.length) Sl.un, F, start_rel (N := N) R, ?_, ?_⟩
    · refine ⟨fun _ _ h => h, fun a o h _ => ⟨h, fun z => z⟩, fun a o h => ⟨o, h⟩, fun i b p h1 _ => ?_, fun i b h => ⟨rfl, b, h⟩, fun i b h => ⟨⟨b, .inl h⟩, rfl⟩⟩
      by_cases q : i < ss.length
      · rw [List.getElem?_append_left q] at h1
        have := List.all_eq_true.mp ha _ (List.mem_of_getElem? h1)
        cases this
      · rw [List.getElem?_append_right (by omega)] at h1
        have := List.eq_of_mem_replicate (List.mem_of_getElem? h1)
        cases this
    · cases q : b (ss ++ List.replicate (N.length - ss.length) .un) with
      | bad => rw [q] at h; exact h
      | exc c t e' =>
        rw [q] at h
        intro σ' F' H' cls d R' k' ex
        obtain ⟨a1, a2⟩ := fin_rel R R' k' ha
        exact h F' H' cls d a1 a2 ex
      | ok f e' =>
        rw [q] at h
        cases f with
        | bk => exact h.elim
        | ct => exact h.elim
        | nx =>
          intro σ' F' H' R' k'
          obtain ⟨a1, a2⟩ := fin_rel R R' k' ha
          exact h _ F' H' a1 a2 .non
        | rt r =>
          intro x σ' F' H' R' k' o
          obtain ⟨a1, a2⟩ := fin_rel R R' k' ha
          refine h _ F' H' a1 a2 ?_
          cases r with
          | r t => exact o
          | b z => exact o
          | s i => cases o
  · rw [if_neg ha] at h; exact h.elim
end Ev

set_option Elab.async false
set_option linter.all false
set_option maxRecDepth 100000
namespace Ev
open PySem PySem.Spec PyProof.Rows L2
/-! ### a, b = x, y: names -/
/-- what names alone hold is let go -/
def presc : List Od → En → Option (List Od × En)
  | [], e => some ([], e)
  | .s i :: rs, e => match esc (.s i) e with
    | some (t, e1) => (match presc rs e1 with
      | some (rs', e2) => some (.r t :: rs', e2)
      | none => none)
    | none => none
  | r :: rs, e => match presc rs e with
    | some (rs', e2) => some (r :: rs', e2)
    | none => none
def noS : List Od → Prop
  | [] => True
  | .s _ :: _ => False
  | _ :: rs => noS rs
theorem presc_ok {K : PySem.W.Frag} {σ : Sg} {e0 : En} {F0 H0 H : Hp} (R0 : Rel K e0 σ F0 H0) : ∀ {rs rs' : List Od} {xs : List V} {e e' : En} {F : Hp}, Rel K e σ F H → Step e0 e σ F0 H0 F H → OdsR K σ H0 F H rs xs → presc rs e = some (rs', e') →
    ∃ F', Rel K e' σ F' H ∧ Step e0 e' σ F0 H0 F' H ∧ OdsR K σ H0 F' H rs' xs ∧ noS rs' ∧ (∀ a o, F a = some o → F' a = some o) ∧ (∀ (j : Nat) (z : Bx), rs'[j]? = some (.b z) → rs[j]? = some (.b z)) ∧ ∀ a, H0 a = none → F' a = F a
  | [], _, _, _, _, F, R, S, .nil, h => by cases h; exact ⟨F, R, S, .nil, trivial, fun _ _ h => h, fun j z h => h, fun _ _ => rfl⟩
  | .s i :: rs, _, _, e, _, F, R, S, .cons (x := x) (xs := xs) a b n, h => by
    unfold presc at h
    cases q : esc (.s i) e with
    | none => rw [q] at h; cases h
    | some te =>
      obtain ⟨t, e1⟩ := te
      simp only [q] at h
      cases q2 : presc rs e1 with
      | none => rw [q2] at h; cases h
      | some te2 =>
        obtain ⟨rs', e2⟩ := te2
        simp only [q2] at h
        cases h
        obtain ⟨F1, R1, S1, d1, ff1, only⟩ := esc_ok R0 R S a q
        have b1 : OdsR K σ H0 F1 H rs xs := ods_grow ff1 b fun p j z hj hx hn => by
          rcases only p with e | ⟨ex, e | e⟩
          · exact e
          · obtain ⟨z', e'⟩ := e; cases e'
          · exact absurd (S.own _ e) (fun w => by obtain ⟨_, o, q⟩ := R0.owned w; rw [hn] at q; cases q)
        obtain ⟨F2, R2, S2, d2, ns, ff2, bs, same⟩ := presc_ok R0 R1 S1 b1 q2
        refine ⟨F2, R2, S2, .cons (dp_mono ff2 _ _ d1) d2 (fun z p hr => by cases hr), ns, fun a o h => ff2 _ _ (ff1 _ _ h), fun j z h => ?_, fun a hn => ?_⟩
        · cases j with
          | zero => simp at h
          | succ j => simpa using bs j z (by simpa using h)
        · rw [same a hn]
          rcases only a with e | ⟨ex, e | e⟩
          · exact e
          · obtain ⟨z', e'⟩ := e; cases e'
          · exact absurd (S.own _ e) (fun w => by obtain ⟨_, o, q⟩ := R0.owned w; rw [hn] at q; cases q)
  | .r t :: rs, _, _, e, _, F, R, S, .cons (x := x) (xs := xs) a b n, h => by
    unfold presc at h
    cases q2 : presc rs e with
    | none => rw [q2] at h; cases h
    | some te2 =>
      obtain ⟨rs', e2⟩ := te2
      simp only [q2] at h
      cases h
      obtain ⟨F2, R2, S2, d2, ns, ff2, bs, same⟩ := presc_ok R0 R S b q2
      refine ⟨F2, R2, S2, .cons (dp_mono ff2 _ _ a) d2 (fun z p hr => by cases hr), ns, ff2, fun j z h => ?_, same⟩
      cases j with
      | zero => simp at h
      | succ j => simpa using bs j z (by simpa using h)
  | .b z0 :: rs, _, _, e, _, F, R, S, .cons (x := x) (xs := xs) a b n, h => by
    unfold presc at h
    cases q2 : presc rs e with
    | none => rw [q2] at h; cases h
    | some te2 =>
      obtain ⟨rs', e2⟩ := te2
      simp only [q2] at h
      cases h
      obtain ⟨F2, R2, S2, d2, ns, ff2, bs, same⟩ := presc_ok R0 R S b q2
      have a2 : OdR K σ H0 F2 H x (.b z0) := by
        obtain ⟨p, ep, hn, hf, bx⟩ := a
        exact ⟨p, ep, hn, by rw [same p hn]; exact hf, bx_keep bx ff2 fun _ h => h⟩
      refine ⟨F2, R2, S2, .cons a2 d2 (fun z p hr hx j z' hj => n z p hr hx j z' (bs j z' hj)), ns, ff2, fun j z h => ?_, same⟩
      cases j with
      | zero => simpa using h
      | succ j => simpa using bs j z (by simpa using h)
section
variable {K : PySem.W.Frag} {W : WX} {B : Bd} {e e1 : En} {σ : Sg} {F H H0 : Hp}
theorem put_ok {i : Nat} {r : Od} {x : V} {e' : En} (R : Rel K e σ F H) (k : BOk B e σ F H) (hB : ∀ p, H0 p = none → B.H p = none) (O : OdR K σ H0 F H x r) (ns : ∀ j, r ≠ .s j) (no : ∀ p z, r = .b z → x = .ref p → ¬ Own e σ p) (h : setO i r e = .ok .nx e') :
    Rel K e' (σ.set i (some x)) F H ∧ BOk B e' (σ.set i (some x)) F H ∧ ∀ q, Own e' (σ.set i (some x)) q → Own e σ q ∨ ∃ z, r = .b z ∧ x = .ref q := by
  unfold setO at h
  cases l : isLent e i with
  | true => rw [l] at h; cases h
  | false =>
    rw [l, if_neg (by decide)] at h
    have n := isLent_no l
    cases r with
    | s j => exact absurd rfl (ns j)
    | r t =>
      simp only [esc] at h
      cases h
      obtain ⟨a, b⟩ := set_v R k O n
      refine ⟨a, b, fun q ⟨j, l', b', q1, q2⟩ => .inl ?_⟩
      by_cases ij : i = j
      · subst ij
        have hi : i < e.length := by have := (List.getElem?_eq_some_iff.mp q1).1; simpa using this
        rw [List.getElem?_set_self hi] at q1; cases q1
      · rw [List.getElem?_set_ne ij] at q1 q2; exact ⟨j, l', b', q1, q2⟩
    | b z =>
      cases h
      obtain ⟨p, rfl, hn, hf, bx⟩ := O
      obtain ⟨a, b⟩ := set_b R k hf bx (hB p hn) (no p z rfl rfl) n
      refine ⟨a, b, fun q ⟨j, l', b', q1, q2⟩ => ?_⟩
      by_cases ij : i = j
      · subst ij
        have hi : i < e.length := by have := (List.getElem?_eq_some_iff.mp q1).1; simpa using this
        rw [List.getElem?_set_self (by rw [← R.len]; exact hi)] at q2
        cases q2
        exact .inr ⟨z, rfl, rfl⟩
      · rw [List.getElem?_set_ne ij] at q1 q2; exact .inl ⟨j, l', b', q1, q2⟩
def setOs : List Nat → List Od → En → Option En
  | [], [], e => some e
  | i :: is, r :: rs, e => match setO i r e with
    | .ok .nx e1 => setOs is rs e1
    | _ => none
  | _, _, _ => none
def setsσ : List Nat → List V → Sg → Sg
  | i :: is, x :: xs, σ => setsσ is xs (σ.set i (some x))
  | _, _, σ => σ
theorem sets_ok : ∀ {is : List Nat} {rs : List Od} {xs : List V} {e e' : En} {σ σ0 : Sg}, Rel K e σ F H → BOk B e σ F H → (∀ p, H0 p = none → B.H p = none) → OdsR K σ0 H0 F H rs xs → noS rs → (∀ p (j : Nat) z, rs[j]? = some (.b z) → xs[j]? = some (.ref p) → ¬ Own e σ p) → setOs is rs e = some e' →
    Rel K e' (setsσ is xs σ) F H ∧ BOk B e' (setsσ is xs σ) F H
  | [], [], _, _, _, _, _, R, k, _, .nil, _, _, h => by cases h; exact ⟨R, k⟩
  | [], _ :: _, _, _, _, _, _, _, _, _, _, _, _, h => by cases h
  | _ :: _, [], _, _, _, _, _, _, _, _, _, _, _, h => by cases h
  | i :: is, r :: rs, _, e, _, σ, σ0, R, k, hB, .cons (x := x) (xs := xs) a b n, ns, no, h => by
    unfold setOs at h
    cases q : setO i r e with
    | bad => rw [q] at h; cases h
    | exc _ _ _ => rw [q] at h; cases h
    | ok f e1 =>
      rw [q] at h
      cases f with
      | rt _ => cases h
      | bk => cases h
      | ct => cases h
      | nx =>
        have nsr : (∀ j, r ≠ .s j) ∧ noS rs := by
          cases r with
          | s j => exact ns.elim
          | r t => exact ⟨(fun j q => by cases q), ns⟩
          | b z => exact ⟨(fun j q => by cases q), ns⟩
        have a' : OdR K σ H0 F H x r := by
          cases r with
          | s j => exact ns.elim
          | r t => exact a
          | b z => exact a
        obtain ⟨R1, k1, ow⟩ := put_ok R k hB a' nsr.1 (fun p z er ex => no p 0 z (by rw [er]; rfl) (by rw [ex]; rfl)) q
        refine sets_ok (is := is) (rs := rs) (xs := xs) R1 k1 hB b nsr.2 (fun p j z hj hx hO => ?_) h
        rcases ow p hO with w | ⟨z', er, ex⟩
        · exact no p (j + 1) z (by simpa using hj) (by simpa using hx) w
        · exact n z' p er ex j z hj hx
end
section
variable {X : Cx} {W : WX} {B : Bd} {a b c : Expr} {ma mb mc : SemE} {pos : Pos}
/-- names = values, all at once -/
def sPar (is : List Nat) (m : SemA) : SemS := fun e => (m e).bind fun rs e1 => match presc rs e1 with
  | some (rs', e2) => (match setOs is rs' e2 with
    | some e3 => .ok .nx e3
    | none => .bad)
  | none => .bad
theorem par_read {is : List Nat} {m : SemA} {K : PySem.W.Frag} {D : Ends} {σ : Sg} {H : Hp} (h : tS K W B (sPar is m) D σ H) : tA K W m σ H fun xs H1 => xs.length = is.length ∧ D.nx (setsσ is xs σ) H1 ∧ ∀ p o, H1 p = none → D.nx (setsσ is xs σ) (upd H1 p o) := by
  obtain ⟨e, F, R, k, h⟩ := h
  refine tX_imp (tS_bind (rel := fun σ Hs F H xs rs => OdsR K σ Hs F H rs xs) R k h) fun xs H1 ⟨rs, e1, F1, R1, S1, k1, O, h1⟩ => ?_
  cases q : presc rs e1 with
  | none => simp only [q] at h1; exact h1.elim
  | some te =>
    obtain ⟨rs', e2⟩ := te
    simp only [q] at h1
    obtain ⟨F2, R2, S2, O2, ns, _, _, _⟩ := presc_ok R R1 S1 O q
    have k2 := k.step S2
    cases q2 : setOs is rs' e2 with
    | none => simp only [q2] at h1; exact h1.elim
    | some e3 =>
      simp only [q2] at h1
      have hB : ∀ p, H p = none → B.H p = none := fun p hn => by
        cases q : B.H p with
        | none => rfl
        | some o => obtain ⟨o', e'⟩ := k.dom _ _ q; rw [hn] at e'; cases e'
      have no : ∀ {F' H'}, OdsR K σ H F' H' rs' xs → ∀ p (j : Nat) z, rs'[j]? = some (.b z) → xs[j]? = some (.ref p) → ¬ Own e2 σ p := fun O2 p j z hj hx => by
        obtain ⟨p', hx', hn, _⟩ := ods_tmp O2 j z hj
        rw [hx] at hx'; cases hx'
        exact fresh_not_own R S2 hn
      have len : ∀ {is : List Nat} {rs : List Od} {e e' : En}, setOs is rs e = some e' → is.length = rs.length := by
        intro is
        induction is with
        | nil => intro rs e e' h; cases rs with
          | nil => rfl
          | cons _ _ => cases h
        | cons i is ih => intro rs e e' h; cases rs with
          | nil => cases h
          | cons r rs =>
            unfold setOs at h
            split at h
            · simp [ih h]
            · cases h
      refine ⟨by rw [len q2, ods_len O2], ?_, fun p o hp => ?_⟩
      · obtain ⟨R3, k3⟩ := sets_ok R2 k2 hB O2 ns (no O2) q2
        exact h1 _ _ _ R3 k3
      · have R2' := laid_own (o := o) R2 hp
        have k2' := k2.step (laid_own_step (e := e2) (σ := σ) (F := F2) (o := o) hp)
        have O2' : OdsR K σ H F2 (upd H1 p o) rs' xs := by
          have mono : ∀ {rs xs}, OdsR K σ H F2 H1 rs xs → OdsR K σ H F2 (upd H1 p o) rs xs := by
            intro rs xs O
            induction O with
            | nil => exact .nil
            | cons a b n ih =>
              refine .cons ?_ ih n
              rename_i r x _ _
              cases r with
              | r t => exact a
              | s i => exact a
              | b z =>
                obtain ⟨p', ep, hn, hf, bx⟩ := a
                exact ⟨p', ep, hn, hf, bx_keep bx (fun _ _ h => h) fun o' h' => by rw [upd_ne (ne_of_none h' hp)]; exact h'⟩
          exact mono O2
        obtain ⟨R3, k3⟩ := sets_ok R2' k2' hB O2' ns (no O2') q2
        exact h1 _ _ _ R3 k3
theorem qpar2 {i j : Nat} {x y : Str} {px py pt : Pos} {kt k2 pt2} {m : SemA} (hc : X.calm = true) (hN : X.N.Nodup) (hi : X.N[i]? = some x) (hj : X.N[j]? = some y) (hij : i ≠ j)
    (hx : X.env.scope.names.lookup x = some .local) (hy : X.env.scope.names.lookup y = some .local) (ha : QA X W [a, b] m)
    (hw : swappedStores [.Tuple [.Name x px, .Name y py] kt pt] (.Tuple [a, b] k2 pt2) X.env = pure (some [x, y]))
    (hs : swapsWithSole [.Tuple [.Name x px, .Name y py] kt pt] (.Tuple [a, b] k2 pt2) pos.line X.env = pure false := by rfl) :
    QS X W B (.Assign [.Tuple [.Name x px, .Name y py] kt pt] (.Tuple [a, b] k2 pt2) pos) (sPar [i, j] m) :=
  ps_mono (ps_par hc hN hi hj hij hx hy ha hw hs) fun D σ H h => tX_imp (par_read h) fun xs H1 ⟨hl, q, _⟩ => by
    match xs, hl, q with
    | [v, w], _, q => exact ⟨v, w, rfl, q⟩
/-- by the tuple -/
theorem qparT {tgs es : List Expr} {is : List Nat} {m : SemA} {kt k2 : Nat} {pt pt2 : Pos} {gs : TGs} (hc : X.calm = true) (ha : QA X W es m) (hg : PGs X tgs gs) (hgs : ∀ xs σ H Q, xs.length = is.length → Q (setsσ is xs σ) H → gs xs σ H Q) (hlen : is.length ≤ sizeLine)
    (hs : swapsWithSole [.Tuple tgs kt pt] (.Tuple es k2 pt2) pos.line X.env = pure false := by rfl) (hw : swappedStores [.Tuple tgs kt pt] (.Tuple es k2 pt2) X.env = pure none := by rfl)
    (h1 : (assignEach [.Tuple tgs kt pt] X.env).map (·.2) = [assign (.Tuple tgs kt pt) X.env] := by rfl) (hn : (assignEach tgs X.env).length = is.length := by rfl) (hst : (assignEach tgs X.env).findIdx? (·.1) = none := by rfl) :
    QS X W B (.Assign [.Tuple tgs kt pt] (.Tuple es k2 pt2) pos) (sPar is m) :=
  ps_mono (ps_asg (pe_tup ha) (pg_tup hc hg hn hst) hs hw h1) fun D σ H h => tX_imp (par_read h) fun xs H1 ⟨hl, _, q⟩ =>
    ⟨by rw [hl]; exact hlen, fun p hp => ⟨p, xs, rfl, SqT.of upd_same, hl, hgs _ _ _ _ hl (q p _ hp)⟩⟩
def gsNames : List Nat → TGs
  | [] => gNil
  | i :: is => gCons (gName i) (gsNames is)
theorem gsNames_ok : ∀ (is : List Nat) (xs : List V) (σ : Sg) (H : Hp) (Q : Sg → Hp → Prop), xs.length = is.length → Q (setsσ is xs σ) H → gsNames is xs σ H Q
  | [], [], σ, H, Q, _, h => ⟨rfl, h⟩
  | [], _ :: _, _, _, _, h, _ => by cases h
  | _ :: _, [], _, _, _, h, _ => by cases h
  | i :: is, x :: xs, σ, H, Q, hl, h => ⟨x, xs, rfl, gsNames_ok is xs _ H Q (by simpa using hl) h⟩
end
end Ev

set_option Elab.async false
set_option linter.all false
set_option maxRecDepth 100000
namespace Ev
open PySem PySem.Spec PyProof.Rows L2
section
variable {X : Cx} {W : WX} {B : Bd} {a b c : Expr} {ma mb mc : SemE} {pos : Pos}
/-! ### calls -/
/-! ### x.index(y) -/
def findT (ts : List T) (u : T) : Option Nat := ts.findIdx? fun z => PyData.eqv z u
def eIndex (mo : SemE) (ma : SemA) : SemE := fun e => (mo e).bind fun r e1 => match r.val e1 with
  | some (.list _) => (ma e1).bind fun rs e2 => (match r.val e2, vals e2 rs with
    | some (.list ts), some [u] => if SeqAt.shaped (.list ts) && SeqAt.shaped u then (match findT ts u with
      | some j => .ok (.r (.int (j : Nat))) e2
      | none => .bad) else .bad
    | _, _ => .bad)
  | _ => .bad
/-! ### x[i] = v of a list that a name alone holds -/
def sSetIx (i : Nat) (mi mv : SemE) : SemS := fun e => (mv e).bind fun r e1 => match e1[i]? with
  | some (.ow _ (.l _)) => (mi e1).bind fun ri e2 => (match ri.val e2, esc r e2 with
    | some (.int k), some (t, e3) => (match e3[i]? with
      | some (.ow l (.l ts)) => (match ixN ts.length k with
        | some j => .ok .nx (e3.set i (.ow l (.l (ts.set j t))))
        | none => .bad)
      | _ => .bad)
    | _, _ => .bad)
  | _ => .bad
theorem qsetix {i : Nat} {x : Str} {p p' : Pos} {ix v : Expr} {mi mv : SemE} (hN : X.N[i]? = some x) (hv : Vis X.env.scope x) (hi : QE X W ix mi) (hval : QE X W v mv) (hd : (x == ("__debug__" : Str)) = false := by decide) (hcd : (x == ("__classdict__" : Str)) = false := by decide)
    (ha : ∀ w, assign (.Subscript (.Name x p) ix p') X.env w = (do
      let ov ← holding [w] (eval (.Name x p) X.env)
      let iv ← holding [w, ov] (eval ix X.env)
      standAt p'
      holding [w, ov, iv] (setItem ov iv w)
      release [w, ov, iv] []) := by intro _; rfl)
    (hs : swapsWithSole [.Subscript (.Name x p) ix p'] v pos.line X.env = pure false := by rfl) (hw : swappedStores [.Subscript (.Name x p) ix p'] v X.env = pure none := by rfl)
    (h1 : (assignEach [.Subscript (.Name x p) ix p'] X.env).map (·.2) = [assign (.Subscript (.Name x p) ix p') X.env] := by rfl) : QS X W B (.Assign [.Subscript (.Name x p) ix p'] v pos) (sSetIx i mi mv) := by
  refine ps_mono (ps_asg hval (pg_sub (pe_var hN hv hd hcd) hi set_list ha) hs hw h1) fun D σ H h => ?_
  obtain ⟨e, F, R, k, h⟩ := h
  refine tX_imp (tS_bind (rel := fun σ => OdR X.K σ) R k h) fun y H1 ⟨r, e1, F1, R1, S1, k1, O1, h1⟩ => ?_
  split at h1
  rename_i l0 ts0 q0
  obtain ⟨o, hs0, p, ep, _⟩ := R1.var q0
  subst ep
  refine ⟨_, hs0, tX_imp (tS_bind (B := B) (m := mi) (rel := fun σ => OdR X.K σ) R1 k1 h1) fun iv H2 ⟨ri, e2, F2, R2, S2, k2, O2, h2⟩ => ?_⟩
  have O1' := od_stay O1 (fun p hp => fresh_not_own R S1 hp) S2
  split at h2
  · rename_i kk t e3 q1 q2
    have d := val_ok R2 O2 q1
    cases d
    obtain ⟨F3, R3, S3, d3, _⟩ := esc_ok R R2 (S1.trans S2) O1' q2
    split at h2
    · rename_i l ts q3
      cases q4 : ixN ts.length kk with
      | none => simp only [q4] at h2; exact h2.elim
      | some j =>
        simp only [q4] at h2
        obtain ⟨p', ep, hf, xs, hx, dd⟩ := R3.at_ i _ _ q3 hs0
        cases ep
        refine ⟨p, xs, kk, j, rfl, rfl, hx, by rw [dpAll_len dd]; exact q4, ?_⟩
        obtain ⟨R4, S4⟩ := upd_own R3 q3 hs0 (dpAll_set d3 j dd)
        exact h2 σ F3 _ R4 ((k.step S3).step S4)
    · exact h2.elim
  · exact h2.elim
  · exact h1.elim
end
end Ev

set_option Elab.async false
set_option linter.all false
set_option maxRecDepth 100000
namespace Ev
open PySem PySem.Spec PyProof.Rows L2
section
variable {X : Cx} {W : WX} {B : Bd} {a b c : Expr} {ma mb mc : SemE} {pos : Pos}
/-! ### f(k = v, ..): keywords alone -/
abbrev QK (X : Cx) (W : WX) (kws : List Keyword) (m : SemA) : Prop := PK X kws (tA X.K W m)
theorem pk_mono {kws : List Keyword} {t t' : TA} (h : PK X kws t) (m : ∀ σ H Q, t' σ H Q → t σ H Q) : PK X kws t' := ⟨fun pos pins s σ H Q I q => h.run pos pins s σ H Q I (m σ H Q q)⟩
theorem qk_nil : QK X W [] aNil := pk_mono pk_nil fun σ H Q ⟨e, F, R, h⟩ => h _ F H R .refl .nil
theorem qk_cons {kws : List Keyword} {mr : SemA} {nm : Option Str} {kpos : Pos} (ha : QE X W a ma) (hr : QK X W kws mr) : QK X W (⟨nm, a, kpos⟩ :: kws) (aCons ma mr) := by
  refine pk_mono (pk_cons ha hr) fun σ H Q h => ?_
  obtain ⟨e, F, R, h⟩ := h
  refine tX_imp (tX_bind R .refl h) fun x H1 ⟨r, e1, F1, R1, S1, O1, h1⟩ => ?_
  refine tX_imp (tX_bind (rel := fun σ Hs F H xs rs => OdsR X.K σ Hs F H rs xs) R1 S1 h1) fun xs H2 ⟨rs, e2, F2, R2, S2, O2, h2⟩ => ?_
  refine h2 _ F2 H2 R2 (S1.trans S2) (.cons (od_stay O1 (fun p hp => fresh_not_own R S1 hp) S2) (ods_back S1 O2) fun z p er ex j z' hj hx => ?_)
  subst er
  obtain ⟨p', ep, hn, hf, bx⟩ := O1
  rw [ex] at ep; cases ep
  obtain ⟨q, hq, hn2, _⟩ := ods_tmp O2 j z' hj
  rw [hx] at hq; cases hq
  obtain ⟨o, ho⟩ := bx_some bx
  rw [hn2] at ho; cases ho
def pick {α : Type} (perm : List Nat) (l : List α) : List α := perm.filterMap (l[·]?)
theorem pick_ods {K : PySem.W.Frag} {σ : Sg} {Hs F H : Hp} {rs : List Od} {xs : List V} (O : OdsR K σ Hs F H rs xs) : ∀ {perm : List Nat}, perm.Nodup → OdsR K σ Hs F H (pick perm rs) (pick perm xs)
  | [], _ => .nil
  | i :: perm, nd => by
    have ih := pick_ods O (List.nodup_cons.mp nd).2
    by_cases hi : i < rs.length
    · have h1 : rs[i]? = some rs[i] := List.getElem?_eq_getElem hi
      obtain ⟨x, hx, o⟩ := ods_get O h1
      have e1 : pick (i :: perm) rs = rs[i] :: pick perm rs := by unfold pick; rw [List.filterMap_cons, h1]
      have e2 : pick (i :: perm) xs = x :: pick perm xs := by unfold pick; rw [List.filterMap_cons, hx]
      rw [e1, e2]
      refine .cons o ih fun z p er ex j z' hj hxj => ?_
      subst ex
      -- the j-th of the picked ones stands at some place of perm
      have key : ∀ {perm : List Nat} {j : Nat}, (pick perm rs)[j]? = some (.b z') → (pick perm xs)[j]? = some (.ref p) → ∃ k ∈ perm, rs[k]? = some (.b z') ∧ xs[k]? = some (.ref p) := by
        intro perm
        induction perm with
        | nil => intro j h _; simp [pick] at h
        | cons k perm ih2 =>
          intro j h1 h2
          by_cases hk : k < rs.length
          · have g1 : rs[k]? = some rs[k] := List.getElem?_eq_getElem hk
            obtain ⟨y, hy, _⟩ := ods_get O g1
            have f1 : pick (k :: perm) rs = rs[k] :: pick perm rs := by unfold pick; rw [List.filterMap_cons, g1]
            have f2 : pick (k :: perm) xs = y :: pick perm xs := by unfold pick; rw [List.filterMap_cons, hy]
            rw [f1] at h1; rw [f2] at h2
            cases j with
            | zero => simp at h1 h2; exact ⟨k, List.mem_cons_self, by rw [g1, h1], by rw [hy, h2]⟩
            | succ j =>
              obtain ⟨k', m, q⟩ := ih2 (j := j) (by simpa using h1) (by simpa using h2)
              exact ⟨k', List.mem_cons_of_mem _ m, q⟩
          · have g1 : rs[k]? = none := List.getElem?_eq_none (by omega)
            have g2 : xs[k]? = none := List.getElem?_eq_none (by rw [← ods_len O]; omega)
            have f1 : pick (k :: perm) rs = pick perm rs := by unfold pick; rw [List.filterMap_cons, g1]
            have f2 : pick (k :: perm) xs = pick perm xs := by unfold pick; rw [List.filterMap_cons, g2]
            rw [f1] at h1; rw [f2] at h2
            obtain ⟨k', m, q⟩ := ih2 (j := j) h1 h2
            exact ⟨k', List.mem_cons_of_mem _ m, q⟩
      obtain ⟨k, hk, q1, q2⟩ := key hj hxj
      have := ods_ne O (h1.trans (by rw [er])) q1 hx q2
      subst this
      exact (List.nodup_cons.mp nd).1 hk
    · have g1 : rs[i]? = none := List.getElem?_eq_none (by omega)
      have g2 : xs[i]? = none := List.getElem?_eq_none (by rw [← ods_len O]; omega)
      have f1 : pick (i :: perm) rs = pick perm rs := by unfold pick; rw [List.filterMap_cons, g1]
      have f2 : pick (i :: perm) xs = pick perm xs := by unfold pick; rw [List.filterMap_cons, g2]
      rw [f1, f2]; exact ih
theorem pick_vals {xs : List V} {us : List Value} (r : Vals xs us) : ∀ (perm : List Nat), Vals (pick perm xs) (pick perm us)
  | [] => .nil
  | i :: perm => by
    have ih := pick_vals r perm
    cases q : xs[i]? with
    | none =>
      have f1 : pick (i :: perm) xs = pick perm xs := by unfold pick; rw [List.filterMap_cons, q]
      have f2 : pick (i :: perm) us = pick perm us := by unfold pick; rw [List.filterMap_cons, r.none_of q]
      rw [f1, f2]; exact ih
    | some x =>
      obtain ⟨u, hu, ru⟩ := r.get q
      have f1 : pick (i :: perm) xs = x :: pick perm xs := by unfold pick; rw [List.filterMap_cons, q]
      have f2 : pick (i :: perm) us = u :: pick perm us := by unfold pick; rw [List.filterMap_cons, hu]
      rw [f1, f2]; exact .cons ru ih
/-- how keywords alone are bound -/
def KwBinds (K : PySem.W.Frag) (fd : FuncData) (ps ks : List Str) (perm : List Nat) : Prop := ∀ (s : Shared) (ws : List Value), ws.length = ks.length → BindsTo s fd ⟨[], ks.zip ws⟩ (ps.zip (pick perm ws))
theorem kwBinds_of {K : PySem.W.Frag} {x qual : Str} {params : Arguments} {body : List Stmt} {scope : Scope} {kws : List (Str × V)} {f : Addr} {fd : FuncData} {ps ks : List Str} {perm : List Nat} (F : FunD K x qual params body scope [] kws f fd)
    (h : ∀ (kV doc pm : Value) (an : Option Addr) (cdv ct : Value) (ws : List Value), ws.length = ks.length → bindArgs (PySem.W.fnOf x qual params body scope .none kV doc pm an cdv ct) ⟨[], ks.zip ws⟩ = pure (ps.zip (pick perm ws))) : KwBinds K fd ps ks perm := fun s ws hl => by
  obtain ⟨oc, od, dV, kV, doc, pm, an, cdv, ct, osl, rfl, lk, hcd, hD, hK⟩ := F.ex
  rcases hD with ⟨_, rfl⟩ | ⟨e, _⟩
  · exact .of_eq (h kV doc pm an cdv ct ws hl)
  · exact absurd rfl e
def tCallKS (sp : Sp) (perm : List Nat) (n : Nat) (E : Sg → XK) (tk : TA) : TE := fun σ H Q => tk σ H fun zs H1 => zs.length = n ∧ sp (pick perm zs) H1 Q (E σ)
theorem pe_callKS {CX : CXT} {k : Nat} {f : Addr} {fd : FuncData} {ps ks : List Str} {sp : Sp} {E : Sg → XK} {x : Str} {p : Pos} {kws : List Keyword} {tk : TA} {perm : List Nat} (Fn : FnOk X.prog X.w X.K X.mg X.base CX k f fd ps sp) (hr : Room k X.A) (hg : Gl X x) (hm : X.mg x = some (.ref f)) (hk : PySem.W.keepIn X.K (.ref f) = true)
    (hb : KwBinds X.K fd ps ks perm) (hx : ∀ σ, PassesAt CX X σ (E σ)) (hkw : PK X kws tk) (hall : (backToKw pos (keywordEach kws X.env)).all (·.1.isSome) = true := by rfl) (hks : (backToKw pos (keywordEach kws X.env)).filterMap (·.1) = ks := by rfl)
    (hdb : (x == ("__debug__" : Str)) = false := by decide) (hpl : ((backTo pos (starEach [] X.env)).any (·.1) || (backToKw pos (keywordEach kws X.env)).any (·.1.isNone)) = false := by rfl) :
    PE X (.Call (.Name x p) [] kws pos) (tCallKS sp perm ks.length E tk) := by
  refine ⟨fun pins s σ H Q I h => ?_⟩
  refine wpAny_Call_Name_kw (ld_glob I hg hm ?_ hdb)
  refine PySem.W.callWith_KW0 (h₀ := X.base) I.ok.mod.kin hk hall ?_ hpl
  refine thn (hkw.run pos pins s σ H _ I h) fun ws s2 ⟨zs, H2, I2, rz, hl, q2⟩ => ⟨I2.kIn, ?_⟩
  rw [hks]
  have hl2 : ws.length = ks.length := by rw [← rz.length]; exact hl
  refine wpAny_call (codeAny_mono (Fn.run X.A X.stack s2 H2 ⟨[], ks.zip ws⟩ (pick perm ws) (pick perm zs) Q (E σ) hr I2.env0 (hb s2 ws hl2) (pick_vals rz perm) q2) fun r s' hq => ?_)
  cases r with
  | error e => exact hx σ pins H2 s2 e s' I2 hq
  | ok fl =>
    cases fl with
    | ret u => exact I2.after hq
    | next => exact False.elim hq
    | brk => exact False.elim hq
    | cont => exact False.elim hq
def eCallK (n : Nat) (perm : List Nat) (m : FSem) (mk : SemA) : SemE := fun e => (mk e).bind fun rs e1 => if (pick perm rs).length = n ∧ rs.length = n ∧ perm.Nodup then eCallR m (pick perm rs) e1 else .bad
theorem callK_read {n : Nat} {perm : List Nat} {m : FSem} {ma : SemA} {K : PySem.W.Frag} {σ : Sg} {H : Hp} {Q : VK} (h : tE K W (eCallK n perm m ma) σ H Q) : tA K W ma σ H fun vs H1 => vs.length = n ∧ spF K n m (pick perm vs) H1 Q (WE W σ) := by
  obtain ⟨e, F, R, h⟩ := h
  refine tX_imp (tX_bind (rel := fun σ Hs F H xs rs => OdsR K σ Hs F H rs xs) R .refl h) fun xs0 H1 ⟨rs0, e1, F1, R1, S1, O0, h1⟩ => ?_
  by_cases hl0 : (pick perm rs0).length = n ∧ rs0.length = n ∧ perm.Nodup
  · rw [if_pos hl0] at h1
    obtain ⟨hl, hl1, ndp⟩ := hl0
    have O1 := pick_ods O0 ndp
    refine ⟨by rw [← ods_len O0]; exact hl1, by rw [← ods_len O1]; exact hl, ?_⟩
    generalize pick perm rs0 = rs at *
    generalize pick perm xs0 = xs at *
    unfold eCallR at h1
    cases q : toSls e1 rs with
    | none => rw [q] at h1; exact h1.elim
    | some ss =>
      simp only [q] at h1
      by_cases nd : (sIdx rs).Nodup
      · rw [if_pos nd] at h1
        obtain ⟨RA, _⟩ := args_rel R R1 S1 O1 q nd
        refine ⟨ss, F1, RA, ?_⟩
        cases w : m ss with
        | bad => rw [w] at h1; exact h1
        | exc c t ss' =>
          rw [w] at h1
          exact fun F' H' cls d R' S' x => let ⟨a, b⟩ := back_rel R R1 S1 O1 q nd R' S'; h1 F' H' cls d a b x
        | ok r ss' =>
          rw [w] at h1
          intro x F' H' R' S' o
          obtain ⟨a, b⟩ := back_rel R R1 S1 O1 q nd R' S'
          cases r with
          | s i => exact h1.elim
          | r t => exact h1 x F' H' a b o
          | b z => obtain ⟨p, ep, hn, hf, bx⟩ := o; exact h1 x F' H' a b ⟨p, ep, step_none S1 hn, hf, bx⟩
      · rw [if_neg nd] at h1; exact h1.elim
  · rw [if_neg hl0] at h1; exact h1.elim
theorem qcallk {CX : CXT} {k : Nat} {f : Addr} {fd : FuncData} {ps ks : List Str} {m : FSem} {ma : SemA} {x : Str} {p : Pos} {kws : List Keyword} {perm : List Nat} (Fn : FnOk X.prog X.w X.K X.mg X.base CX k f fd ps (spF X.K ks.length m)) (hr : Room k X.A) (hg : Gl X x) (hm : X.mg x = some (.ref f)) (hk : PySem.W.keepIn X.K (.ref f) = true)
    (hb : KwBinds X.K fd ps ks perm) (hx : ∀ σ, PassesAt CX X σ (WE W σ)) (hkw : QK X W kws ma) (hall : (backToKw pos (keywordEach kws X.env)).all (·.1.isSome) = true := by rfl) (hks : (backToKw pos (keywordEach kws X.env)).filterMap (·.1) = ks := by rfl)
    (hdb : (x == ("__debug__" : Str)) = false := by decide) (hpl : ((backTo pos (starEach [] X.env)).any (·.1) || (backToKw pos (keywordEach kws X.env)).any (·.1.isNone)) = false := by rfl) :
    QE X W (.Call (.Name x p) [] kws pos) (eCallK ks.length perm m ma) :=
  pe_mono (pe_callKS (E := fun σ => WE W σ) Fn hr hg hm hk hb hx hkw hall hks hdb hpl) fun σ H Q h => callK_read h
/-! ### a < b < c -/
end
/-! ### the law's own end -/
theorem law_sp {K : PySem.W.Frag} {m : FSem} {a : Addr} {H : Hp} {ns : List Int} (hS : SqL K H a (ns.map V.int)) (h : ∃ e', m [.v (.list (ns.map PyData.int))] = .ok (.r (.bool true)) e') : spF K 1 m [.ref a] H (fun v _ => v = .bl true) fun _ _ _ => False := by
  obtain ⟨e', h⟩ := h
  have dp : DpAll K H (ns.map V.int) (ns.map PyData.int) := by
    clear hS h
    induction ns with
    | nil => exact .nil
    | cons n ns ih => exact .cons (.int n) ih
  refine ⟨rfl, [.v (.list (ns.map PyData.int))], H, ⟨fun _ _ h => h, rfl, fun i s o h1 h2 => ?_, fun i j l b l' b' p h1 => ?_⟩, ?_⟩
  · cases i with
    | zero => simp at h1 h2; subst h1 h2; exact ⟨_, rfl, .lst hS dp⟩
    | succ i => simp at h1
  · cases i with
    | zero => simp at h1
    | succ i => simp at h1
  · rw [h]
    intro x F' H' R' S' o
    cases o
    rfl
theorem law_CX {P : Program} {w : World} (H : Hp) (s : Shared) (e : Value) (s' : Shared) : L2N.CX P w [] H s (fun _ _ _ => False) e s' → False := fun h => by
  obtain ⟨_, _, _, _, _, _, _, _, _, _, _, _, z⟩ := h
  exact z.elim
theorem takesN0 {X : Cx} : L2N.Takes X (fun _ _ _ _ => False) := fun _ _ x => by
  obtain ⟨_, _, _, _, _, _, _, _, _, _, _, _, _, _, _, _, z⟩ := x
  exact z.elim
end Ev
namespace Ev
open PySem PySem.Spec PyProof.Rows L2
theorem room65 {k : Nat} {A : Around} (r : Room k A) : A.units + 65 < cLine := by have := r.un; omega
section
variable {X : Cx} {W : WX} {B : Bd} {a : Expr} {ma : SemE} {pos : Pos}
/-- name += e, ints -/
def sAug (i : Nat) (g : T → T → Option Od) (m : SemE) : SemS := fun e => match e[i]? with
  | some (.v t) => (m e).bind fun r e1 => (match r.val e1 with
    | some u => (match g t u with
      | some (.r (.int k)) => setO i (.r (.int k)) e1
      | _ => .bad)
    | none => .bad)
  | _ => .bad
end
end Ev

set_option Elab.async false
set_option linter.all false
set_option maxRecDepth 100000
namespace Ev
open PySem PySem.Spec PyProof.Rows L2
/-- each once -/
def dd {α : Type} [DecidableEq α] : List α → List α
  | [] => []
  | x :: xs => if x ∈ xs then dd xs else x :: dd xs
theorem mem_dd {α : Type} [DecidableEq α] {a : α} : ∀ {xs : List α}, a ∈ dd xs ↔ a ∈ xs
  | [] => Iff.rfl
  | x :: xs => by
    unfold dd
    split
    · rename_i h
      rw [mem_dd, List.mem_cons]
      exact ⟨.inr, fun q => q.elim (fun z => z ▸ h) id⟩
    · rw [List.mem_cons, List.mem_cons, mem_dd]
theorem nodup_dd {α : Type} [DecidableEq α] : ∀ (xs : List α), (dd xs).Nodup
  | [] => List.nodup_nil
  | x :: xs => by
    unfold dd
    split
    · exact nodup_dd xs
    · rename_i h
      exact List.nodup_cons.mpr ⟨fun z => h (mem_dd.mp z), nodup_dd xs⟩
theorem len_le_of_sub {α : Type} [DecidableEq α] : ∀ {xs ys : List α}, xs.Nodup → (∀ a ∈ xs, a ∈ ys) → xs.length ≤ ys.length
  | [], _, _, _ => Nat.zero_le _
  | x :: xs, ys, nd, h => by
    have hx : x ∈ ys := h x List.mem_cons_self
    have := len_le_of_sub (xs := xs) (ys := ys.erase x) (List.nodup_cons.mp nd).2 fun a ha => by
      have ne : a ≠ x := fun z => (List.nodup_cons.mp nd).1 (z ▸ ha)
      exact (List.mem_erase_of_ne ne).mpr (h a (List.mem_cons_of_mem _ ha))
    rw [List.length_erase_of_mem hx] at this
    have hp : 0 < ys.length := List.length_pos_of_mem hx
    simp only [List.length_cons]
    omega
theorem len_dd {α : Type} [DecidableEq α] {L xs : List α} (nd : L.Nodup) (h : ∀ a, a ∈ L ↔ a ∈ xs) : L.length = (dd xs).length :=
  Nat.le_antisymm (len_le_of_sub nd fun a ha => mem_dd.mpr ((h a).mp ha)) (len_le_of_sub (nodup_dd xs) fun a ha => (h a).mpr (mem_dd.mp ha))
section
variable {X : Cx} {W : WX} {a : Expr} {ma : SemE} {pos : Pos}
def tLenSetT (K : PySem.W.Frag) (ta : TE) : TE := fun σ H Q => ta σ H fun x H1 => ∃ (l : Addr) (ks : List (Addr × List Int)), x = .ref l ∧ SqL K H1 l (ks.map fun p => V.ref p.1) ∧ (∀ p ∈ ks, SqT K H1 p.1 (p.2.map V.int)) ∧ ks.length < 64 ∧ Q (.int ((dd (ks.map (·.2))).length : Nat)) H1
theorem pe_lenSetT {ta : TE} {p p2 q : Pos} (hc : X.calm = true) (hu : X.A.units + 64 < cLine) (hg : Gl X "len") (hm : X.mg "len" = none) (hg2 : Gl X "set") (hm2 : X.mg "set" = none) (ha : PE X a ta)
    (na : starEach [a] X.env = (false, eval a X.env) :: starEach [] X.env := by rfl) : PE X (.Call (.Name "len" p) [.Call (.Name "set" p2) [a] [] q] [] pos) (tLenSetT X.K ta) := by
  refine ⟨fun pins s σ H Q I h => ?_⟩
  refine Call_ (ld_blt I hg hm PySem.boot_len ?_)
  refine PyProof.Rows.callWith_builtin1 (PyProof.Rows.args_cons ?_ rfl) rfl rfl
  refine Call_ (ld_blt I hg2 hm2 PyProof.Rows.boot_set ?_)
  refine PyProof.Rows.callWith_type1 (PyProof.Rows.args_cons (thn (ha.run pins s σ H _ I h) fun v s1 ⟨x, H1, I1, r1, q1⟩ => PyProof.Rows.args_nil ?_) na) na rfl
  obtain ⟨l, ks, rfl, hl, hk, hf, q1⟩ := q1
  cases r1
  obtain ⟨its, rv, pl, hz⟩ := I1.list hl
  refine call_set_tups (P := X.prog) (w := X.w) ks (I1.ok.hd hc) pl.isList (by simpa using refs_of_vals rv) (fun p hp => I1.isT (hk p hp)) hf (by omega) fun h' tk L es ep t R g k => ?_
  refine PyProof.Rows.args_nil ?_
  have I2 : Inv X pins σ H1 { s1 with heap := h', toks := tk } := I1.kept (t' := tk) k
  obtain ⟨o, ho, hex, hd⟩ := R.ob
  have hsz := SetTR.size (s := { s1 with heap := h', toks := tk }) R
  have hle : es.size = (dd (ks.map (·.2))).length := by
    rw [hsz]
    have e1 : L.length = (L.map (·.2)).length := by simp
    rw [e1]
    refine len_dd R.nd fun a => ⟨fun ha => ?_, fun ha => ?_⟩
    · obtain ⟨p, hp, e⟩ := List.mem_map.mp ha
      exact List.mem_map.mpr ⟨p, List.mem_of_mem_take (g.sub p hp), e⟩
    · obtain ⟨p, hp, e⟩ := List.mem_map.mp ha
      rw [← e]
      exact g.all p (by rw [List.take_length]; exact hp)
  refine call_len_set ho hex hd (SetTR.fits (s := { s1 with heap := h', toks := tk }) R) (by have := R.few; rw [hsz]; omega) ⟨.int ((dd (ks.map (·.2))).length : Nat), H1, I2.tok _, ⟨_, by rw [hle]⟩, q1⟩
/-- the ints of a tuple; of all tuples of a list -/
def intsOf : List T → Option (List Int)
  | [] => some []
  | .int i :: ts => (intsOf ts).map (i :: ·)
  | _ => none
def tupsOf : List T → Option (List (List Int))
  | [] => some []
  | .tuple ts :: us => (match intsOf ts, tupsOf us with
    | some a, some b => some (a :: b)
    | _, _ => none)
  | _ => none
theorem intsOf_dp {K : PySem.W.Frag} {F : Hp} : ∀ {ts : List T} {xs : List V} {ns : List Int}, DpAll K F xs ts → intsOf ts = some ns → xs = ns.map V.int
  | [], _, _, d, h => by cases d; cases h; rfl
  | t :: ts, _, _, d, h => by
    cases d with
    | cons a d =>
      cases t with
      | int i =>
        cases a
        simp only [intsOf] at h
        cases q : intsOf ts with
        | none => rw [q] at h; cases h
        | some ns => rw [q] at h; cases h; rw [intsOf_dp d q]; rfl
      | _ => cases h
theorem tupsOf_dp {K : PySem.W.Frag} {F : Hp} : ∀ {ts : List T} {xs : List V} {ns : List (List Int)}, DpAll K F xs ts → tupsOf ts = some ns → ∃ ks : List (Addr × List Int), xs = ks.map (fun p => V.ref p.1) ∧ ks.map (·.2) = ns ∧ ∀ p ∈ ks, SqT K F p.1 (p.2.map V.int)
  | [], _, _, d, h => by cases d; cases h; exact ⟨[], rfl, rfl, fun p hp => by cases hp⟩
  | t :: ts, _, _, d, h => by
    cases d with
    | cons a d =>
      cases t with
      | tuple us =>
        simp only [tupsOf] at h
        cases q : intsOf us with
        | none => rw [q] at h; cases h
        | some ms =>
          cases q2 : tupsOf ts with
          | none => rw [q, q2] at h; cases h
          | some ns =>
            rw [q, q2] at h; cases h
            obtain ⟨ks, e1, e2, e3⟩ := tupsOf_dp d q2
            cases a with
            | tup hs dd =>
              rename_i p xs'
              refine ⟨(p, ms) :: ks, by rw [e1]; rfl, by rw [← e2]; rfl, fun p' hp => ?_⟩
              rcases List.mem_cons.mp hp with e | hp
              · subst e; rw [← intsOf_dp dd q]; exact SqT.of hs
              · exact e3 p' hp
      | _ => cases h
def eLenSet (m : SemE) : SemE := fun e => (m e).bind fun r e1 => match r.val e1 with
  | some (.list ts) => (match tupsOf ts with
    | some ns => if ns.length < 64 then .ok (.r (.int ((dd ns).length : Nat))) e1 else .bad
    | none => .bad)
  | _ => .bad
theorem qlenset {p p2 q : Pos} (hc : X.calm = true) (hu : X.A.units + 64 < cLine) (hg : Gl X "len") (hm : X.mg "len" = none) (hg2 : Gl X "set") (hm2 : X.mg "set" = none) (ha : QE X W a ma)
    (na : starEach [a] X.env = (false, eval a X.env) :: starEach [] X.env := by rfl) : QE X W (.Call (.Name "len" p) [.Call (.Name "set" p2) [a] [] q] [] pos) (eLenSet ma) := by
  refine pe_mono (pe_lenSetT hc hu hg hm hg2 hm2 ha na) fun σ H Q h => ?_
  obtain ⟨e, F, R, h⟩ := h
  refine tX_imp (tX_bind (rel := fun σ => OdR X.K σ) R .refl h) fun x H1 ⟨r, e1, F1, R1, S1, O1, h1⟩ => ?_
  split at h1
  · rename_i ts q
    obtain ⟨l, xs, rfl, hs, d⟩ := val_ok R1 O1 q
    cases q2 : tupsOf ts with
    | none => simp only [q2] at h1; exact h1.elim
    | some ns =>
      simp only [q2] at h1
      split at h1
      · rename_i hl
        obtain ⟨ks, e1, e2, e3⟩ := tupsOf_dp d q2
        refine ⟨l, ks, rfl, by rw [← e1]; exact hs, fun p hp => sqT_mono R1.sub (e3 p hp), ?_, ?_⟩
        · have : ks.length = ns.length := by rw [← e2]; simp
          omega
        · rw [e2]; exact h1 _ F1 H1 R1 S1 (.int _)
      · exact h1.elim
  · exact h1.elim
end
end Ev
namespace Ev
open PySem PySem.Spec PyProof.Rows L2
/-! ### the law's end: any world -/
def CXE : CXT := fun outer H s E e s' => ∃ (P : Program) (w : World), L2N.CX P w outer H s E e s'
theorem law_CXE (H : Hp) (s : Shared) (e : Value) (s' : Shared) : CXE [] H s (fun _ _ _ => False) e s' → False := fun ⟨_, _, z⟩ => law_CX H s e s' z
end Ev

set_option Elab.async false
set_option linter.all false
set_option maxRecDepth 100000
namespace L2
open PySem PySem.Spec PyProof.Rows
end L2
namespace Ev
open PySem PySem.Spec PyProof.Rows L2
def iR2w (m : SemA) : SemI := fun e => (m e).bind fun rs e1 => match vals e1 rs with
  | some [.int i, .int j] => .ok (intsT i (j - i).toNat) e1
  | _ => .bad
end Ev
namespace Ev
open PySem PySem.Spec PyProof.Rows L2
theorem qpar3 {X : Cx} {W : WX} {B : Bd} {a b c : Expr} {pos : Pos} {i j l : Nat} {x y z : Str} {px py pz pt : Pos} {kt k2 pt2} {m : SemA} (hc : X.calm = true) (hN : X.N.Nodup) (hi : X.N[i]? = some x) (hj : X.N[j]? = some y) (hl : X.N[l]? = some z) (hij : i ≠ j) (hil : i ≠ l) (hjl : j ≠ l)
    (hx : X.env.scope.names.lookup x = some .local) (hy : X.env.scope.names.lookup y = some .local) (hz : X.env.scope.names.lookup z = some .local) (ha : QA X W [a, b, c] m)
    (hw : swappedStores [.Tuple [.Name x px, .Name y py, .Name z pz] kt pt] (.Tuple [a, b, c] k2 pt2) X.env = pure (some [x, y, z]))
    (hs : swapsWithSole [.Tuple [.Name x px, .Name y py, .Name z pz] kt pt] (.Tuple [a, b, c] k2 pt2) pos.line X.env = pure false := by rfl) :
    QS X W B (.Assign [.Tuple [.Name x px, .Name y py, .Name z pz] kt pt] (.Tuple [a, b, c] k2 pt2) pos) (sPar [i, j, l] m) :=
  ps_mono (ps_par3 hc hN hi hj hl hij hil hjl hx hy hz ha hw hs) fun D σ H h => tX_imp (par_read h) fun xs H1 ⟨hl, q, _⟩ => by
    match xs, hl, q with
    | [v, w, u], _, q => exact ⟨v, w, u, rfl, q⟩
end Ev

set_option Elab.async false
set_option linter.all false
set_option maxRecDepth 100000
namespace Ev
open PySem PySem.Spec PyProof.Rows L2
section
variable {K : PySem.W.Frag} {W : WX} {e e1 : En} {σ : Sg} {F H : Hp}
/-- what a name alone holds is changed, whatever it is -/
theorem upd_ownB {i : Nat} {l : Bool} {z z' : Bx} {p : Addr} {o' : HO} (R : Rel K e σ F H) (h1 : e[i]? = some (.ow l z)) (h2 : σ[i]? = some (some (.ref p))) (d : BxAt K F (upd H p o') p z') :
    Rel K (e.set i (.ow l z')) σ F (upd H p o') ∧ Step e (e.set i (.ow l z')) σ F H F (upd H p o') := by
  have hi : i < e.length := (List.getElem?_eq_some_iff.mp h1).1
  have ow : Own e σ p := ⟨i, l, z, h1, h2⟩
  have hf := (R.owned ow).1
  have get : ∀ (j : Nat) (s : Sl), (e.set i (.ow l z'))[j]? = some s → (j = i ∧ s = .ow l z') ∨ (i ≠ j ∧ e[j]? = some s) := fun j s h => by
    by_cases q : i = j
    · subst q; rw [List.getElem?_set_self hi] at h; cases h; exact .inl ⟨rfl, rfl⟩
    · rw [List.getElem?_set_ne q] at h; exact .inr ⟨q, h⟩
  have kind : ∀ (j : Nat) (l' : Bool) (b' : Bx), (e.set i (.ow l z'))[j]? = some (.ow l' b') → ∃ b, e[j]? = some (.ow l' b) := fun j l' b' h => by
    rcases get j _ h with ⟨rfl, q⟩ | ⟨_, q⟩
    · cases q; exact ⟨z, h1⟩
    · exact ⟨b', q⟩
  refine ⟨⟨fun a o h => ?_, by simp [R.len], fun j s o g1 g2 => ?_, fun j j' l1 b1 l2 b2 q g1 g2 g3 g4 => ?_⟩, ⟨fun _ _ h => h, fun a o h n => ?_, fun a o h => ?_, fun a ⟨j, l', b', g1, g2⟩ => ?_, fun j hj => ?_, kind⟩⟩
  · rw [upd_ne (ne_of_none h hf)]; exact R.sub _ _ h
  · rcases get j s g1 with ⟨rfl, rfl⟩ | ⟨q, g⟩
    · rw [h2] at g2; cases g2; exact ⟨p, rfl, hf, d⟩
    · have w := R.at_ j s o g g2
      cases s with
      | un => trivial
      | v t => exact w
      | fz b => exact w
      | ow l' b =>
        obtain ⟨p', ep, hf', bx⟩ := w
        subst ep
        have np : p' ≠ p := fun w => by subst w; exact q (R.ne i j l z l' b p' h1 g h2 g2)
        exact ⟨p', rfl, hf', bx_keep bx (fun _ _ h => h) fun u h' => by rw [upd_ne np]; exact h'⟩
  · obtain ⟨b1', q1⟩ := kind j _ _ g1
    obtain ⟨b2', q2⟩ := kind j' _ _ g2
    exact R.ne j j' _ _ _ _ q q1 q2 g3 g4
  · have np : a ≠ p := fun w => n (by subst w; exact ow)
    exact ⟨by rw [upd_ne np]; exact h, fun w => w⟩
  · by_cases q : a = p
    · subst q; exact ⟨_, upd_same⟩
    · exact ⟨o, by rw [upd_ne q]; exact h⟩
  · obtain ⟨b, q⟩ := kind j _ _ g1
    exact ⟨j, l', b, q, g2⟩
  · obtain ⟨b', q⟩ := hj
    by_cases ij : i = j
    · subst ij
      rw [h1] at q
      rcases q with q | q
      · cases q; exact ⟨_, .inl (List.getElem?_set_self hi)⟩
      · cases q
    · exact ⟨b', by rw [List.getElem?_set_ne ij]; exact q⟩
end
/-! ### dicts of one's own: keys ints and texts -/
def keyEq : T → T → Bool
  | .int i, .int j => decide (i = j)
  | .str x, .str y => decide (x = y)
  | _, _ => false
def keyOf : T → Option Key
  | .int i => some (.inl i)
  | .str x => some (.inr x)
  | _ => none
def dLook (kvs : List (T × T)) (k : T) : Option T := (kvs.find? fun q => keyEq q.1 k).map (·.2)
def dPut (kvs : List (T × T)) (k v : T) : List (T × T) := if (kvs.any fun q => keyEq q.1 k) = true then kvs.map (fun q => if keyEq q.1 k = true then (q.1, v) else q) else kvs ++ [(k, v)]
section
variable {X : Cx} {W : WX} {B : Bd} {a b c : Expr} {ma mb mc : SemE} {pos : Pos}
/-- d[k] -/
def eDGet (i : Nat) (mk : SemE) : SemE := fun e => match e[i]? with
  | some (.ow _ (.d _)) => (mk e).bind fun r e1 => match r.val e1, e1[i]? with
    | some t, some (.ow _ (.d kvs)) => (match keyOf t, dLook kvs t with
      | some _, some u => .ok (.r u) e1
      | _, _ => .bad)
    | _, _ => .bad
  | _ => .bad
/-- d[k] = v -/
def sDPutV (i : Nat) (mk mv : SemE) : SemS := fun e => (mv e).bind fun r e1 => match e1[i]? with
  | some (.ow _ (.d _)) => (mk e1).bind fun rk e2 => (match rk.val e2, esc r e2 with
    | some t, some (u, e3) => (match keyOf t, e3[i]? with
      | some _, some (.ow l (.d kvs)) => if kvs.length < sizeLine then .ok .nx (e3.set i (.ow l (.d (dPut kvs t u)))) else .bad
      | _, _ => .bad)
    | _, _ => .bad)
  | _ => .bad
end
section
variable {K : PySem.W.Frag} {e e1 : En} {σ : Sg} {F H F1 H1 : Hp} {p : Addr} {o : HO}
end
section
variable {X : Cx} {W : WX} {B : Bd} {a b c : Expr} {ma mb mc : SemE} {pos : Pos}
end
theorem units1 {k : Nat} {A : Around} (r : Room k A) : A.units + 1 < cLine := by have := r.un; omega
end Ev

set_option Elab.async false
set_option linter.all false
set_option maxRecDepth 100000
namespace Ev
open PySem PySem.Spec PyProof.Rows L2
/-! ### dicts of one's own: keys tuples of ints and texts -/
def keyOfs : List T → Option (List Key)
  | [] => some []
  | t :: ts => match keyOf t, keyOfs ts with
    | some k, some ks => some (k :: ks)
    | _, _ => none
def keyM : T → Option (List Key)
  | .tuple ts => keyOfs ts
  | _ => none
def mEq (a b : T) : Bool := decide (keyM a = keyM b)
def mLook (kvs : List (T × T)) (k : T) : Option T := (kvs.find? fun q => mEq q.1 k).map (·.2)
def mPut (kvs : List (T × T)) (k v : T) : List (T × T) := if (kvs.any fun q => mEq q.1 k) = true then kvs.map (fun q => if mEq q.1 k = true then (q.1, v) else q) else kvs ++ [(k, v)]
theorem keyOfs_ky : ∀ ks : List Key, keyOfs (ks.map kyT) = some ks
  | [] => rfl
  | k :: ks => by
    rw [List.map_cons, keyOfs, keyOfs_ky ks]
    cases k <;> rfl
theorem keyM_ky (ks : List Key) : keyM (.tuple (ks.map kyT)) = some ks := keyOfs_ky ks
theorem mEq_ky (a b : List Key) : mEq (.tuple (a.map kyT)) (.tuple (b.map kyT)) = decide (a = b) := by
  unfold mEq
  rw [keyM_ky, keyM_ky]
  by_cases h : a = b
  · rw [decide_eq_true h, h]; simp
  · rw [decide_eq_false h]; simp [h]
theorem keyOfs_dp {K : PySem.W.Frag} {F : Hp} : ∀ {ts : List T} {xs : List V} {ks : List Key}, keyOfs ts = some ks → DpAll K F xs ts → xs = ks.map kV ∧ ts = ks.map kyT
  | [], _, _, h, d => by cases h; cases d; exact ⟨rfl, rfl⟩
  | t :: ts, _, _, h, d => by
    cases d with
    | cons d1 d2 =>
      rw [keyOfs] at h
      split at h
      · rename_i k ks q1 q2
        cases h
        obtain ⟨e1, e2⟩ := keyOfs_dp q2 d2
        cases t with
        | int i => cases q1; cases d1; exact ⟨by rw [e1]; rfl, by rw [e2]; rfl⟩
        | str x => cases q1; cases d1; exact ⟨by rw [e1]; rfl, by rw [e2]; rfl⟩
        | _ => cases q1
      · cases h
theorem keyM_dp {K : PySem.W.Frag} {F H : Hp} {t : T} {k : List Key} {x : V} (ff : ∀ a o, F a = some o → H a = some o) (h : keyM t = some k) (d : DpO K F H x t) : ∃ b, x = .ref b ∧ H b = some (.tup (k.map kV)) ∧ t = .tuple (k.map kyT) := by
  cases t with
  | tuple ts =>
    have d : Dp K F x (.tuple ts) := d
    cases d with
    | tup h1 h2 =>
      obtain ⟨e1, e2⟩ := keyOfs_dp h h2
      exact ⟨_, rfl, by rw [← e1]; exact ff _ _ h1, by rw [e2]⟩
  | _ => cases h
theorem km_look {K : PySem.W.Frag} {F : Hp} {ks : List (List Key × V)} {kvs : List (T × T)} (h : KmR K F ks kvs) (k : List Key) : (valV ks k = none ∧ mLook kvs (.tuple (k.map kyT)) = none) ∨ ∃ v t, valV ks k = some v ∧ mLook kvs (.tuple (k.map kyT)) = some t ∧ Dp K F v t := by
  unfold KmR at h
  induction h with
  | nil => exact .inl ⟨rfl, rfl⟩
  | @cons a b as bs p _ ih =>
    have e : mEq b.1 (.tuple (k.map kyT)) = decide (a.1 = k) := by rw [p.1, mEq_ky]
    by_cases q : a.1 = k
    · refine .inr ⟨a.2, b.2, valV_pos q, ?_, p.2⟩
      unfold mLook
      rw [List.find?_cons_of_pos (by rw [e]; exact decide_eq_true q)]
      rfl
    · have e2 : mLook (b :: bs) (.tuple (k.map kyT)) = mLook bs (.tuple (k.map kyT)) := by
        unfold mLook
        rw [List.find?_cons_of_neg (by rw [e]; simpa using q)]
      rw [valV_neg q, e2]
      exact ih
theorem km_any {K : PySem.W.Frag} {F : Hp} {ks : List (List Key × V)} {kvs : List (T × T)} (h : KmR K F ks kvs) (k : List Key) : (ks.any fun q => decide (q.1 = k)) = kvs.any fun q => mEq q.1 (.tuple (k.map kyT)) := by
  unfold KmR at h
  induction h with
  | nil => rfl
  | @cons a b as bs p _ ih => rw [List.any_cons, List.any_cons, ih, p.1, mEq_ky]
theorem km_put {K : PySem.W.Frag} {F : Hp} {ks : List (List Key × V)} {kvs : List (T × T)} (h : KmR K F ks kvs) (k : List Key) {v : V} {t : T} (d : Dp K F v t) : KmR K F (putK ks k v) (mPut kvs (.tuple (k.map kyT)) t) := by
  have ha := km_any h k
  unfold putK mPut
  rw [ha]
  by_cases q : (kvs.any fun q => mEq q.1 (.tuple (k.map kyT))) = true
  · rw [if_pos q, if_pos q]
    clear ha q
    unfold KmR at h ⊢
    induction h with
    | nil => exact .nil
    | @cons a b as bs p _ ih =>
      rw [List.map_cons, List.map_cons]
      refine .cons ?_ ih
      have e : mEq b.1 (.tuple (k.map kyT)) = decide (a.1 = k) := by rw [p.1, mEq_ky]
      by_cases q : a.1 = k
      · rw [if_pos q, if_pos (by rw [e]; exact decide_eq_true q)]; exact ⟨p.1, d⟩
      · rw [if_neg q, if_neg (by rw [e]; simpa using q)]; exact p
  · rw [if_neg q, if_neg q]
    clear ha q
    unfold KmR at h ⊢
    induction h with
    | nil => exact .cons ⟨rfl, d⟩ .nil
    | cons a _ ih => exact .cons a ih
theorem km_len {K : PySem.W.Frag} {F : Hp} {ks : List (List Key × V)} {kvs : List (T × T)} (h : KmR K F ks kvs) : ks.length = kvs.length := by
  unfold KmR at h
  induction h with
  | nil => rfl
  | cons _ _ ih => rw [List.length_cons, List.length_cons, ih]
section
variable {X : Cx} {W : WX} {B : Bd} {a b c : Expr} {ma mb mc : SemE} {pos : Pos}
/-- d[k] -/
def eMGet (i : Nat) (mk : SemE) : SemE := fun e => match e[i]? with
  | some (.ow _ (.m _)) => (mk e).bind fun r e1 => match r.val e1, e1[i]? with
    | some t, some (.ow _ (.m kvs)) => (match keyM t, mLook kvs t with
      | some _, some u => .ok (.r u) e1
      | _, _ => .bad)
    | _, _ => .bad
  | _ => .bad
/-- k in d, k not in d -/
def eMIn (neg : Bool) (i : Nat) (mk : SemE) : SemE := fun e => (mk e).bind fun r e1 => match r.val e1, e1[i]? with
  | some t, some (.ow _ (.m kvs)) => (match keyM t with
    | some _ => .ok (.r (.bool (if neg then !(mLook kvs t).isSome else (mLook kvs t).isSome))) e1
    | _ => .bad)
  | _, _ => .bad
theorem min_read {i : Nat} {neg : Bool} {σ : Sg} {H : Hp} {Q : VK} {K : PySem.W.Frag} (h : tE K W (eMIn neg i ma) σ H Q) :
    tE K W ma σ H fun y H1 => ∃ v, σ[i]? = some (some v) ∧ ∃ a o, v = .ref a ∧ DGet H1 a y o ∧ Q (.bl (if neg then !o.isSome else o.isSome)) H1 := by
  obtain ⟨e, F, R, h⟩ := h
  refine tX_imp (tX_bind (rel := fun σ => OdR K σ) R .refl h) fun y H1 ⟨r, e1, F1, R1, S1, O1, h1⟩ => ?_
  split at h1
  · rename_i t l kvs q1 q2
    obtain ⟨o, hs0, p0, ep, hf, ks, hx, kd⟩ := R1.var q2
    subst ep
    split at h1
    · rename_i k q3
      obtain ⟨b0, ey, eb, et⟩ := keyM_dp R1.sub q3 (val_ok R1 O1 q1)
      subst ey et
      refine ⟨_, hs0, p0, valV ks k, rfl, DGet.t hx eb, ?_⟩
      have e : (mLook kvs (.tuple (k.map kyT))).isSome = (valV ks k).isSome := by
        rcases km_look kd k with ⟨z1, z2⟩ | ⟨v, t, z1, z2, _⟩
        · rw [z1, z2]; rfl
        · rw [z1, z2]; rfl
      rw [e] at h1
      exact h1 _ F1 H1 R1 S1 (.bl _)
    · exact h1.elim
  · exact h1.elim
theorem qtmnotin {i : Nat} {x : Str} {p : Pos} (hu : X.A.units + 1 < cLine) (hN : X.N[i]? = some x) (hv : Vis X.env.scope x) (hi : QE X W a ma) (hm : behindInMarks .NotIn (.Name x p) = false := by rfl) (hd : (x == ("__debug__" : Str)) = false := by decide) (hcd : (x == ("__classdict__" : Str)) = false := by decide) :
    QT X W (.Compare a [.NotIn] [.Name x p] pos) (tb (eMIn true i ma)) :=
  pt_mono (pt_cmp (pc_dnotin hu hi (pe_var hN hv hd hcd)) hm) fun σ H Q h => tX_imp (min_read (tb_read h)) fun y H1 ⟨v, hs, a, o, ev, g, q⟩ => ⟨v, hs, a, o, ev, g, q⟩
/-- k in a dict that is made there and then -/
def eMInE (neg : Bool) (mk md : SemE) : SemE := fun e => (mk e).bind fun r e1 => match r with
  | .r t => (md e1).bind fun rd e2 => (match rd, keyM t with
    | .b (.m kvs), some _ => .ok (.r (.bool (if neg then !(mLook kvs t).isSome else (mLook kvs t).isSome))) e2
    | _, _ => .bad)
  | _ => .bad
/-- d[k] = v -/
def sMPut (i : Nat) (mk mv : SemE) : SemS := fun e => (mv e).bind fun r e1 => match e1[i]? with
  | some (.ow _ (.m _)) => (mk e1).bind fun rk e2 => (match rk.val e2, esc r e2 with
    | some t, some (u, e3) => (match keyM t, e3[i]? with
      | some _, some (.ow l (.m kvs)) => if kvs.length < sizeLine then .ok .nx (e3.set i (.ow l (.m (mPut kvs t u)))) else .bad
      | _, _ => .bad)
    | _, _ => .bad)
  | _ => .bad
theorem qmput {i : Nat} {x : Str} {p p' : Pos} {ix v : Expr} {mi mv : SemE} (hu : X.A.units + 1 < cLine) (hN : X.N[i]? = some x) (hv : Vis X.env.scope x) (hi : QE X W ix mi) (hval : QE X W v mv) (hs : swapsWith v (some (.Subscript (.Name x p) ix p')) pos.line X.env = pure false := by rfl) (hd : (x == ("__debug__" : Str)) = false := by decide) (hcd : (x == ("__classdict__" : Str)) = false := by decide) :
    QS X W B (.Assign [.Subscript (.Name x p) ix p'] v pos) (sMPut i mi mv) := by
  refine ps_mono (ps_dput hu (pe_var hN hv hd hcd) hi hval hs) fun D σ H h => ?_
  obtain ⟨e, F, R, k, h⟩ := h
  refine tX_imp (tS_bind (rel := fun σ => OdR X.K σ) R k h) fun y H1 ⟨r, e1, F1, R1, S1, k1, O1, h1⟩ => ?_
  split at h1
  · rename_i l0 kv0 q0
    obtain ⟨o, hs0, p0, ep, _⟩ := R1.var q0
    subst ep
    refine ⟨_, hs0, tX_imp (tS_bind (B := B) (m := mi) (rel := fun σ => OdR X.K σ) R1 k1 h1) fun iv H2 ⟨ri, e2, F2, R2, S2, k2, O2, h2⟩ => ?_⟩
    have O1' := od_stay O1 (fun p hp => fresh_not_own R S1 hp) S2
    split at h2
    · rename_i t u e3 q1 q2
      obtain ⟨F3, R3, S3, d3, _⟩ := esc_ok R R2 (S1.trans S2) O1' q2
      split at h2
      · rename_i kk l kvs q4 q5
        obtain ⟨b0, ey, eb, et⟩ := keyM_dp R2.sub q4 (val_ok R2 O2 q1)
        subst ey et
        split at h2
        · rename_i hl
          obtain ⟨p1, ep, hf, ks, hx, kd⟩ := R3.at_ i _ _ q5 hs0
          cases ep
          refine ⟨p0, _, rfl, DPut.t hx eb (by rw [km_len kd]; exact hl), ?_⟩
          obtain ⟨R4, S4⟩ := upd_ownB R3 q5 hs0 (o' := .dT (putK ks kk y)) (z' := .m (mPut kvs (.tuple (kk.map kyT)) u)) ⟨_, upd_same, km_put kd kk d3⟩
          exact h2 σ F3 _ R4 ((k.step S3).step S4)
        · exact h2.elim
      · exact h2.elim
    · exact h2.elim
  · exact h1.elim
/-- {} -/
def eMNew : SemE := fun e => .ok (.b (.m [])) e
theorem qmnew : QE X W (.Dict [] [] pos) eMNew := by
  refine pe_mono pe_dnewT fun σ H Q h => ?_
  obtain ⟨e, F, R, h⟩ := h
  intro p hp
  exact h _ F _ (laid_own R hp) (laid_own_step hp) ⟨p, rfl, hp, sub_none R hp, [], upd_same, .nil⟩
/-- the number of keys -/
def eMLen (i : Nat) : SemE := fun e => match e[i]? with
  | some (.ow _ (.m kvs)) => .ok (.r (.int (kvs.length : Int))) e
  | _ => .bad
end
/-! #### {k: v} with a tuple k -/
section
variable {X : Cx} {W : WX} {B : Bd} {a b c : Expr} {ma mb mc : SemE} {pos : Pos}
def eMDict1 (mk mv : SemE) : SemE := fun e => (mk e).bind fun rk e1 => (mv e1).bind fun rv e2 => match rk.val e2, rv with
  | some t, .r u => (match keyM t with
    | some _ => .ok (.b (.m [(t, u)])) e2
    | none => .bad)
  | _, _ => .bad
end
end Ev

set_option Elab.async false
set_option linter.all false
set_option maxRecDepth 100000
namespace Ev
open PySem PySem.Spec PyProof.Rows L2
/-! ### len of a dict with tuple keys -/
section
variable {X : Cx} {W : WX} {B : Bd} {a b c : Expr} {ma mb mc : SemE} {pos : Pos}
end
/-! ### sorted, of trees -/
end Ev

set_option Elab.async false
set_option linter.all false
set_option maxRecDepth 100000
set_option maxHeartbeats 1000000
/-! ### list(zip(t, u)) of two tuples -/
namespace LZ
open PySem PySem.W PySem.Calls PyProof.Rows PyProof.V PySem.Spec
open PySem.Sem (wp)
section
variable {prog : Program} {w : World} {A : Around} {E : Value → Shared → Prop} {s : Shared}
end
/-- the zip before its turn i; the list S stands apart -/
structure ZSt (h : Heap) (z TI TO i1 i2 l1 l2 S : Addr) (xs ys : Array Value) (i : Nat) : Prop where
  zip : (IsZip h z TI TO .none ∧ ∃ a b, IsPair h TO a b) ∨ ∃ (T : Addr) (f : Bool) (oT : Obj), IsZipHeld h z TI TO T f ∧ h.get? T = some oT ∧ T ≠ z ∧ T ≠ i1 ∧ T ≠ i2 ∧ T ≠ S
  tI : IsPair h TI (.ref i1) (.ref i2)
  it1 : h.IsTupleIter i1 l1 i
  it2 : h.IsTupleIter i2 l2 i
  li1 : h.IsTuple l1 xs
  li2 : h.IsTuple l2 ys
structure SApart (z TI TO i1 i2 l1 l2 S : Addr) : Prop where
  z : S ≠ z
  TI : S ≠ TI
  TO : S ≠ TO
  i1 : S ≠ i1
  i2 : S ≠ i2
  l1 : S ≠ l1
  l2 : S ≠ l2
theorem ZSt.up {h h' : Heap} {z TI TO i1 i2 l1 l2 S : Addr} {xs ys : Array Value} {i : Nat} (st : ZSt h z TI TO i1 i2 l1 l2 S xs ys i) (D : SApart z TI TO i1 i2 l1 l2 S) (up : ∀ b o, b ≠ S → h.get? b = some o → h'.get? b = some o) : ZSt h' z TI TO i1 i2 l1 l2 S xs ys i where
  zip := by
    rcases st.zip with ⟨hz, a, b, hTO⟩ | ⟨T, f, oT, hz, hT, n1, n2, n3, n4⟩
    · exact .inl ⟨up _ _ D.z.symm hz, a, b, up _ _ D.TO.symm hTO⟩
    · exact .inr ⟨T, f, oT, up _ _ D.z.symm hz, up _ _ n4 hT, n1, n2, n3, n4⟩
  tI := up _ _ D.TI.symm st.tI
  it1 := st.it1.at fun o e => up _ o D.i1.symm e
  it2 := st.it2.at fun o e => up _ o D.i2.symm e
  li1 := st.li1.at fun o e => up _ o D.l1.symm e
  li2 := st.li2.at fun o e => up _ o D.l2.symm e
section
variable {prog : Program} {w : World} {A : Around} {E : Value → Shared → Prop} {s : Shared}
end
/-- the pairs made so far -/
structure MadeZ (xs ys : Array Value) (lo : Addr) (h : Heap) (as : List Addr) : Prop where
  rise : as.Pairwise (· < ·)
  above : ∀ a ∈ as, lo < a
  pairs : ∀ (j : Nat) (a : Addr), as[j]? = some a → ∃ x y, xs[j]? = some x ∧ ys[j]? = some y ∧ IsPair h a x y
theorem MadeZ.there {xs ys : Array Value} {lo : Addr} {h : Heap} {as : List Addr} (g : MadeZ xs ys lo h as) {a : Addr} (ha : a ∈ as) : a < h.objs.size := by
  obtain ⟨j, hj⟩ := List.mem_iff_getElem?.mp ha
  obtain ⟨_, _, _, _, e⟩ := g.pairs j a hj
  exact Heap.lt_size e
section
variable {prog : Program} {w : World} {A : Around} {s : Shared} {R : Result → Shared → Prop} {xs ys : Array Value}
end
section
variable {prog : Program} {w : World} {A : Around} {E : Value → Shared → Prop} {s : Shared} {xs ys : Array Value}
end
end LZ

set_option Elab.async false
set_option linter.all false
set_option maxRecDepth 100000
set_option maxHeartbeats 1000000
namespace Ev
open PySem PySem.Spec PyProof.Rows L2
/-! ### list(zip(t, u)) -/
section
variable {K : PySem.W.Frag} {W : WX} {e e1 : En} {σ : Sg} {F H H2 : Hp} {as : List Addr}
end
def eListZip (m : SemA) : SemE := fun e => (m e).bind fun rs e1 => match escs rs e1 with
  | some ([.tuple ts, .tuple us], e2) => if ts.length = us.length then .ok (.b (.l (pairs ts us))) e2 else .bad
  | _ => .bad
end Ev

set_option Elab.async false
set_option linter.all false
set_option maxRecDepth 100000
namespace L2
open PySem PySem.Spec PyProof.Rows
/-! ### a dict comprehension whose keys are tuples -/
end L2

set_option Elab.async false
set_option linter.all false
set_option maxRecDepth 100000
namespace Ev
open PySem PySem.Spec PyProof.Rows L2
/-! ### {k: v for target in iter}, k a tuple: a tree at once -/
section
variable {X : Cx} {W : WX} {B : Bd} {a b c : Expr} {ma mb mc : SemE} {pos : Pos}
end
/-! ### sum -/
def intL : List T → Option (List Int)
  | [] => some []
  | .int i :: ts => (intL ts).map (i :: ·)
  | _ :: _ => none
theorem intL_dp {K : PySem.W.Frag} {F : Hp} : ∀ {ts : List T} {xs : List V} {ns : List Int}, intL ts = some ns → DpAll K F xs ts → xs = ns.map V.int
  | [], _, _, h, d => by cases h; cases d; rfl
  | .int i :: ts, _, _, h, d => by
    cases d with
    | cons d1 d2 =>
      rw [intL] at h
      cases q : intL ts with
      | none => rw [q] at h; cases h
      | some ms => rw [q] at h; cases h; cases d1; rw [intL_dp q d2]; rfl
  | .none :: _, _, _, h, _ => by cases h
  | .bool _ :: _, _, _, h, _ => by cases h
  | .str _ :: _, _, _, h, _ => by cases h
  | .list _ :: _, _, _, h, _ => by cases h
  | .tuple _ :: _, _, _, h, _ => by cases h
  | .dict _ :: _, _, _, h, _ => by cases h
def fSum : T → Option Od
  | .list ts => (intL ts).map fun ns => .r (.int ns.sum)
  | _ => none
abbrev gSum := g1 fSum
end Ev
namespace Ev
open PySem PySem.Spec PyProof.Rows L2
section
variable {X : Cx} {W : WX} {B : Bd} {a : Expr} {ma : SemE} {pos : Pos}
end
end Ev

set_option Elab.async false
set_option linter.all false
set_option maxRecDepth 100000
namespace Ev
open PySem PySem.Spec PyProof.Rows L2
/-! ### dicts whose keys are ints and tuples of such, nested -/
section
variable {X : Cx} {pins : List (Addr × Obj)} {σ : Sg} {F H : Hp} {s : Shared}
end
end Ev

set_option Elab.async false
set_option linter.all false
set_option maxRecDepth 100000
namespace Ev
open PySem PySem.Spec PyProof.Rows L2
section
variable {X : Cx} {W : WX} {B : Bd} {a b c : Expr} {ma mb mc : SemE} {pos : Pos}
/-- {}, to be a dict with nested keys -/
def eNNew : SemE := fun e => .ok (.b (.n [])) e
/-- the number of keys -/
def eNLen (i : Nat) : SemE := fun e => match e[i]? with
  | some (.ow _ (.n kvs)) => .ok (.r (.int (kvs.length : Int))) e
  | _ => .bad
end
/-! ### max(xs), xs a list of ints -/
def top : List Int → Option Int
  | [] => none
  | i :: is => some (is.foldl (fun m y => if m < y then y else m) i)
theorem fold_top : ∀ (is : List Int) (m : Int), (is.foldl (fun m y => if m < y then y else m) m ∈ m :: is) ∧ ∀ y ∈ m :: is, y ≤ is.foldl (fun m y => if m < y then y else m) m
  | [], m => ⟨by simp, by simp⟩
  | i :: is, m => by
    rw [List.foldl_cons]
    obtain ⟨h1, h2⟩ := fold_top is (if m < i then i else m)
    have hm := h2 _ List.mem_cons_self
    have hi : m ≤ (if m < i then i else m) ∧ i ≤ (if m < i then i else m) ∧ ((if m < i then i else m) = i ∨ (if m < i then i else m) = m) := by split <;> omega
    generalize (if m < i then i else m) = j at h1 h2 hm hi
    refine ⟨?_, fun y hy => ?_⟩
    · rcases List.mem_cons.mp h1 with e | e
      · rw [e]; rcases hi.2.2 with r | r <;> rw [r] <;> simp
      · exact List.mem_cons_of_mem _ (List.mem_cons_of_mem _ e)
    · rcases List.mem_cons.mp hy with e | hy
      · subst e; omega
      · rcases List.mem_cons.mp hy with e | hy
        · subst e; omega
        · exact h2 y (List.mem_cons_of_mem _ hy)
theorem top_is {is : List Int} {m : Int} (h : m ∈ is) (hle : ∀ y ∈ is, y ≤ m) : top is = some m := by
  cases is with
  | nil => cases h
  | cons i is =>
    obtain ⟨h1, h2⟩ := fold_top is i
    unfold top
    have a := hle _ h1
    have b := h2 _ h
    exact congrArg some (show is.foldl (fun m y => if m < y then y else m) i = m by omega)
def fMax1 : T → Option Od
  | .list ts => (intL ts).bind fun ns => (top ns).map fun m => .r (.int m)
  | _ => none
abbrev gMax1 := g1 fMax1
end Ev

set_option Elab.async false
set_option linter.all false
set_option maxRecDepth 100000
namespace Ev
open PySem PySem.Spec PyProof.Rows L2
/-! ### list(range(n)) -/
section
variable {X : Cx}
end
def eListRng (m : SemE) : SemE := fun e => (m e).bind fun r e1 => match r.val e1 with
  | some (.int i) => if 0 ≤ i ∧ i ≤ 2 ^ 16 then .ok (.b (.l (intsT 0 i.toNat))) e1 else .bad
  | _ => .bad
section
variable {X : Cx} {W : WX} {a : Expr} {ma : SemE} {p p2 q pos : Pos}
end
end Ev

set_option Elab.async false
set_option linter.all false
set_option maxRecDepth 100000
namespace Ev
open PySem PySem.Spec PyProof.Rows L2
section
variable {X : Cx} {W : WX} {B : Bd} {a b c : Expr} {ma mb mc : SemE} {pos : Pos}
/-! ### len of a dict whose keys are ints or texts -/
def eDLen (i : Nat) : SemE := fun e => match e[i]? with
  | some (.ow _ (.d kvs)) => .ok (.r (.int (kvs.length : Int))) e
  | _ => .bad
/-! ### x[k], x a dict of its own or a list -/
end
end Ev

set_option Elab.async false
set_option linter.all false
set_option maxRecDepth 100000
namespace Ev
open PySem PySem.Spec PyProof.Rows L2
section
variable {X : Cx} {W : WX} {a b : Expr} {ma mb : SemE} {pos : Pos}
/-! ### [x] * n -/
def eRep (ma mb : SemE) : SemE := fun e => (ma e).bind fun ra e1 => (mb e1).bind fun rb e2 => match ra with
  | .b (.l us) => (match rb.val e2 with
    | some (.int k) => if 0 ≤ k ∧ k ≤ 2 ^ 16 ∧ us.length ≤ 16 then .ok (.b (.l (List.replicate k.toNat us).flatten)) e2 else .bad
    | _ => .bad)
  | _ => .bad
theorem dpAll_rep {K : PySem.W.Frag} {F : Hp} {ts : List T} {vs : List V} (d : DpAll K F vs ts) : ∀ n, DpAll K F (List.replicate n vs).flatten (List.replicate n ts).flatten
  | 0 => .nil
  | n + 1 => by
    rw [List.replicate_succ, List.replicate_succ, List.flatten_cons, List.flatten_cons]
    exact dpAll_app d (dpAll_rep d n)
theorem qrep (ha : QE X W a ma) (hb : QE X W b mb) : QE X W (.BinOp a .Mult b pos) (eRep ma mb) := by
  refine pe_mono (pe_op op_rep ha hb) fun σ H Q h => ?_
  obtain ⟨e, F, R, h⟩ := h
  refine tX_imp (tX_bind (rel := fun σ => OdR X.K σ) R .refl h) fun x H1 ⟨ra, e1, F1, R1, S1, O1, h1⟩ => ?_
  refine tX_imp (tX_bind (rel := fun σ => OdR X.K σ) R1 S1 h1) fun y H2 ⟨rb, e2, F2, R2, S2, O2, h2⟩ => ?_
  have O1' := od_stay O1 (fun p hp => fresh_not_own R S1 hp) S2
  cases ra with
  | r _ => exact h2.elim
  | s _ => exact h2.elim
  | b z =>
  cases z with
  | d _ => exact h2.elim
  | m _ => exact h2.elim
  | n _ => exact h2.elim
  | l us =>
  simp only at h2
  cases w : rb.val e2 with
  | none => simp only [w] at h2; exact h2.elim
  | some t =>
  have d := val_ok R2 O2 w
  cases t with
  | none => simp only [w] at h2; exact h2.elim
  | bool _ => simp only [w] at h2; exact h2.elim
  | str _ => simp only [w] at h2; exact h2.elim
  | list _ => simp only [w] at h2; exact h2.elim
  | tuple _ => simp only [w] at h2; exact h2.elim
  | dict _ => simp only [w] at h2; exact h2.elim
  | int k =>
  simp only [w] at h2
  split at h2
  · rename_i hk
    cases d
    obtain ⟨p, rfl, hp, hf, xs, hx, dd⟩ := O1'
    have hl := dpAll_len dd
    have hm : xs.length * k.toNat ≤ 16 * 2 ^ 16 := Nat.mul_le_mul (by rw [hl]; exact hk.2.2) (by omega)
    refine ⟨p, k, xs, rfl, rfl, hx, by omega, by omega, by rw [sizeLine_eq]; omega, fun l hl => ?_⟩
    exact h2 _ F2 _ (laid_own R2 hl) ((S1.trans S2).trans (laid_own_step hl)) ⟨l, rfl, step_none (S1.trans S2) hl, sub_none R2 hl, _, upd_same, dpAll_rep dd k.toNat⟩
  · exact h2.elim
end
end Ev
namespace Ev
open PySem PySem.Spec PyProof.Rows L2
section
variable {X : Cx} {W : WX} {a : Expr} {ma : SemE} {pos : Pos}
/-! ### len of a new dict with tuple keys -/
def eMLenE (m : SemE) : SemE := fun e => (m e).bind fun r e1 => match r with
  | .b (.m kvs) => .ok (.r (.int (kvs.length : Int))) e1
  | _ => .bad
end
end Ev

set_option Elab.async false
set_option linter.all false
set_option maxRecDepth 100000
namespace Ev
open PySem PySem.Spec PyProof.Rows L2
/-! ### dict(xs), xs a list of pairs -/
def pairsOf : List T → Option (List (T × T))
  | [] => some []
  | .tuple [k, v] :: ts => (match keyOf k, pairsOf ts with
    | some _, some r => some ((k, v) :: r)
    | _, _ => none)
  | _ => none
def mergeT (acc kvs : List (T × T)) : List (T × T) := kvs.foldl (fun acc q => dPut acc q.1 q.2) acc
def eDictP (m : SemA) : SemE := fun e => (m e).bind fun rs e1 => match escs rs e1 with
  | some ([.list ts], e2) => (match pairsOf ts with
    | some kvs => .ok (.b (.d (mergeT [] kvs))) e2
    | none => .bad)
  | _ => .bad
section
variable {X : Cx} {W : WX} {B : Bd} {a b c : Expr} {ma mb mc : SemE} {pos : Pos}
/-! ### xs[i], xs[j] = v, w -/
def putS : List (Nat × SemE) → List T → SemS
  | [], [], e => .ok .nx e
  | (i, mk) :: tgs, t :: ts, e => (match e[i]? with
    | some (.ow _ (.l _)) => (mk e).bind fun ri e2 => (match ri.val e2, e2[i]? with
      | some (.int k), some (.ow l (.l us)) => (match ixN us.length k with
        | some j => putS tgs ts (e2.set i (.ow l (.l (us.set j t))))
        | none => .bad)
      | _, _ => .bad)
    | some (.ow _ (.d _)) => (mk e).bind fun ri e2 => (match ri.val e2, e2[i]? with
      | some u, some (.ow l (.d kvs)) => (match keyOf u with
        | some _ => if kvs.length < sizeLine then putS tgs ts (e2.set i (.ow l (.d (dPut kvs u t)))) else .bad
        | none => .bad)
      | _, _ => .bad)
    | _ => .bad)
  | _, _, _ => .bad
def sPutS (tgs : List (Nat × SemE)) (m : SemA) : SemS := fun e => (m e).bind fun rs e1 => match escs rs e1 with
  | some (ts, e2) => if ts.length = tgs.length ∧ ts.length ≤ sizeLine then putS tgs ts e2 else .bad
  | none => .bad
end
end Ev

set_option Elab.async false
set_option linter.all false
set_option maxRecDepth 100000
namespace Ev
open PySem PySem.Spec PyProof.Rows L2
/-! ### wide powers -/
def CPowW (i j : Int) : Prop := 0 ≤ j ∧ j ≤ 100 ∧ i.natAbs.log2 < 1000000
section
variable {X : Cx}
theorem op_powW : OpR X (binaryOp .Pow) (rI CPowW fun i j => .int (i ^ j.toNat)) := opI fun i j _ _ _ _ _ hc q => by
  obtain ⟨h0, h1, h2⟩ := hc
  have hb : Builtin.Int.intBits i ≤ 1000000 := by
    unfold Builtin.Int.intBits
    split <;> omega
  refine pow_int h0 ?_ q
  have h3 : (Builtin.Int.intBits i : Int) * j ≤ 1000000 * j := Int.mul_le_mul_of_nonneg_right (by omega) h0
  omega
end
abbrev gPowW : T → T → Option Od := gII (fun i j => decide (0 ≤ j ∧ j ≤ 100 ∧ i.natAbs.log2 < 1000000)) fun i j => .int (i ^ j.toNat)
theorem does_powW {K : PySem.W.Frag} : Does2 K (rI CPowW fun i j => .int (i ^ j.toNat)) gPowW := does_ii (fun i j h => of_decide_eq_true (p := 0 ≤ j ∧ j ≤ 100 ∧ i.natAbs.log2 < 1000000) h) fun _ _ _ => .int _
theorem gPowW_ok {i j : Int} (h : 0 ≤ j ∧ j ≤ 100 ∧ i.natAbs.log2 < 1000000) : gPowW (.int i) (.int j) = some (.r (.int (i ^ j.toNat))) := by
  simp only [gPowW, gII, h, and_self, decide_true, if_true]
/-! ### zip of two lists or of two tuples -/
def iZip2 (m : SemA) : SemI := fun e => (m e).bind fun rs e1 => match escs rs e1 with
  | some ([.list ts, .list us], e2) => .ok (pairs ts us) e2
  | some ([.tuple ts, .tuple us], e2) => .ok (pairs ts us) e2
  | _ => .bad
end Ev

set_option Elab.async false
set_option linter.all false
set_option maxRecDepth 100000
namespace Ev
open PySem PySem.Spec PyProof.Rows L2
/-! ### a walk over what names hold, which they go on to hold -/
abbrev SemIG := En → Out (List T × (En → Prop))
def WkG (K : PySem.W.Frag) (J : It) (ts : List T) (gd : En → Prop) (σ : Sg) : Prop := ∀ (i : Nat) (e : En) (F H : Hp), Rel K e σ F H → gd e →
  (∀ t, ts[i]? = some t → J.go i H ∧ ∀ x H', J.yld i H x H' → (H' = H ∧ Dp K F x t) ∨ ∃ p vs ws, x = .ref p ∧ H p = none ∧ H' = upd H p (.tup vs) ∧ t = .tuple ws ∧ DpAll K F vs ws) ∧ (ts.length ≤ i → J.stop i H)
abbrev tIG (K : PySem.W.Frag) (W : WX) (m : SemIG) : TI := tX K W (fun σ _ _ _ J p => WkG K J p.1 p.2 σ) m
open Classical in
noncomputable def compSG (gd : En → Prop) (g : SemG) (c : SemT) (m : SemE) (vs : List Nat) : List T → List T → SemE
  | [], acc, e => if gd e then .ok (.b (.l acc)) e else .bad
  | t :: ts, acc, e => if gd e then (match g t (wipeE e vs) with
    | some e1 => (c e1).nx.bind fun k e2 => if k then (m e2).nx.bind fun r e3 => (match esc r e3 with
        | some (u, e4) => if acc.length < sizeLine then compSG gd g c m vs ts (acc ++ [u]) (restE e e4 vs) else .bad
        | none => .bad)
      else compSG gd g c m vs ts acc (restE e e2 vs)
    | none => .bad) else .bad
noncomputable def eCompG (mi : SemIG) (g : SemG) (c : SemT) (m : SemE) (vs : List Nat) : SemE := fun e => (mi e).bind fun p e1 => compSG p.2 g c m vs p.1 [] e1
/-- the reading of a comprehension's walk, from a state on -/
structure CompGN (K : PySem.W.Frag) (W : WX) (F1 : Hp) (gd : En → Prop) (g : SemG) (c : SemT) (m : SemE) (vs : List Nat) (e0 : En) (F0 H0 : Hp) (σ : Sg) (D : Addr) (Q : VK) (ts : List T) (H : Hp) : Prop where
  ex : ∃ e F acc accV, Rel K e σ F H ∧ Step e0 e σ F0 H0 F H ∧ (∀ a o, F1 a = some o → F a = some o) ∧ F D = none ∧ H D = some (.lst accV) ∧ DpAll K F accV acc ∧ OutX K W (OdR K σ) (compSG gd g c m vs ts acc e) e0 σ F0 H0 Q
theorem comp_readG {K : PySem.W.Frag} {W : WX} {mi : SemIG} {g : SemG} {c : SemT} {m : SemE} {vs : List Nat} {σ : Sg} {H : Hp} {Q : VK} (hk : GOk vs g) (h : tE K W (eCompG mi g c m vs) σ H Q) :
    tLc (tIG K W mi) (fun x σ H Q => ∃ B, tG K B vs g x σ H Q) (tT K W0 c) (tE K W0 m) vs σ H Q := by
  obtain ⟨e0, F0, R0, h⟩ := h
  refine tX_imp (tX_bind (rel := fun σ _ _ _ J p => WkG K J p.1 p.2 σ) R0 .refl h) fun J H1 ⟨⟨ts, gd⟩, e1, F1, R1, S1, wk, h1⟩ => ?_
  intro D hD
  have hD0 : H D = none := step_none S1 hD
  have hDF : F1 D = none := sub_none R1 hD
  have ff0 : ∀ a o, F1 a = some o → F1 a = some o := fun _ _ h => h
  refine ⟨fun i n H' => n = ts.length - i ∧ i ≤ ts.length ∧ CompGN K W F1 gd g c m vs e0 F0 H σ D Q (ts.drop i) H', ⟨_, rfl, Nat.zero_le _, ⟨e1, F1, [], [], laid_own R1 hD, S1.trans (laid_own_step hD), ff0, hDF, upd_same, .nil, h1⟩⟩, ?_⟩
  rintro i n H' ⟨rfl, hi, ⟨e2, F2, acc, accV, R2, S2, ff2, hf, hH, d, h2⟩⟩
  have hgd : gd e2 := by
    refine Classical.byContradiction fun z => ?_
    have : compSG gd g c m vs (ts.drop i) acc e2 = .bad := by
      cases ts.drop i with
      | nil => exact if_neg z
      | cons _ _ => exact if_neg z
    rw [this] at h2
    exact h2.elim
  obtain ⟨go, stop⟩ := wk i e2 F2 H' R2 hgd
  by_cases hlt : i < ts.length
  · have ht : ts[i]? = some ts[i] := List.getElem?_eq_getElem hlt
    rw [List.drop_eq_getElem_cons hlt] at h2
    obtain ⟨g1, y1⟩ := go _ ht
    refine .inr ⟨g1, CompGN K W F1 gd g c m vs e0 F0 H σ D Q (ts.drop (i + 1)), fun H3 n => ⟨_, (by omega : ts.length - (i + 1) < ts.length - i), rfl, hlt, n⟩, fun x H3 y => ?_⟩
    simp only [compSG] at h2
    rw [if_pos hgd] at h2
    cases q : g ts[i] (wipeE e2 vs) with
    | none => simp only [q] at h2; exact h2.elim
    | some e3 =>
      simp only [q] at h2
      obtain ⟨l3, a3⟩ := hk _ _ _ q
      have l3 : e3.length = e2.length := l3.trans (wipeE_len e2 vs)
      have D0 : ∀ {e F H3}, Step e0 e σ F0 H F H3 → ¬ Own e σ D := fun S => fresh_not_own R0 S hD0
      -- behind the target
      have next : ∀ (F3 : Hp) (H3 : Hp) (σ2 : Sg), Rel K e2 σ F3 H3 → Step e0 e2 σ F0 H F3 H3 → (∀ a o, F1 a = some o → F3 a = some o) → F3 D = none → H3 D = some (.lst accV) → DpAll K F3 accV acc → Rel K e3 σ2 F3 H3 → Agree vs (wipe σ vs) σ2 →
          wipe σ2 vs = wipe σ vs ∧ tT K W0 c σ2 H3 fun b H4 => if b = true then tE K W0 m σ2 H4 fun y H5 => ∃ acc, H5 D = some (.lst acc) ∧ acc.length < sizeLine ∧ CompGN K W F1 gd g c m vs e0 F0 H σ D Q (ts.drop (i + 1)) (upd H5 D (.lst (acc ++ [y]))) else CompGN K W F1 gd g c m vs e0 F0 H σ D Q (ts.drop (i + 1)) H4 := by
        intro F3 H3 σ2 R3 S3 ff3 hf3 hH3 d3 RB ag
        refine ⟨wipe_agree ag, ?_⟩
        have noD : ¬ Own e3 σ2 D := fun ⟨j, l, b, q1, q2⟩ => by
          have n : j ∉ vs ∧ e2[j]? = some (.ow l b) := by
            by_cases qv : j ∈ vs
            · rcases a3 j with z | ⟨_, t, z⟩
              · rw [q1] at z; exact absurd (wipeE_in qv z.symm) (by intro w; cases w)
              · rw [q1] at z; cases z
            · rcases a3 j with z | ⟨q', _⟩
              · rw [q1, wipeE_out qv] at z; exact ⟨qv, z.symm⟩
              · exact absurd q' qv
          exact D0 S3 ⟨j, l, b, n.2, by rw [← wipe_out n.1, ← ag.2 j n.1]; exact q2⟩
        cases wc : c e3 with
        | bad => rw [wc] at h2; exact h2.elim
        | exc _ _ _ => rw [wc] at h2; exact h2.elim
        | ok k e4 =>
        rw [wc] at h2
        have h4 : OutX K W (OdR K σ) (if k = true then (m e4).nx.bind fun r e5 => (match esc r e5 with
            | some (u, e6) => if acc.length < sizeLine then compSG gd g c m vs (ts.drop (i + 1)) (acc ++ [u]) (restE e2 e6 vs) else .bad
            | none => .bad) else compSG gd g c m vs (ts.drop (i + 1)) acc (restE e2 e4 vs)) e0 σ F0 H Q := h2
        refine tX_nx RB wc fun b F4 H4 R4 S4 eb => ?_
        subst eb
        obtain ⟨hD4, fD4⟩ := S4.keep D _ hH3 noD
        have fD4 := fD4 hf3
        cases b with
        | false =>
          obtain ⟨R', S'⟩ := rest_rel R3 l3 a3 ag R4 S4
          exact ⟨restE e2 e4 vs, F4, acc, accV, R', S3.trans S', fun a o h => S4.ff _ _ (ff3 _ _ h), fD4, hD4, dpAll_mono S4.ff d3, h4⟩
        | true =>
          simp only [if_true] at h4
          rw [if_pos rfl]
          cases wm : m e4 with
          | bad => rw [wm] at h4; exact h4.elim
          | exc _ _ _ => rw [wm] at h4; exact h4.elim
          | ok r e5 =>
          rw [wm] at h4
          have h5 : OutX K W (OdR K σ) (match esc r e5 with
            | some (u, e6) => if acc.length < sizeLine then compSG gd g c m vs (ts.drop (i + 1)) (acc ++ [u]) (restE e2 e6 vs) else .bad
            | none => .bad) e0 σ F0 H Q := h4
          refine tX_nx R4 wm fun y F5 H5 R5 S5 O5 => ?_
          obtain ⟨hD5, fD5⟩ := S5.keep D _ hD4 (fun z => noD (S4.own _ z))
          have fD5 := fD5 fD4
          cases w : esc r e5 with
          | none => simp only [w] at h5; exact h5.elim
          | some te =>
            obtain ⟨u, e6⟩ := te
            simp only [w] at h5
            obtain ⟨F6, R6, S6, d6, _, only⟩ := esc_ok R4 R5 S5 O5 w
            by_cases hl : acc.length < sizeLine
            · rw [if_pos hl] at h5
              obtain ⟨R', S'⟩ := rest_rel R3 l3 a3 ag R6 (S4.trans S6)
              have dd : DpAll K F6 (accV ++ [y]) (acc ++ [u]) := dpAll_app (dpAll_mono (fun a o h => S6.ff _ _ (S4.ff _ _ h)) d3) (.cons d6 .nil)
              have fD6 : F6 D = none := (S6.keep D _ hD4 (fun z => noD (S4.own _ z))).2 fD4
              refine ⟨accV, hD5, by rw [dpAll_len d3]; exact hl, ⟨restE e2 e6 vs, F6, acc ++ [u], accV ++ [y], upd_at R' hD5 fD6 (D0 (S3.trans S')), ?_, fun a o h => S6.ff _ _ (S4.ff _ _ (ff3 _ _ h)), fD6, upd_same, dd, h5⟩⟩
              exact step_upd (S3.trans S') hD0
            · rw [if_neg hl] at h5; exact h5.elim
      have Rw := wipe_rel (vs := vs) R2
      rcases y1 x H3 y with ⟨eH, dx⟩ | ⟨p, xs, ws, ex, hp, eH, et, dx⟩
      · subst eH
        exact ⟨bd0 _ _, wipeE e2 vs, F2, _, e3, Rw, bok0, dx, q, fun σ2 R' _ ag => next F2 _ σ2 R2 S2 ff2 hf hH d R' ag⟩
      · subst eH ex
        have ff3 : ∀ a o, F2 a = some o → upd F2 p (.tup xs) a = some o := fun a o h => by rw [upd_ne (ne_of_none h (sub_none R2 hp))]; exact h
        have nD : D ≠ p := ne_of_none hH hp
        have R3 := laid_frz (o := .tup xs) R2 hp
        have S3 := laid_frz_step (o := .tup xs) R2 S2 hp
        have dd : Dp K (upd F2 p (.tup xs)) (.ref p) ts[i] := by
          rw [et]
          exact .tup upd_same (dpAll_mono ff3 dx)
        exact ⟨bd0 _ _, wipeE e2 vs, _, _, e3, wipe_rel R3, bok0, dd, q, fun σ2 R' _ ag => next _ _ σ2 R3 S3 (fun a o h => ff3 _ _ (ff2 _ _ h)) (by rw [upd_ne nD]; exact hf) (by rw [upd_ne nD]; exact hH) (dpAll_mono ff3 d) R' ag⟩
  · have he : i = ts.length := by omega
    subst he
    rw [List.drop_length] at h2
    rw [show compSG gd g c m vs [] acc e2 = .ok (.b (.l acc)) e2 from if_pos hgd] at h2
    exact .inl ⟨stop (Nat.le_refl _), h2 _ F2 H' R2 S2 ⟨D, rfl, hD0, hf, accV, hH, d⟩⟩

section
variable {X : Cx} {W : WX} {a b c : Expr} {ma mb mc : SemE} {pos : Pos}
theorem qcompG {elt tg iter : Expr} {ifs : List Expr} {scope : Scope} {own : List (Str × Nat)} {vs : List Nat} {mi : SemIG} {g : SemG} {t : SemT} {m : SemE} (hc : X.calm = true) (hN : X.N.Nodup) (hi : PI X tg iter (tIG X.K W mi)) (ok : BlkOk X.N X.env.scope scope own) (hk : GOk vs g) (hvs : own.map (·.2) = vs)
    (hg : ∀ (s : Shared) (H : Hp) (C : Addr) (cl : List (Str × Addr)) (fp : List Addr) (B : Bd), QG (X.blk s H scope (compEnvC scope cl C X.env) fp) B vs tg g) (ht : ∀ (s : Shared) (H : Hp) (C : Addr) (cl : List (Str × Addr)) (fp : List Addr), QTs (X.blk s H scope (compEnvC scope cl C X.env) fp) W0 ifs t)
    (he : ∀ (s : Shared) (H : Hp) (C : Addr) (cl : List (Str × Addr)) (fp : List Addr), QE (X.blk s H scope (compEnvC scope cl C X.env) fp) W0 elt m) (hs : ∀ x, foldedSetIterable iter X.env x = pure x := by intro _; rfl) :
    QE X W (.ListComp elt [⟨tg, iter, ifs, 0⟩] scope pos) (eCompG mi g t m vs) := by
  subst hvs
  exact pe_mono (pe_lc hc hN hi ok (fun s H C cl fp => qg_any (hg s H C cl fp)) ht he hs) fun σ H Q h => comp_readG hk h
/-- zip of two names -/
def seqOf : Sl → Option (List T ⊕ List T)
  | .v (.list ts) => some (.inl ts)
  | .v (.tuple ts) => some (.inr ts)
  | .ow _ (.l ts) => some (.inl ts)
  | .fz (.l ts) => some (.inl ts)
  | _ => none
def iZipV (i j : Nat) : SemIG := fun e => match e[i]?, e[j]? with
  | some si, some sj => (match seqOf si, seqOf sj with
    | some (.inl ts), some (.inl us) => .ok (pairs ts us, fun e' => e'[i]? = some si ∧ e'[j]? = some sj) e
    | some (.inr ts), some (.inr us) => .ok (pairs ts us, fun e' => e'[i]? = some si ∧ e'[j]? = some sj) e
    | _, _ => .bad)
  | _, _ => .bad
theorem seq_l {K : PySem.W.Frag} {F H : Hp} {s : Sl} {o : Option V} {ts : List T} (ff : ∀ a o, F a = some o → H a = some o) (h : RS K F H s o) (q : seqOf s = some (.inl ts)) : ∃ a xs, o = some (.ref a) ∧ SqL K H a xs ∧ DpAll K F xs ts := by
  cases s with
  | un => cases q
  | v t =>
    obtain ⟨x, rfl, d⟩ := h
    cases t with
    | list us => cases q; cases d with | lst h1 h2 => exact ⟨_, _, rfl, sqL_mono ff h1, h2⟩
    | tuple us => cases q
    | _ => cases q
  | ow l b =>
    cases b with
    | l us =>
      cases q
      obtain ⟨p, rfl, _, xs, h1, h2⟩ := h
      exact ⟨p, xs, rfl, SqL.of h1, h2⟩
    | _ => cases q
  | fz b =>
    cases b with
    | l us =>
      cases q
      obtain ⟨x, rfl, d⟩ := h
      cases d with | lst h1 h2 => exact ⟨_, _, rfl, sqL_mono ff h1, h2⟩
    | _ => cases q
theorem seq_r {K : PySem.W.Frag} {F H : Hp} {s : Sl} {o : Option V} {ts : List T} (ff : ∀ a o, F a = some o → H a = some o) (h : RS K F H s o) (q : seqOf s = some (.inr ts)) : ∃ a xs, o = some (.ref a) ∧ SqT K H a xs ∧ DpAll K F xs ts := by
  cases s with
  | un => cases q
  | v t =>
    obtain ⟨x, rfl, d⟩ := h
    cases t with
    | list us => cases q
    | tuple us => cases q; cases d with | tup h1 h2 => exact ⟨_, _, rfl, SqT.of (ff _ _ h1), h2⟩
    | _ => cases q
  | ow l b => cases b <;> cases q
  | fz b => cases b <;> cases q
theorem qizipV {i j : Nat} {x y : Str} {px py : Pos} {p pos tpos : Pos} {elts : List Expr} {kk : Nat} (hg : Gl X "zip") (hm : X.mg "zip" = none) (hN : X.N[i]? = some x) (hv : Vis X.env.scope x) (hN2 : X.N[j]? = some y) (hv2 : Vis X.env.scope y) (hd : (x == ("__debug__" : Str)) = false := by decide) (hcd : (x == ("__classdict__" : Str)) = false := by decide) (hd2 : (y == ("__debug__" : Str)) = false := by decide) (hcd2 : (y == ("__classdict__" : Str)) = false := by decide)
    (hs : starEach [.Name x px, .Name y py] X.env = (false, eval (.Name x px) X.env) :: starEach [.Name y py] X.env := by rfl) (hs2 : starEach [.Name y py] X.env = (false, eval (.Name y py) X.env) :: starEach [] X.env := by rfl) (hpl : (backTo pos (starEach [.Name y py] X.env)).any (·.1) = false := by rfl) :
    PI X (.Tuple elts kk tpos) (.Call (.Name "zip" p) [.Name x px, .Name y py] [] pos) (tIG X.K W (iZipV i j)) := by
  refine pi_mono (RZ.pi_zipA hg hm (pa_cons (pe_var hN hv hd hcd) (pa_cons (pe_var hN2 hv2 hd2 hcd2) pa_nil)) hs hpl) fun σ H Q h => ?_
  obtain ⟨e, F, R, h⟩ := h
  unfold iZipV at h
  split at h
  · rename_i si sj q1 q2
    obtain ⟨o1, k1, r1⟩ := R.var q1
    obtain ⟨o2, k2, r2⟩ := R.var q2
    split at h
    · rename_i ts us w1 w2
      obtain ⟨a, xs, rfl, h1, d1⟩ := seq_l R.sub r1 w1
      obtain ⟨b, ys, rfl, h2, d2⟩ := seq_l R.sub r2 w2
      refine ⟨_, k1, _, k2, a, b, xs, ys, rfl, .inl ⟨h1, h2, h _ F H R .refl fun n e' F' H' R' ⟨g1, g2⟩ => ?_⟩⟩
      obtain ⟨o3, k3, r3⟩ := R'.var g1
      obtain ⟨o4, k4, r4⟩ := R'.var g2
      rw [k1] at k3; cases k3
      rw [k2] at k4; cases k4
      obtain ⟨a', xs', ea, h1', d1'⟩ := seq_l R'.sub r3 w1
      obtain ⟨b', ys', eb, h2', d2'⟩ := seq_l R'.sub r4 w2
      cases ea; cases eb
      refine ⟨fun t ht => ?_, fun hi => ⟨xs', ys', h1', h2', ?_⟩⟩
      · simp only [pairs, List.getElem?_map] at ht
        cases q : (ts.zip us)[n]? with
        | none => rw [q] at ht; cases ht
        | some tu =>
          rw [q] at ht
          cases ht
          obtain ⟨z1, z2⟩ := List.getElem?_zip_eq_some.mp q
          obtain ⟨v, hv, dv⟩ := dpAll_get d1' z1
          obtain ⟨w, hw, dw⟩ := dpAll_get d2' z2
          refine ⟨⟨xs', ys', v, w, h1', h2', hv, hw⟩, fun x H'' ⟨p, x1, y1, ex, hp, eH, y, y'⟩ => .inr ⟨p, [x1, y1], [tu.1, tu.2], ex, hp, eH, rfl, ?_⟩⟩
          have e1 := y xs' h1'
          have e2 := y' ys' h2'
          rw [hv] at e1; cases e1
          rw [hw] at e2; cases e2
          exact .cons dv (.cons dw .nil)
      · simp only [pairs, List.length_map, List.length_zip] at hi
        rw [dpAll_len d1', dpAll_len d2']
        omega
    · rename_i ts us w1 w2
      obtain ⟨a, xs, rfl, h1, d1⟩ := seq_r R.sub r1 w1
      obtain ⟨b, ys, rfl, h2, d2⟩ := seq_r R.sub r2 w2
      refine ⟨_, k1, _, k2, a, b, xs, ys, rfl, .inr ⟨h1, h2, h _ F H R .refl fun n e' F' H' R' ⟨g1, g2⟩ => ?_⟩⟩
      obtain ⟨o3, k3, r3⟩ := R'.var g1
      obtain ⟨o4, k4, r4⟩ := R'.var g2
      rw [k1] at k3; cases k3
      rw [k2] at k4; cases k4
      obtain ⟨a', xs', ea, h1', d1'⟩ := seq_r R'.sub r3 w1
      obtain ⟨b', ys', eb, h2', d2'⟩ := seq_r R'.sub r4 w2
      cases ea; cases eb
      refine ⟨fun t ht => ?_, fun hi => ⟨xs', ys', h1', h2', ?_⟩⟩
      · simp only [pairs, List.getElem?_map] at ht
        cases q : (ts.zip us)[n]? with
        | none => rw [q] at ht; cases ht
        | some tu =>
          rw [q] at ht
          cases ht
          obtain ⟨z1, z2⟩ := List.getElem?_zip_eq_some.mp q
          obtain ⟨v, hv, dv⟩ := dpAll_get d1' z1
          obtain ⟨w, hw, dw⟩ := dpAll_get d2' z2
          refine ⟨⟨xs', ys', v, w, h1', h2', hv, hw⟩, fun x H'' ⟨p, x1, y1, ex, hp, eH, y, y'⟩ => .inr ⟨p, [x1, y1], [tu.1, tu.2], ex, hp, eH, rfl, ?_⟩⟩
          have e1 := y xs' h1'
          have e2 := y' ys' h2'
          rw [hv] at e1; cases e1
          rw [hw] at e2; cases e2
          exact .cons dv (.cons dw .nil)
      · simp only [pairs, List.length_map, List.length_zip] at hi
        rw [dpAll_len d1', dpAll_len d2']
        omega
    · exact h.elim
  · exact h.elim
end
end Ev

set_option Elab.async false
set_option linter.all false
set_option maxRecDepth 100000
namespace Ev
open PySem PySem.Spec PyProof.Rows L2
/-! ### what is never reached -/
section
variable {X : Cx} {W : WX} {B : Bd} {a b c : Expr} {ma mb mc : SemE} {pos : Pos}
/-! ### great products -/
def CMulX (i j : Int) : Prop := i.natAbs.log2 + j.natAbs.log2 < 100000000
theorem CMulX.ok {i j : Int} (h : CMulX i j) : IntMulOk i j := by
  have b : ∀ x : Int, Builtin.Int.intBits x ≤ x.natAbs.log2 + 1 := fun x => by
    unfold Builtin.Int.intBits
    split <;> omega
  have h1 := b i
  have h2 := b j
  have h3 : i.natAbs.log2 + j.natAbs.log2 < 100000000 := h
  have e : bitsLine = 134217728 := by decide
  unfold IntMulOk
  intro z
  rw [Bool.and_eq_true] at z
  have z2 := z.2
  unfold Builtin.Int.intTooBig at z2
  have z3 := of_decide_eq_true z2
  rw [e] at z3
  omega
theorem op_mulX : OpR X (binaryOp .Mult) (rI CMulX fun i j => .int (i * j)) := opI fun _ _ _ _ _ _ _ hc q => mul_int q hc.ok
end
abbrev gMulX : T → T → Option Od := gII (fun i j => decide (i.natAbs.log2 + j.natAbs.log2 < 100000000)) fun i j => .int (i * j)
theorem does_mulX {K : PySem.W.Frag} : Does2 K (rI CMulX fun i j => .int (i * j)) gMulX := does_ii (fun i j h => of_decide_eq_true (p := i.natAbs.log2 + j.natAbs.log2 < 100000000) h) fun _ _ _ => .int _
theorem gMulX_ok {i j : Int} (h : i.natAbs.log2 + j.natAbs.log2 < 100000000) : gMulX (.int i) (.int j) = some (.r (.int (i * j))) := by
  simp only [gMulX, gII, h, decide_true, if_true]
/-! ### ints as texts -/
def fStr : T → Option Od
  | .int i => if i.natAbs.log2 < 1920 then some (.r (.str (toString i))) else none
  | _ => none
abbrev gStr := g1 fStr
/-! ### texts joined -/
def strsOf : List T → Option (List Str)
  | [] => some []
  | .str x :: ts => (strsOf ts).map (x :: ·)
  | _ :: _ => none
def eJoin (mo m : SemE) : SemE := fun e => (mo e).bind fun ro e0 => match ro with
  | .r (.str sep) => (m e0).bind fun r e1 => (match r.val e1 with
    | some (.list ts) => (match strsOf ts with
      | some ys => if (ys.map (·.length)).sum + ys.length * sep.length ≤ 16777216 then .ok (.r (.str (Txt.join sep ys))) e1 else .bad
      | none => .bad)
    | some (.tuple ts) => (match strsOf ts with
      | some ys => if (ys.map (·.length)).sum + ys.length * sep.length ≤ 16777216 then .ok (.r (.str (Txt.join sep ys))) e1 else .bad
      | none => .bad)
    | _ => .bad)
  | _ => .bad
section
variable {X : Cx} {W : WX} {B : Bd} {a b c : Expr} {ma mb mc : SemE} {pos : Pos}
/-! ### f-strings -/
def eFmt (m : SemE) : SemE := fun e => (m e).bind fun r e1 => match r.val e1 with
  | some (.str y) => if y.length ≤ sizeLine then .ok (.r (.str y)) e1 else .bad
  | some (.int i) => if i.natAbs.log2 < 1920 then .ok (.r (.str (toString i))) e1 else .bad
  | _ => .bad
def eJs : List SemE → Str → SemE
  | [], acc, e => .ok (.r (.str acc)) e
  | m :: ms, acc, e => (m e).bind fun r e1 => match r with
    | .r (.str y) => if (acc ++ y).length ≤ sizeLine then eJs ms (acc ++ y) e1 else .bad
    | _ => .bad
end
end Ev
namespace L2
open PySem PySem.Spec PyProof.Rows
end L2

set_option Elab.async false
set_option linter.all false
set_option maxRecDepth 100000
namespace Ev
open PySem PySem.Spec PyProof.Rows L2
/-! ### a walk over what one name holds, which it goes on to hold -/
def iNmG (i : Nat) : SemIG := fun e => match e[i]? with
  | some si => (match seqOf si with
    | some (.inl ts) => .ok (ts, fun e' => e'[i]? = some si) e
    | some (.inr ts) => .ok (ts, fun e' => e'[i]? = some si) e
    | none => .bad)
  | none => .bad
section
variable {X : Cx} {W : WX}
end
/-! ### the length of a text -/
def fLenS : T → Option Od
  | .str z => if z.length ≤ sizeLine then some (.r (.int z.length)) else none
  | _ => none
abbrev gLenS := g1 fLenS
theorem gLenS_ok {z : Str} (h : z.length ≤ sizeLine) : gLenS [.str z] = some (.r (.int z.length)) := if_pos h
end Ev

set_option Elab.async false
set_option linter.all false
set_option maxRecDepth 100000
namespace Ev
open PySem PySem.Spec PyProof.Rows L2
/-! ### a list of lists that are grown one by one -/
section
variable {K : PySem.W.Frag} {W : WX} {B : Bd} {e e' : En} {σ σ' : Sg} {F H F' H' : Hp} {i : Nat} {p : Addr}
end
structure Gd (H0 F H : Hp) (D : Addr) (gs : List (List Int)) (qs : List Addr) : Prop where
  len : qs.length = gs.length
  d0 : H0 D = none
  q0 : ∀ q ∈ qs, H0 q = none
  nd : qs.Nodup
  dq : D ∉ qs
  fd : F D = none
  fq : ∀ q ∈ qs, F q = none
  hd : H D = some (.lst (qs.map .ref))
  hq : ∀ (j : Nat) (q : Addr) (ns : List Int), qs[j]? = some q → gs[j]? = some ns → H q = some (.lst (ns.map .int))
  up : ∀ a o, H0 a = some o → H a = some o
theorem Gd.sm {H0 F H : Hp} {D : Addr} {gs : List (List Int)} {qs : List Addr} (g : Gd H0 F H D gs qs) {q : Addr} (h : q ∈ qs) : ∃ o, H q = some o := by
  obtain ⟨j, hj⟩ := List.getElem?_of_mem h
  have hl : j < gs.length := by rw [← g.len]; exact (List.getElem?_eq_some_iff.mp hj).1
  exact ⟨_, g.hq j q _ hj (List.getElem?_eq_getElem hl)⟩
/-- nothing that stands is changed -/
theorem Gd.on {H0 F H F' H' : Hp} {D : Addr} {gs : List (List Int)} {qs : List Addr} (g : Gd H0 F H D gs qs) (k : ∀ a o, H a = some o → H' a = some o ∧ (F a = none → F' a = none)) : Gd H0 F' H' D gs qs where
  len := g.len
  d0 := g.d0
  q0 := g.q0
  nd := g.nd
  dq := g.dq
  fd := (k _ _ g.hd).2 g.fd
  fq := fun q hq => by obtain ⟨o, ho⟩ := g.sm hq; exact (k _ _ ho).2 (g.fq q hq)
  hd := (k _ _ g.hd).1
  hq := fun j q ns h1 h2 => (k _ _ (g.hq j q ns h1 h2)).1
  up := fun a o h => (k _ _ (g.up a o h)).1
/-- one more -/
theorem Gd.more {H0 F H : Hp} {D p : Addr} {gs : List (List Int)} {qs : List Addr} (g : Gd H0 F H D gs qs) (fh : ∀ a o, F a = some o → H0 a = some o) (hp : H p = none) : Gd H0 F (upd (upd H p (.lst [])) D (.lst (qs.map .ref ++ [.ref p]))) D (gs ++ [[]]) (qs ++ [p]) := by
  have p0 : H0 p = none := by
    cases q : H0 p with
    | none => rfl
    | some o => have := g.up _ _ q; rw [hp] at this; cases this
  have pD : p ≠ D := fun q => by subst q; rw [g.hd] at hp; cases hp
  have pq : ∀ q ∈ qs, q ≠ p := fun q hq e => by subst e; obtain ⟨o, ho⟩ := g.sm hq; rw [hp] at ho; cases ho
  have Dq : ∀ q ∈ qs, q ≠ D := fun q hq e => g.dq (e ▸ hq)
  refine ⟨by simp [g.len], g.d0, fun q hq => ?_, ?_, fun h => ?_, g.fd, fun q hq => ?_, ?_, fun j q ns h1 h2 => ?_, fun a o h => ?_⟩
  · rcases List.mem_append.mp hq with h | h
    · exact g.q0 q h
    · rw [List.mem_singleton.mp h]; exact p0
  · exact List.nodup_append.mpr ⟨g.nd, by simp, fun a ha b hb => by rw [List.mem_singleton.mp hb]; exact pq a ha⟩
  · rcases List.mem_append.mp h with h | h
    · exact g.dq h
    · exact pD (List.mem_singleton.mp h).symm
  · rcases List.mem_append.mp hq with h | h
    · exact g.fq q h
    · rw [List.mem_singleton.mp h]
      cases z : F p with
      | none => rfl
      | some o => rw [fh _ _ z] at p0; cases p0
  · rw [upd_same, List.map_append]; rfl
  · by_cases hj : j < qs.length
    · rw [List.getElem?_append_left hj] at h1
      rw [List.getElem?_append_left (by rw [← g.len]; exact hj)] at h2
      have m := List.mem_of_getElem? h1
      rw [upd_ne (Dq q m), upd_ne (pq q m)]
      exact g.hq j q ns h1 h2
    · have hl : j < (qs ++ [p]).length := (List.getElem?_eq_some_iff.mp h1).1
      have ej : j = qs.length := by simp at hl; omega
      subst ej
      simp at h1
      rw [g.len] at h2
      simp at h2
      subst h1 h2
      rw [upd_ne pD, upd_same]; rfl
  · have h' := g.up a o h
    have aD : a ≠ D := fun q => by subst q; rw [g.d0] at h; cases h
    have ap : a ≠ p := fun q => by subst q; rw [p0] at h; cases h
    rw [upd_ne aD, upd_ne ap]; exact h'
end Ev

set_option Elab.async false
set_option linter.all false
set_option maxRecDepth 100000
namespace Ev
open PySem PySem.Spec PyProof.Rows L2
/-! ### methods of texts -/
section
variable {X : Cx} {W : WX} {B : Bd} {a b c : Expr} {ma mb mc : SemE} {pos : Pos}
end
/-! ### int(text) -/
/-! ### one sign in a text -/
/-! ### a part of a text -/
section
variable {X : Cx} {W : WX} {B : Bd} {a b c : Expr} {ma mb mc : SemE} {pos : Pos}
/-! ### a number that the module holds -/
end
/-! ### xs.extend(a tuple) -/
section
variable {X : Cx} {W : WX} {a b c : Expr} {ma mb mc : SemE} {pos : Pos}
end
end Ev

set_option Elab.async false
set_option linter.all false
set_option maxRecDepth 100000
set_option maxHeartbeats 2000000
namespace Ev
open PySem PySem.Spec PyProof.Rows L2
/-! ### a tuple unpacked while an exception is handled -/
section
variable {prog : Program} {w : World} {A : Around} {E : Value → Shared → Prop} {s : Shared}
end
end Ev

set_option Elab.async false
set_option linter.all false
set_option maxRecDepth 100000
set_option maxHeartbeats 2000000
namespace Ev
open PySem PySem.Spec PyProof.Rows L2
/-! ### several except clauses, with a name or without -/
abbrev HTs := Addr → Value → Option Addr → TS
/-- a suite's reading -/
abbrev SuOk (X : Cx) (suite : List Stmt) (ts : HTs) : Prop := ∀ (a : Addr) (oe : Obj) (cls : Value) (d : Option Addr) (pn : List (Addr × Obj)), L2N.Zn cls d oe → (∃ vs, oe.data = .fields vs) → PSs (X.suite a ((a, oe) :: pn)) suite (ts a cls d)
inductive HxOk (X : Cx) : List ExceptHandler → List (Value × Option Nat × HTs) → Prop
  | nil : HxOk X [] []
  | plain {x : Str} {c : Value} {ts : HTs} {b₀ : Stmt} {suite : List Stmt} {np pos' : Pos} {hds : List ExceptHandler} {l : List (Value × Option Nat × HTs)} (hc : Names X x c) (hsu : SuOk X (b₀ :: suite) ts) (r : HxOk X hds l) :
      HxOk X (.ExceptHandler (some (.Name x np)) none (b₀ :: suite) pos' :: hds) ((c, none, ts) :: l)
  | named {x n : Str} {c : Value} {i : Nat} {ts : HTs} {b₀ : Stmt} {suite : List Stmt} {np pos' : Pos} {hds : List ExceptHandler} {l : List (Value × Option Nat × HTs)} (hc : Names X x c) (hi : X.N[i]? = some n) (hln : X.env.kindOf n = some .local)
      (hsu : SuOk X (b₀ :: suite) ts) (r : HxOk X hds l) : HxOk X (.ExceptHandler (some (.Name x np)) (some n) (b₀ :: suite) pos' :: hds) ((c, some i, ts) :: l)
section
variable {X : Cx} {body : List Stmt} {h₀ : ExceptHandler} {hds : List ExceptHandler} {l : List (Value × Option Nat × HTs)} {pos : Pos} {tb : WX → TS} {Wout : WX}
end
end Ev

set_option Elab.async false
set_option linter.all false
set_option maxRecDepth 100000
set_option maxHeartbeats 2000000
namespace Ev
open PySem PySem.Spec PyProof.Rows L2
/-! ### the classes of exceptions -/
structure ExcOk (K : PySem.W.Frag) (mg : Str → Option Value) (cs : List Str) : Prop where
  oex : ∀ c ∈ cs, OexC K (He.ga K c)
  xf : ∀ c ∈ cs, XfC K (He.ga K c)
  nov : ∀ c ∈ cs, PySem.W.findIn K (.ref (He.ga K c)) "value" = some none
  ini : ∀ c ∈ cs, PySem.W.findIn K (.ref (He.ga K c)) "__init__" = some (some (.ref (He.fAd K iniP)))
  ity : PySem.W.typeIn K (.ref (He.fAd K iniP)) = some (.type "function")
  glo : ∀ c ∈ cs, mg c = some (.ref (He.ga K c))
  exm : ∀ c ∈ cs, ∀ h ∈ cs, PySem.W.exmOne K (.ref (He.ga K c)) (.ref (He.ga K h)) = some (subE c h)
/-! ### __init__ -/
/-! ### C(e) -/
section
variable {X : Cx} {W : WX} {B : Bd} {pos : Pos}
/-! ### raise -/
end
end Ev

set_option Elab.async false
set_option linter.all false
set_option maxRecDepth 100000
set_option maxHeartbeats 2000000
namespace Ev
open PySem PySem.Spec PyProof.Rows L2
/-! ### try: the meaning -/
abbrev Hds := List (Str × Option Nat × (T → SemS))
section
variable {K : PySem.W.Frag} {W : WX} {B : Bd} {e : En} {σ : Sg} {F H : Hp}
/-- the reading of a suite: i is the name that holds the exception -/
def tXs (K : PySem.W.Frag) (B : Bd) (oi : Option Nat) (cs : List Str) (m : T → SemS) : HTs := fun a cls d D σ H => ∃ (e : En) (F : Hp) (c : Str) (t : T), c ∈ cs ∧ Rel K e σ F H ∧ BOk B e σ F H ∧ ExR K F H c t cls d ∧
  (∀ i, oi = some i → e[i]? = some .un ∧ σ[i]? = some (some (.ref a))) ∧ OutS K W0 B (m t e) D
def hdR (K : PySem.W.Frag) (B : Bd) (cs : List Str) (p : Str × Option Nat × (T → SemS)) : Value × Option Nat × HTs := (.ref (He.ga K p.1), p.2.1, tXs K B p.2.1 cs p.2.2)
end
section
variable {X : Cx} {W : WX} {B : Bd} {pos : Pos}
/-- the clauses and their meanings -/
inductive HqOk (X : Cx) (B : Bd) (cs : List Str) : List ExceptHandler → Hds → Prop
  | nil : HqOk X B cs [] []
  | plain {x : Str} {m : T → SemS} {b₀ : Stmt} {suite : List Stmt} {np pos' : Pos} {hds : List ExceptHandler} {l : Hds} (hx : x ∈ cs) (hg : Gl X x) (hsu : SuOk X (b₀ :: suite) (tXs X.K B none cs m)) (r : HqOk X B cs hds l)
      (hdb : (x == ("__debug__" : Str)) = false := by decide) : HqOk X B cs (.ExceptHandler (some (.Name x np)) none (b₀ :: suite) pos' :: hds) ((x, none, m) :: l)
  | named {x n : Str} {i : Nat} {m : T → SemS} {b₀ : Stmt} {suite : List Stmt} {np pos' : Pos} {hds : List ExceptHandler} {l : Hds} (hx : x ∈ cs) (hg : Gl X x) (hi : X.N[i]? = some n) (hln : X.env.kindOf n = some .local)
      (hsu : SuOk X (b₀ :: suite) (tXs X.K B (some i) cs m)) (r : HqOk X B cs hds l) (hdb : (x == ("__debug__" : Str)) = false := by decide) :
      HqOk X B cs (.ExceptHandler (some (.Name x np)) (some n) (b₀ :: suite) pos' :: hds) ((x, some i, m) :: l)
theorem HqOk.hx {cs : List Str} (Ex : ExcOk X.K X.mg cs) {hds : List ExceptHandler} {l : Hds} (h : HqOk X B cs hds l) : HxOk X hds (l.map (hdR X.K B cs)) ∧ ∀ p ∈ l, p.1 ∈ cs := by
  induction h with
  | nil => exact ⟨.nil, fun p hp => by cases hp⟩
  | plain hx hg hsu r hdb ih => exact ⟨.plain ⟨hg, hdb, .inl (Ex.glo _ hx)⟩ hsu ih.1, fun p hp => by
      rcases List.mem_cons.mp hp with rfl | hp
      · exact hx
      · exact ih.2 p hp⟩
  | named hx hg hi hln hsu r hdb ih => exact ⟨.named ⟨hg, hdb, .inl (Ex.glo _ hx)⟩ hi hln hsu ih.1, fun p hp => by
      rcases List.mem_cons.mp hp with rfl | hp
      · exact hx
      · exact ih.2 p hp⟩
/-! ### suites -/
end
end Ev

set_option Elab.async false
set_option linter.all false
set_option maxRecDepth 100000
namespace Ev
open PySem PySem.Spec PyProof.Rows L2
/-! ### a sign of a text by its place -/
/-! ### one sign that is not in a text -/
/-! ### the signs of a text, one by one -/
section
variable {X : Cx} {W : WX} {B : Bd} {a b c : Expr} {ma mb mc : SemE} {pos : Pos}
end
/-! ### a text some times -/
end Ev

set_option Elab.async false
set_option linter.all false
set_option maxRecDepth 100000
set_option maxHeartbeats 2000000
namespace Ev
open PySem PySem.Spec PyProof.Rows L2
/-! ### a test behind which a token is out -/
section
variable {X : Cx} {W : WX} {B : Bd} {a b c o : Expr} {ma mb mc mo mi : SemE} {pos : Pos} {t1 t2 : SemT}
/-! ### text.replace(y, [z1, z2, z3][i]) -/
end
end Ev

set_option Elab.async false
set_option linter.all false
set_option maxRecDepth 100000
namespace Ev
open PySem PySem.Spec PyProof.Rows L2
/-! ### text.partition(text) -/
end Ev

set_option Elab.async false
set_option linter.all false
set_option maxRecDepth 100000
namespace Ev
open PySem PySem.Spec PyProof.Rows L2
/-! ### a < b < c -/
def chainO (g' : T → T → Option Od) (mc : SemE) (u : T) : Od → SemE
  | .r (.bool true) => fun e2 => (mc e2).bind fun r3 e3 => match r3.val e3 with
    | some z => (match g' u z with
      | some w => .ok w e3
      | none => .bad)
    | none => .bad
  | .r (.bool false) => fun e2 => .ok (.r (.bool false)) e2
  | _ => fun _ => .bad
def chainK (g g' : T → T → Option Od) (mc : SemE) (r1 r2 : Od) : SemE := fun e2 => match r1.val e2, r2 with
  | some t, .r u => (match g t u with
    | some w => chainO g' mc u w e2
    | none => .bad)
  | _, _ => .bad
def eChn (g g' : T → T → Option Od) (ma mb mc : SemE) : SemE := fun e => (ma e).bind fun r1 e1 => (mb e1).bind fun r2 e2 => chainK g g' mc r1 r2 e2
section
variable {X : Cx} {W : WX} {a b c : Expr} {ma mb mc : SemE} {pos : Pos}
theorem qchn {op op' : CmpOp} {r r' : R2} {g g' : T → T → Option Od} (ho : OpR X (compareOp op) r) (ho' : OpR X (compareOp op') r') (d : Does2 X.K r g) (d' : Does2 X.K r' g') (ha : QE X W a ma) (hb : QE X W b mb) (hc : QE X W c mc)
    (hm : lastMarks [op, op'] [b, c] = false := by with_unfolding_all rfl) : QE X W (.Compare a [op, op'] [b, c] pos) (eChn g g' ma mb mc) := by
  refine pe_mono (pe_chain ho ho' ha hb hc hm) fun σ H Q ⟨e, F, R, h⟩ => ?_
  refine tX_imp (tX_bind (rel := fun σ => OdR X.K σ) R .refl h) fun x H1 ⟨r1, e1, F1, R1, S1, O1, h1⟩ => ?_
  refine tX_imp (tX_bind (rel := fun σ => OdR X.K σ) R1 S1 h1) fun y H2 ⟨r2, e2, F2, R2, S2, O2, h2⟩ => ?_
  have O1' := od_stay O1 (fun p hp => fresh_not_own R S1 hp) S2
  unfold chainK at h2
  cases q1 : r1.val e2 with
  | none => rw [q1] at h2; exact h2.elim
  | some t =>
    rw [q1] at h2
    cases r2 with
    | s i => exact h2.elim
    | b z => exact h2.elim
    | r u =>
      cases q2 : g t u with
      | none => simp only [q2] at h2; exact h2.elim
      | some w =>
        simp only [q2] at h2
        have D2 : Dp X.K F2 y u := O2
        obtain ⟨_, go⟩ := d x y t u w F2 H2 (fun z H3 => ∃ k, z = .bl k ∧ (if k = true then tE X.K W mc σ H3 fun w' H4 => r' y w' H4 Q else Q (.bl false) H3)) R2.sub (val_ok R2 O1' q1) (dpo_of R2.sub D2) q2
        refine go ?_
        cases w with
        | s i => exact h2.elim
        | b z => exact h2.elim
        | r w =>
          cases w with
          | bool k =>
            refine ⟨fun v dv => ?_, fun ts p xs e => (by cases e)⟩
            cases dv
            refine ⟨k, rfl, ?_⟩
            cases k with
            | false =>
              rw [if_neg (by decide)]
              exact h2 (.bl false) F2 H2 R2 (S1.trans S2) (.bl false)
            | true =>
              rw [if_pos rfl]
              refine tX_imp (tX_bind (rel := fun σ => OdR X.K σ) R2 (S1.trans S2) h2) fun z H3 ⟨r3, e3, F3, R3, S3, O3, h3⟩ => ?_
              cases q3 : r3.val e3 with
              | none => simp only [q3] at h3; exact h3.elim
              | some v =>
                simp only [q3] at h3
                cases q4 : g' u v with
                | none => simp only [q4] at h3; exact h3.elim
                | some w' =>
                  simp only [q4] at h3
                  obtain ⟨bk, go'⟩ := d' y z u v w' F3 H3 Q R3.sub (dpo_of R3.sub (dp_mono S3.ff _ _ D2)) (val_ok R3 O3 q3) q4
                  exact go' (fin_of R3 ((S1.trans S2).trans S3) h3 bk)
          | none => exact h2.elim
          | int _ => exact h2.elim
          | str _ => exact h2.elim
          | list _ => exact h2.elim
          | tuple _ => exact h2.elim
          | dict _ => exact h2.elim
end
/-! ### min, max of a tuple -/
def rMaxT (K : PySem.W.Frag) : List V → Hp → VK → Prop := fun vs H Q => ∃ (a : Addr) (ns : List Int), vs = [V.ref a] ∧ SqT K H a (ns.map V.int) ∧ 0 < ns.length ∧ ∀ m, m ∈ ns → (∀ y, y ∈ ns → y ≤ m) → Q (.int m) H
def rMinT (K : PySem.W.Frag) : List V → Hp → VK → Prop := fun vs H Q => ∃ (a : Addr) (ns : List Int), vs = [V.ref a] ∧ SqT K H a (ns.map V.int) ∧ 0 < ns.length ∧ ∀ m, m ∈ ns → (∀ y, y ∈ ns → m ≤ y) → Q (.int m) H

theorem hold_ints {h : Heap} : ∀ {vs : List Value} {ns : List Int}, Vals (ns.map V.int) vs → PySem.W.HoldAll h vs ns
  | [], [], _ => ⟨_, ReadsAll.nil⟩
  | v :: vs, n :: ns, r => by
    cases r with
    | cons r1 r2 =>
      obtain ⟨t, rfl⟩ := r1
      obtain ⟨as, q⟩ := hold_ints r2
      exact ⟨_, ReadsAll.cons (Reads.int n t) q⟩
  | [], _ :: _, r => nomatch r
  | _ :: _, [], r => nomatch r
theorem fold_best (lt : Int → Int → Bool) (f : Int → Int) (hl : ∀ a b, lt a b = decide (f a < f b)) : ∀ (xs : List Int) (x : Int), xs.foldl (fun a y => if lt a y = true then y else a) x ∈ x :: xs ∧ ∀ y ∈ x :: xs, f y ≤ f (xs.foldl (fun a y => if lt a y = true then y else a) x)
  | [], x => ⟨List.mem_cons_self, fun y hy => by rw [List.mem_singleton.mp hy]; exact Int.le_refl _⟩
  | z :: zs, x => by
    obtain ⟨h1, h2⟩ := fold_best lt f hl zs (if lt x z = true then z else x)
    rw [List.foldl_cons]
    generalize zs.foldl (fun a y => if lt a y = true then y else a) (if lt x z = true then z else x) = m at h1 h2 ⊢
    have hx := h2 _ List.mem_cons_self
    have hf : f x ≤ f m ∧ f z ≤ f m := by
      rw [hl] at hx
      by_cases c : f x < f z
      · rw [decide_eq_true c, if_pos rfl] at hx; omega
      · rw [decide_eq_false c, if_neg (by decide)] at hx; omega
    refine ⟨?_, fun y hy => ?_⟩
    · rcases List.mem_cons.mp h1 with e | e
      · by_cases c : lt x z = true
        · rw [if_pos c] at e; rw [e]; simp
        · rw [if_neg c] at e; rw [e]; simp
      · exact List.mem_cons_of_mem _ (List.mem_cons_of_mem _ e)
    · rcases List.mem_cons.mp hy with e | e
      · rw [e]; exact hf.1
      · rcases List.mem_cons.mp e with e | e
        · rw [e]; exact hf.2
        · exact h2 y (List.mem_cons_of_mem _ e)
theorem holds_int {h : Heap} {v : Value} {i : Int} (H : PySem.W.Holds h v i) : ∃ t, v = .int i t := by
  obtain ⟨as, r⟩ := H
  cases r with
  | int i t => exact ⟨t, rfl⟩
theorem cr_maxT {X : Cx} {k : Nat} (hr : Room k X.A) : CallR X (.builtin "max") (rMaxT X.K) := by
  intro pins s σ H vs us Q I r h
  obtain ⟨a, ns, rfl, hs, hne, q⟩ := h
  obtain ⟨its, rv, hl, _⟩ := I.tuple hs
  rw [Vals.ref1 r]
  cases ns with
  | nil => simp at hne
  | cons x xs =>
    have hu : X.A.units + 1 + PySem.W.Datum.depth Int < cLine := by have := hr.un; show X.A.units + 1 + 0 < _; omega
    obtain ⟨h1, h2⟩ := fold_best (PySem.W.DatumOrd.lt (α := Int)) id (fun _ _ => rfl) xs x
    refine PySem.W.max_tuple_datum hr.hd hl (by simpa using hold_ints (h := s.heap) rv) hu fun i v h' tk _ Hh hk => ?_
    obtain ⟨t, rfl⟩ := holds_int Hh
    exact ⟨.int _, H, I.kept hk, ⟨_, rfl⟩, q _ h1 h2⟩
theorem cr_minT {X : Cx} {k : Nat} (hr : Room k X.A) : CallR X (.builtin "min") (rMinT X.K) := by
  intro pins s σ H vs us Q I r h
  obtain ⟨a, ns, rfl, hs, hne, q⟩ := h
  obtain ⟨its, rv, hl, _⟩ := I.tuple hs
  rw [Vals.ref1 r]
  cases ns with
  | nil => simp at hne
  | cons x xs =>
    have hu : X.A.units + 1 + PySem.W.Datum.depth Int < cLine := by have := hr.un; show X.A.units + 1 + 0 < _; omega
    obtain ⟨h1, h2⟩ := fold_best (fun a b => PySem.W.DatumOrd.lt b a) (fun i => -i) (fun a b => by show decide (b < a) = decide (-a < -b); exact decide_eq_decide.mpr (by omega)) xs x
    refine PySem.W.min_tuple_datum hr.hd hl (by simpa using hold_ints (h := s.heap) rv) hu fun i v h' tk _ Hh hk => ?_
    obtain ⟨t, rfl⟩ := holds_int Hh
    exact ⟨.int _, H, I.kept hk, ⟨_, rfl⟩, q _ h1 fun y hy => (by
      have := h2 y hy
      exact Int.neg_le_neg_iff.mp this)⟩
def fMaxT : T → Option Od
  | .tuple ts => (intL ts).bind fun ns => (top ns).map fun m => .r (.int m)
  | _ => none
def fMinT : T → Option Od
  | .tuple ts => (intL ts).bind fun ns => (top (ns.map fun i => -i)).map fun m => .r (.int (-m))
  | _ => none
abbrev gMaxT := g1 fMaxT
abbrev gMinT := g1 fMinT
theorem does_maxT {K : PySem.W.Frag} : DoesN K (rMaxT K) gMaxT := doesN1 fun x t w F H Q ff d hg => by
  cases t with
  | tuple ts =>
    simp only [fMaxT] at hg
    cases q : intL ts with
    | none => rw [q] at hg; cases hg
    | some ns =>
      rw [q, Option.bind_some] at hg
      cases q2 : top ns with
      | none => rw [q2] at hg; cases hg
      | some m =>
        rw [q2] at hg
        cases hg
        cases d with
        | tup ha dd =>
          refine ⟨trivial, fun k => ⟨_, ns, rfl, by rw [← intL_dp q dd]; exact tupS ff ha, ?_, fun m' h1 h2 => ?_⟩⟩
          · cases ns with
            | nil => cases q2
            | cons _ _ => simp
          · rw [top_is h1 h2] at q2
            cases q2
            exact k.1 _ (.int _)
  | _ => cases hg
theorem does_minT {K : PySem.W.Frag} : DoesN K (rMinT K) gMinT := doesN1 fun x t w F H Q ff d hg => by
  cases t with
  | tuple ts =>
    simp only [fMinT] at hg
    cases q : intL ts with
    | none => rw [q] at hg; cases hg
    | some ns =>
      rw [q, Option.bind_some] at hg
      cases q2 : top (ns.map fun i => -i) with
      | none => rw [q2] at hg; cases hg
      | some m =>
        rw [q2] at hg
        cases hg
        cases d with
        | tup ha dd =>
          refine ⟨trivial, fun k => ⟨_, ns, rfl, by rw [← intL_dp q dd]; exact tupS ff ha, ?_, fun m' h1 h2 => ?_⟩⟩
          · cases ns with
            | nil => cases q2
            | cons _ _ => simp
          · rw [top_is (m := -m') (List.mem_map.mpr ⟨m', h1, rfl⟩) (fun y hy => by
              obtain ⟨z, hz, rfl⟩ := List.mem_map.mp hy
              have := h2 z hz
              omega)] at q2
            cases q2
            have k : Fin K F H Q (.r (.int (- -m'))) := k
            rw [Int.neg_neg] at k
            exact k.1 _ (.int _)
  | _ => cases hg
/-! ### repr of a tree, where no repr is under way -/
def rRepr (K : PySem.W.Frag) : List V → Hp → VK → Prop := fun vs H Q => ∃ (x : V) (t : T), vs = [x] ∧ L2.Dp K H x t ∧ (t.showable = true ∧ t.hasDict = false ∧ t.depth ≤ 60 ∧ t.shown.length ≤ sizeLine) ∧ Q (.str t.shown) H
theorem cr_repr {X : Cx} {k : Nat} (hr : Room k X.A) (hg : X.A.guards = some []) : CallR X (.builtin "repr") (rRepr X.K) := by
  intro pins s σ H vs us Q I r h
  obtain ⟨x, t, rfl, d, ⟨hs, hd, hz, hl⟩, q⟩ := h
  obtain ⟨u, rfl, ru⟩ := vals1 r
  obtain ⟨as, rd⟩ := L2.Dp.reads I t x u d ru
  cases rd with
  | none => exact PySem.P.repr_of_none ⟨.str _, H, I.tok _, ⟨_, rfl⟩, by simpa only [PyData.shown] using q⟩
  | bool b => exact PySem.P.repr_of_bool ⟨.str _, H, I.tok _, ⟨_, rfl⟩, by simpa only [PyData.shown] using q⟩
  | int i t => exact PySem.P.repr_of_int (by simpa [PyData.showable] using hs) ⟨.str _, H, I.tok _, ⟨_, rfl⟩, by simpa only [PyData.shown] using q⟩
  | str y t => exact PySem.P.repr_of_str ⟨.str _, H, I.tok _, ⟨_, rfl⟩, by simpa only [PyData.shown] using q⟩ (by simpa only [PyData.shown] using hl)
  | list h1 h2 h3 h4 => exact PySem.repr_of_reads' (.list h1 h2 h3 h4) hs (fun e => by rw [hd] at e; cases e) hg (by have := hr.un; omega) (fun _ _ e => e) (fun h' u tk hk => ⟨.str _, H, I.kept hk, ⟨_, rfl⟩, q⟩) hl
  | tuple h1 h2 h3 h4 => exact PySem.repr_of_reads' (.tuple h1 h2 h3 h4) hs (fun e => by rw [hd] at e; cases e) hg (by have := hr.un; omega) (fun _ _ e => e) (fun h' u tk hk => ⟨.str _, H, I.kept hk, ⟨_, rfl⟩, q⟩) hl
  | dict => cases d
end Ev

set_option Elab.async false
set_option linter.all false
set_option maxRecDepth 100000
namespace Ev
open PySem PySem.Spec PyProof.Rows L2
/-! ### repr in QE -/
def fRepr (t : T) : Option Od := if t.showable = true ∧ t.hasDict = false ∧ t.depth ≤ 60 ∧ t.shown.length ≤ sizeLine ∧ noD t = true then some (.r (.str t.shown)) else none
abbrev gRepr := g1 fRepr
theorem does_repr {K : PySem.W.Frag} : DoesN K (rRepr K) gRepr := doesN1 fun x t w F H Q ff d hg => by
  unfold fRepr at hg
  split at hg
  · rename_i c
    cases hg
    exact ⟨trivial, fun k => ⟨x, t, rfl, dp_hand t c.2.2.2.2 (DpO.dp ff d), ⟨c.1, c.2.1, c.2.2.1, c.2.2.2.1⟩, k.1 _ (.str _)⟩⟩
  · cases hg
/-! ### a def that is called where no repr is under way -/
structure FnG (P : Program) (w : World) (K : PySem.W.Frag) (mg : Str → Option Value) (base : Heap) (CX : CXT) (k : Nat) (f : Addr) (fd : FuncData) (ps : List Str) (sp : Sp) : Prop where
  few : ∀ vs H Q E, sp vs H Q E → vs.length = ps.length
  go : ∀ (B : Around) (outs : List Env) (z : Shared) (G : Hp) (ar : Args) (ws : List Value) (xs : List V) (Q : VK) (E : XK), B.guards = some [] → Room k B → Env0 P w K mg base B outs z G → BindsTo z fd ar (ps.zip ws) → Vals xs ws → sp xs G Q E →
    codeAny (model P w) B (.call (.ref f) ar) (CR CX outs P w G z Q E) z
theorem fnG_of {CX : CXT} {P : Program} {w : World} {K : PySem.W.Frag} {mg : Str → Option Value} {base : Heap} {x qual : Str} {params : Arguments} {body : List Stmt} {scope : Scope} {f : Addr} {fd : FuncData} {N ps : List Str} {k : Nat} {sp : Sp}
    (D : FunD K x qual params body scope [] [] f fd) (S : FnScope N ps scope) (few : ∀ vs H Q E, sp vs H Q E → vs.length = ps.length)
    (hb : ∀ (cdv : Value) (B : Around) (outs : List Env) (z : Shared) (G : Hp) (xs : List V) (Q : VK) (E : XK), B.guards = some [] → Room k (B.deeper (envOfC qual scope z.heap.objs.size f cdv)) → sp xs G Q E →
      ∃ t, PSs (cxOf CX P w K mg base N qual scope f cdv B outs z G E) body t ∧ t { nx := fun _ G' => Q .non G', rt := Q } (start N xs) G) :
    FnG P w K mg base CX (k + 1) f fd ps sp := by
  obtain ⟨_, _, _, _, _, _, _, cdv, _, _, rfl, hlk, hcode, _⟩ := D.ex
  constructor
  · exact few
  intro B outs z G ar ws xs Q E g room e0 bd rv hs
  have there : K.In z.heap := e0.mod.kin.keeps fun b o q => (e0.bs b o q).1
  have kinds : ∀ y ∈ ps.zip ws, scope.names.lookup y.1 = some .local ∨ (scope.names.lookup y.1 = some .cell ∧ ((cellsFrom (z.heap.objs.size + 1) scope.names []).lookup y.1).isSome = true) := by
    rintro ⟨n, v⟩ hy
    have := S.par n (List.of_mem_zip hy).1
    exact this.imp id fun q => ⟨q, PySem.W.cellsFrom_some _ _ _ (.inl q)⟩
  refine codeAny_call_function room.depth (there _ _ hlk) rfl S.co S.gen rfl (PySem.W.codeRec_of there hcode) (bd _ _ _ _ (wpAny_newFunctionEnv_cells S.kind kinds fun env en z1 made => ?_))
  subst en
  have lim := e0.mod.nolimit.keeps fun b o q => (e0.bs b o q).1
  refine ⟨lim.keeps made.toInCall.keep, codeAny_func ?_⟩
  obtain ⟨t, pt, ht⟩ := hb cdv B outs z G xs Q E g (room.deeper _) hs
  have I := inv_start (CX := CX) (E := E) S room.hd e0 (few _ _ _ _ hs) rv made
  refine wpAny_mono (pt.run _ _ _ _ _ I ht) ?_ fun _ _ q => q
  intro fl z' q
  rcases fl with _ | _ | _ | u
  all_goals first
    | (obtain ⟨_, G', J, q⟩ := q; exact ⟨V.non, G', J.os, J.bare, J.base, J.hok, rfl, q⟩)
    | (obtain ⟨v, _, G', J, rr, q⟩ := q; exact ⟨v, G', J.os, J.bare, J.base, J.hok, rr, q⟩)
    | (obtain ⟨_, _, _, q⟩ := q; exact q.elim)
/-! ### the law is called where no repr is under way -/
section
variable {P : Program} {w : World} {K : PySem.W.Frag} {mg mb : Str → Option Value} {CX : CXT} {k : Nat} {fa a : Addr} {fd : FuncData} {x : Str} {sp : Sp} {z : Shared} {vs : List Value} {ns : List Int}
def DoneG (z : Shared) : Result → Shared → Prop := fun r s' => r = .ok (.ret (.bool true)) ∧ OldK z.heap s'.heap ∧ s'.os = z.os ∧ AllBare s'.gens
theorem law_coreG (KX : K.In z.heap) (hns : z.heap.Ns mainGlobals mg) (hb : z.heap.Ns builtinsNs mb) (hbb : ∀ x : Str, x ≠ "__name__" → mb x = bootBuiltins x) (hlim : z.heap.NoLimit) (hg : z.gens = #[])
    (ha : z.heap.get? a = some { cls := .type "list", data := .seq vs.toArray }) (hr : Room k callerA)
    (F : ∀ base : Heap, K.In base → base.Ns mainGlobals mg → FnG P w K mg base CX k fa fd [x] sp) (bind1 : ∀ (s : Shared) (u : Value), BindsTo s fd ⟨[u], []⟩ [(x, u)])
    (out : ∀ H e s', CX [] H z (fun _ _ _ => False) e s' → False)
    {G : Hp} (only : Only G) (hsp : sp [.ref a] G (fun v _ => v = .bl true) fun _ _ _ => False) (ok : HOk P w G z.heap) (at1 : ∀ b, G b ≠ none → b = a) (ka : G a ≠ none → K.lookup a = none) :
    codeAny (model P w) callerA (.call (.ref fa) ⟨[.ref a], []⟩) (DoneG z) z := by
  have stays : ∀ {b : Addr} {o : Obj}, z.heap.get? b = some o → b ≠ a → (hidT z.heap G).get? b = some o := fun {b o} q ne => hidT_get q (by
    cases u : G b with
    | none => rfl
    | some _ => exact absurd (at1 b (by simp [u])) ne)
  have isL : ∀ {b : Addr} {o : Obj} {es : Array DictEntry} {ep : Nat}, z.heap.get? b = some o → o.data = .dict es ep → b ≠ a := fun q d e => by
    subst e
    rw [ha] at q
    cases q
    have d : Data.seq vs.toArray _ = Data.dict _ _ := d
    cases d
  have names : ∀ {b : Addr} {m : Str → Option Value}, z.heap.Ns b m → (hidT z.heap G).Ns b m := by
    rintro b m ⟨o, es, ep, q, d, r⟩
    exact ⟨o, es, ep, stays q (isL q d), d, r⟩
  have kin : K.In (hidT z.heap G) := fun b o q => by
    by_cases e : b = a
    · subst e
      refine hidT_get (KX b o q) ?_
      cases u : G b with
      | none => rfl
      | some _ => have := ka (by simp [u]); rw [q] at this; cases this
    · exact stays (KX b o q) e
  obtain ⟨mc, l1, l2⟩ := hlim
  have M : Mod K mg (hidT z.heap G) := ⟨kin, names hns, ⟨mb, names hb, hbb⟩, ⟨mc, names l1, l2⟩⟩
  have env : Env0 P w K mg (hidT z.heap G) callerA [] z G := ⟨rfl, M, fun _ _ q => of_hidT q, Nat.le_of_eq (hidT_size _ _), trivial, fun _ q => (List.not_mem_nil q).elim, ok, AllBare.of_eq hg⟩
  refine codeAny_mono ((F _ kin (names hns)).go callerA [] z G ⟨[.ref a], []⟩ [.ref a] [.ref a] _ _ rfl hr env (bind1 z _) (.cons rfl .nil) hsp) ?_
  intro r s' q
  rcases r with e | fl
  · exact (out G e s' q).elim
  rcases fl with _ | _ | _ | u
  all_goals first
    | exact q.elim
    | skip
  obtain ⟨v, G', os, bare, un, ok', rv, e⟩ := q
  cases (show v = V.bl true from e)
  cases (show u = Value.bool true from rv)
  refine ⟨rfl, OldK.of_keep ?_, os, bare⟩
  intro b o q
  rcases only b with u | ⟨ob, xs, u⟩
  · exact un.keep b o q u (fun m => (List.not_mem_nil m).elim) (by simp)
  · have u' := un.frzs b ob _ u
    have e1 := (ok b _ u).1
    rw [q] at e1
    cases e1
    exact (ok' b _ u').1
theorem law_callG (KX : K.In z.heap) (hns : z.heap.Ns mainGlobals mg) (hb : z.heap.Ns builtinsNs mb) (hbb : ∀ x : Str, x ≠ "__name__" → mb x = bootBuiltins x) (hlim : z.heap.NoLimit) (hg : z.gens = #[])
    (ha : z.heap.get? a = some { cls := .type "list", data := .seq vs.toArray }) (hi : IntsAre vs ns) (hl : ns.length ≤ sizeLine) (hr : Room k callerA)
    (F : ∀ base : Heap, K.In base → base.Ns mainGlobals mg → FnG P w K mg base CX k fa fd [x] sp) (bind1 : ∀ (s : Shared) (u : Value), BindsTo s fd ⟨[u], []⟩ [(x, u)])
    (hsp : ∀ H : Hp, Only H → SqL K H a (ns.map V.int) → sp [.ref a] H (fun v _ => v = .bl true) fun _ _ _ => False)
    (out : ∀ H e s', CX [] H z (fun _ _ _ => False) e s' → False) :
    codeAny (model P w) callerA (.call (.ref fa) ⟨[.ref a], []⟩) (DoneG z) z := by
  have rv := vals_ints hi
  have len := hi.length
  have both := fun (G : Hp) (only : Only G) (sq : SqL K G a (ns.map V.int)) => law_coreG (k := k) KX hns hb hbb hlim hg ha hr F bind1 out only (hsp G only sq)
  cases q : K.lookup a with
  | some o =>
    have same := KX a o q
    rw [ha] at same
    cases same
    have none1 : ∀ b, (fun _ => none : Hp) b = none := fun _ => rfl
    refine both (fun _ => none) (fun _ => .inl rfl) (.inr ⟨_, vs.toArray, _, q, rfl, rfl, rfl, ?_, ?_⟩) (fun b u e => ?_) (fun b n => (n rfl).elim) fun n => (n rfl).elim
    · rw [List.size_toArray, len]; exact hl
    · rw [List.toList_toArray]; exact rv
    · have e : (none : Option HO) = some u := e
      cases e
  | none =>
    obtain ⟨ob, eo⟩ : ∃ ob : Obj, ob = { cls := .type "list", data := .seq vs.toArray } := ⟨_, rfl⟩
    have at1 : ∀ (b : Addr) (u : HO), (if b = a then some (HO.frz ob (.lst (ns.map V.int))) else none) = some u → b = a ∧ u = .frz ob (.lst (ns.map V.int)) := fun b u e => by
      split at e
      · rename_i c; cases e; exact ⟨c, rfl⟩
      · cases e
    refine both (fun b => if b = a then some (.frz ob (.lst (ns.map V.int))) else none) (fun b => ?_) (.inl (.inr ⟨ob, if_pos rfl⟩)) (fun b u e => ?_) (fun b n => ?_) fun _ => q
    · by_cases c : b = a
      · exact .inr ⟨ob, ns.map V.int, if_pos c⟩
      · exact .inl (if_neg c)
    · obtain ⟨rfl, rfl⟩ := at1 b u e
      subst eo
      exact ⟨ha, by rw [List.length_map]; exact hl, vs, _, rv, ha⟩
    · cases e : (fun b => if b = a then some (HO.frz ob (.lst (ns.map V.int))) else none : Hp) b with
      | none => exact (n e).elim
      | some u => exact (at1 b u e).1
end
/-- the walk of a law whose def reprs -/
theorem walk_ofG {l : PySem.W.OpenLaw} {n k : Nat} {q : Program} {loose : List Str} {XP : (Str → Option Value) → Heap → Prop} {YP : World → Heap → Prop} {d : DefRec} {CX : CXT} {x : Str}
    (hn : l.most = some n) (hn2 : n ≤ sizeLine) (hdf : d.params.defaults = []) (hr : Room k callerA)
    (F : ∀ (w : World) (mg : Str → Option Value) (fa : Addr) (h : Heap), YP w h → h.Ns mainGlobals mg → mg d.name = some (.ref fa) →
      ∃ (K : PySem.W.Frag) (fd : FuncData) (sp : Sp), K.In h ∧ (∀ (s : Shared) (u : Value), BindsTo s fd ⟨[u], []⟩ [(x, u)]) ∧
        (∀ (H : Hp) (a : Addr) (ns : List Int), ns.length ≤ n → (∀ k ∈ ns, Builtin.Int.intBits k ≤ 1048576) → Only H → SqL K H a (ns.map V.int) → sp [.ref a] H (fun v _ => v = .bl true) fun _ _ _ => False) ∧
        ∀ base : Heap, K.In base → base.Ns mainGlobals mg → FnG l.prog w K mg base CX k fa fd [x] sp)
    (hCX : ∀ (H : Hp) (s : Shared) (e : Value) (s' : Shared), CX [] H s (fun _ _ _ => False) e s' → False) :
    PySem.W.WalkO q loose XP YP l.row.toRowW d [] (fun f vs => PySem.call f vs) := by
  refine Att.attach_callB hn hdf fun w s₀ s₁ mg mb fa o pm cd doc a vs ns G Y ho hd hcd hmg hobj hints hlen hbits hg => ?_
  obtain ⟨K, fd, sp, KX, hb, hsp, hF⟩ := F w mg fa _ Y G.T.g hmg
  exact law_callG KX G.T.g G.T.b G.T.builtins G.T.nolimit hg hobj hints (Nat.le_trans hlen hn2) hr hF hb (fun H hO hS => hsp H a ns hlen hbits hO hS) fun H e s' => hCX H s₁ e s'
theorem fn_okG {P : Program} {w : World} {K : PySem.W.Frag} {mg : Str → Option Value} {base : Heap} {x qual : Str} {params : Arguments} {body : List Stmt} {scope : Scope} {f : Addr} {fd : FuncData} {N ps : List Str} {k : Nat} {b : SemS}
    (Fn : FunD K x qual params body scope [] [] f fd) (S : FnScope N ps scope)
    (hb : ∀ (cdv : Value) (A : Around) (outer : List Env) (s : Shared) (H : Hp) (E : XK), A.guards = some [] → Room k (A.deeper (envOfC qual scope s.heap.objs.size f cdv)) →
      ∀ B, QSs (cxOf (L2N.CX P w) P w K mg base N qual scope f cdv A outer s H E) (fun cls d _ H => E cls d H) B body b) :
    FnG P w K mg base (L2N.CX P w) (k + 1) f fd ps (spF K ps.length (runFn N.length b)) := by
  refine fnG_of Fn S (fun vs H Q E h => h.1) fun cdv A outer s H vs Q E hg hr ⟨hlen, ss, F, R, h⟩ => ?_
  have hl : ss.length = vs.length := by have := R.len; simpa using this
  have hN : ps.length ≤ N.length := by have := congrArg List.length S.pre; rw [List.length_take] at this; omega
  unfold runFn at h
  by_cases ha : ss.all okArg = true
  · rw [if_pos ha] at h
    refine ⟨_, hb cdv A outer s H E hg hr ⟨ss ++ List.replicate (N.length - ss.length) Sl.un, L2.start N vs, F, H⟩, ss ++ List.replicate (N.length - ss.length) Sl.un, F, start_rel (N := N) R, ?_, ?_⟩
    · refine ⟨fun _ _ h => h, fun a o h _ => ⟨h, fun z => z⟩, fun a o h => ⟨o, h⟩, fun i b p h1 _ => ?_, fun i b h => ⟨rfl, b, h⟩, fun i b h => ⟨⟨b, .inl h⟩, rfl⟩⟩
      by_cases q : i < ss.length
      · rw [List.getElem?_append_left q] at h1
        have := List.all_eq_true.mp ha _ (List.mem_of_getElem? h1)
        cases this
      · rw [List.getElem?_append_right (by omega)] at h1
        have := List.eq_of_mem_replicate (List.mem_of_getElem? h1)
        cases this
    · cases q : b (ss ++ List.replicate (N.length - ss.length) .un) with
      | bad => rw [q] at h; exact h
      | exc c t e' =>
        rw [q] at h
        intro σ' F' H' cls d R' k' ex
        obtain ⟨a1, a2⟩ := fin_rel R R' k' ha
        exact h F' H' cls d a1 a2 ex
      | ok f e' =>
        rw [q] at h
        cases f with
        | bk => exact h.elim
        | ct => exact h.elim
        | nx =>
          intro σ' F' H' R' k'
          obtain ⟨a1, a2⟩ := fin_rel R R' k' ha
          exact h _ F' H' a1 a2 .non
        | rt r =>
          intro x σ' F' H' R' k' o
          obtain ⟨a1, a2⟩ := fin_rel R R' k' ha
          refine h _ F' H' a1 a2 ?_
          cases r with
          | r t => exact o
          | b z => exact o
          | s i => cases o
  · rw [if_neg ha] at h; exact h.elim
theorem fnG_cx {P : Program} {w : World} {K : PySem.W.Frag} {mg : Str → Option Value} {base : Heap} {k : Nat} {f : Addr} {fd : FuncData} {ps : List Str} {sp : Sp} (F : FnG P w K mg base (L2N.CX P w) k f fd ps sp) : FnG P w K mg base CXE k f fd ps sp :=
  ⟨F.few, fun A outer s H args us vs Q E g hr he hb hv hs => codeAny_mono (F.go A outer s H args us vs Q E g hr he hb hv hs) fun r s' h => by
    rcases r with e | (_ | _ | _ | _)
    all_goals first | exact h | exact ⟨P, w, h⟩⟩
end Ev

set_option Elab.async false
set_option linter.all false
set_option maxRecDepth 100000
namespace Ev
open PySem PySem.Spec PyProof.Rows L2
/-! ### divmod by large numbers -/
abbrev gDivmodW := g2 (gII (fun _ j => decide (0 < j ∧ j.natAbs.log2 < 9000)) fun i j => .tuple [.int (i / j), .int (i % j)])
theorem does_divmodW {K : PySem.W.Frag} : DoesN K (fun xs H Q => ∃ i j, xs = [.int i, .int j] ∧ CDivP i j ∧ ∀ p, H p = none → Q (.ref p) (upd H p (.tup [.int (i / j), .int (i % j)]))) gDivmodW := doesN2 fun x y t u w F H Q ff d d' hg => by
  cases t with
  | int i =>
    cases u with
    | int j =>
      simp only [gII] at hg
      split at hg
      · rename_i hl
        cases hg; cases d; cases d'
        have hl := of_decide_eq_true (p := 0 < j ∧ j.natAbs.log2 < 9000) hl
        exact ⟨trivial, fun q => ⟨i, j, rfl, ⟨hl.1, PyProof.noPylong_of_log2 hl.2⟩, fun p hp => q.2 _ p _ rfl hp (.cons (.int _) (.cons (.int _) .nil))⟩⟩
      · cases hg
    | _ => cases hg
  | _ => cases hg
/-! ### is True, is False -/
def gIsB (k : Bool → Bool) : T → T → Option Od
  | .bool a, .bool b => some (.r (.bool (k (decide (a = b)))))
  | _, _ => none
theorem does_notB {K : PySem.W.Frag} : Does2 K (fun x y H Q => ∃ a b : Bool, x = .bl a ∧ y = .bl b ∧ Q (.bl (!decide (a = b))) H) (gIsB not) := by
  intro x y t u w F H Q ff dx dy h
  cases t with
  | bool a =>
    cases u with
    | bool b => cases h; cases dx; cases dy; exact ⟨trivial, fun q => ⟨a, b, rfl, rfl, q.1 _ (.bl _)⟩⟩
    | _ => cases h
  | _ => cases u <;> cases h
end Ev

set_option Elab.async false
set_option linter.all false
namespace Lw
open PySem PySem.Spec L2 Ev
noncomputable def b_is_whole : SemS := (sRet (eAnd (eIsi isInt (eVar 0)) (eNot (eIsi isBool (eVar 0)))))
noncomputable def m_is_whole : FSem := runFn 1 b_is_whole
noncomputable def b_is_count : SemS := (sRet (eAnd (eCall 1 m_is_whole (aCons (eVar 0) aNil)) (eOp2 gGe (eVar 0) (eK (.int 0)))))
noncomputable def m_is_count : FSem := runFn 1 b_is_count
noncomputable def b_is_index : SemS := (sRet (eAnd (eCall 1 m_is_count (aCons (eVar 0) aNil)) (eOp2 gLt (eVar 0) (eVar 1))))
noncomputable def m_is_index : FSem := runFn 2 b_is_index
noncomputable def y1_power : SemS := (sSet 2 (eOp2 gMul (eVar 2) (eVar 0)))
noncomputable def l1_power : SemS := (sFor (iR1 (aCons (eVar 1) aNil)) (gN 3) y1_power)
noncomputable def b_power : SemS := (sSeq (sSet 2 (eK (.int 1))) (sSeq l1_power (sRet (eVar 2))))
noncomputable def m_power : FSem := runFn 4 b_power
noncomputable def y1_digits_of : SemS := (sSeq (sAsg (gT 2 (gsCons (gN 0) (gsCons (gN 5) gsNil))) (eFn gDivmod (aCons (eVar 0) (aCons (eVar 1) aNil)))) (sDrop (eMut 3 gAppend (aCons (eVar 5) aNil))))
noncomputable def l1_digits_of : SemS := (sFor (iR1 (aCons (eVar 2) aNil)) (gN 4) y1_digits_of)
noncomputable def b_digits_of : SemS := (sSeq (sSet 3 (eLst aNil)) (sSeq l1_digits_of (sRet (eRev (eVar 3)))))
noncomputable def m_digits_of : FSem := runFn 6 b_digits_of
noncomputable def b__is_part : SemS := (sSeq (sIf (tOr (tNot (tb (eIsi isTuple (eVar 2)))) (tb (eOp2 (gEq not) (eFn gLen (aCons (eVar 2) aNil)) (eK (.int 3))))) (sRet (eK (.bool false))) sNil) (sSeq (sAsg (gT 3 (gsCons (gN 3) (gsCons (gN 4) (gsCons (gN 5) gsNil)))) (eVar 2)) (sRet (eAnd (eCall 2 m_is_index (aCons (eVar 3) (aCons (eVar 0) aNil))) (eAnd (eCall 2 m_is_index (aCons (eVar 4) (aCons (eVar 0) aNil))) (eCall 2 m_is_index (aCons (eVar 5) (aCons (eVar 1) aNil))))))))
noncomputable def m__is_part : FSem := runFn 6 b__is_part
noncomputable def x1_places_of : SemE := (eComp (iOf (eVar 0)) (gN 1) tTrue (eTup (aCons (eOp2 gIx (eVar 1) (eK (.int 0))) (aCons (eOp2 gIx (eVar 1) (eK (.int 1))) aNil))) [1])
noncomputable def b_places_of : SemS := (sRet x1_places_of)
noncomputable def m_places_of : FSem := runFn 2 b_places_of
noncomputable def x1__is_kind : SemE := (eComp (iOf (eVar 2)) (gN 3) tTrue (eCall 3 m__is_part (aCons (eVar 0) (aCons (eVar 1) (aCons (eVar 3) aNil)))) [3])
noncomputable def b__is_kind : SemS := (sSeq (sIf (tOr (tNot (tb (eIsi isTuple (eVar 2)))) (tb (eOp2 (gEq not) (eFn gLen (aCons (eVar 2) aNil)) (eOp2 gMul (eVar 0) (eVar 0))))) (sRet (eK (.bool false))) sNil) (sSeq (sIf (tNot (tb (eFn gAll (aCons x1__is_kind aNil)))) (sRet (eK (.bool false))) sNil) (sRet (eOp2 (gEq id) (eLenSet (eCall 1 m_places_of (aCons (eVar 2) aNil))) (eOp2 gMul (eVar 0) (eVar 0))))))
noncomputable def m__is_kind : FSem := runFn 4 b__is_kind
noncomputable def x1_is_book : SemE := (eComp (iOf (eVar 2)) (gN 3) tTrue (eCall 3 m__is_kind (aCons (eVar 1) (aCons (eFn gLen (aCons (eVar 2) aNil)) (aCons (eVar 3) aNil)))) [3])
noncomputable def b_is_book : SemS := (sSeq (sIf (tOr (tNot (tb (eIsi isTuple (eVar 0)))) (tb (eOp2 (gEq not) (eFn gLen (aCons (eVar 0) aNil)) (eK (.int 2))))) (sRet (eK (.bool false))) sNil) (sSeq (sAsg (gT 2 (gsCons (gN 1) (gsCons (gN 2) gsNil))) (eVar 0)) (sSeq (sIf (tOr (tNot (tb (eCall 1 m_is_whole (aCons (eVar 1) aNil)))) (tb (eOp2 (gIn not) (eVar 1) (eTup (aCons (eK (.int 2)) (aCons (eK (.int 3)) aNil)))))) (sRet (eK (.bool false))) sNil) (sSeq (sIf (tOr (tNot (tb (eIsi isTuple (eVar 2)))) (tb (eOp2 (gEq id) (eFn gLen (aCons (eVar 2) aNil)) (eK (.int 0))))) (sRet (eK (.bool false))) sNil) (sRet (eFn gAll (aCons x1_is_book aNil)))))))
noncomputable def m_is_book : FSem := runFn 4 b_is_book
noncomputable def b_check_book : SemS := (sIf (tNot (tb (eCall 1 m_is_book (aCons (eVar 0) aNil)))) sNever sNil)
noncomputable def m_check_book : FSem := runFn 1 b_check_book
noncomputable def b_check_kind : SemS := (sIf (tNot (tb (eCall 2 m_is_index (aCons (eVar 1) (aCons (eFn gLen (aCons (eOp2 gIx (eVar 0) (eK (.int 1))) aNil)) aNil))))) sNever sNil)
noncomputable def m_check_kind : FSem := runFn 2 b_check_kind
noncomputable def b_check_depth : SemS := (sIf (tNot (tb (eCall 1 m_is_count (aCons (eVar 0) aNil)))) sNever sNil)
noncomputable def m_check_depth : FSem := runFn 1 b_check_depth
noncomputable def b_check_from_one : SemS := (sIf (tOr (tNot (tb (eCall 1 m_is_count (aCons (eVar 0) aNil)))) (tb (eOp2 (gEq id) (eVar 0) (eK (.int 0))))) sNever sNil)
noncomputable def m_check_from_one : FSem := runFn 1 b_check_from_one
noncomputable def b_how_many_cells : SemS := (sRet (eCall 2 m_power (aCons (eOp2 gMul (eOp2 gIx (eVar 0) (eK (.int 0))) (eOp2 gIx (eVar 0) (eK (.int 0)))) (aCons (eVar 1) aNil))))
noncomputable def m_how_many_cells : FSem := runFn 2 b_how_many_cells
noncomputable def y1_cell_in_kind : SemS := (sSeq (sAsg (gT 3 (gsCons (gN 9) (gsCons (gN 10) (gsCons (gN 1) gsNil)))) (eOp2 gIx (eOp2 gIx (eVar 5) (eVar 1)) (eVar 8))) (sSeq (sSet 6 (eOp2 gAdd (eOp2 gMul (eVar 6) (eVar 4)) (eVar 9))) (sSet 7 (eOp2 gAdd (eOp2 gMul (eVar 7) (eVar 4)) (eVar 10)))))
noncomputable def l1_cell_in_kind : SemS := (sFor (iOf (eCall 3 m_digits_of (aCons (eVar 3) (aCons (eOp2 gMul (eVar 4) (eVar 4)) (aCons (eVar 2) aNil))))) (gN 8) y1_cell_in_kind)
noncomputable def b_cell_in_kind : SemS := (sSeq (sAsg (gT 2 (gsCons (gN 4) (gsCons (gN 5) gsNil))) (eVar 0)) (sSeq (sSet 6 (eK (.int 0))) (sSeq (sSet 7 (eK (.int 0))) (sSeq l1_cell_in_kind (sRet (eTup (aCons (eVar 6) (aCons (eVar 7) aNil))))))))
noncomputable def m_cell_in_kind : FSem := runFn 11 b_cell_in_kind
noncomputable def b__is_square : SemS := (sSeq (sIf (tOr (tNot (tb (eIsi isTuple (eVar 1)))) (tb (eOp2 (gEq not) (eFn gLen (aCons (eVar 1) aNil)) (eK (.int 3))))) (sRet (eK (.bool false))) sNil) (sSeq (sAsg (gT 3 (gsCons (gN 2) (gsCons (gN 3) (gsCons (gN 4) gsNil)))) (eVar 1)) (sRet (eAnd (eCall 1 m_is_count (aCons (eVar 2) aNil)) (eAnd (eCall 1 m_is_count (aCons (eVar 3) aNil)) (eCall 2 m_is_index (aCons (eVar 4) (aCons (eVar 0) aNil))))))))
noncomputable def m__is_square : FSem := runFn 5 b__is_square
noncomputable def x1_is_field : SemE := (eComp (iOf (eVar 2)) (gN 3) tTrue (eCall 2 m__is_square (aCons (eFn gLen (aCons (eOp2 gIx (eVar 1) (eK (.int 1))) aNil)) (aCons (eVar 3) aNil))) [3])
noncomputable def b_is_field : SemS := (sSeq (sIf (tOr (tNot (tb (eIsi isTuple (eVar 0)))) (tb (eOp2 (gEq not) (eFn gLen (aCons (eVar 0) aNil)) (eK (.int 2))))) (sRet (eK (.bool false))) sNil) (sSeq (sAsg (gT 2 (gsCons (gN 1) (gsCons (gN 2) gsNil))) (eVar 0)) (sSeq (sIf (tNot (tb (eCall 1 m_is_book (aCons (eVar 1) aNil)))) (sRet (eK (.bool false))) sNil) (sSeq (sIf (tOr (tNot (tb (eIsi isTuple (eVar 2)))) (tb (eOp2 (gEq id) (eFn gLen (aCons (eVar 2) aNil)) (eK (.int 0))))) (sRet (eK (.bool false))) sNil) (sSeq (sIf (tNot (tb (eFn gAll (aCons x1_is_field aNil)))) (sRet (eK (.bool false))) sNil) (sRet (eOp2 (gEq id) (eLenSet (eCall 1 m_places_of (aCons (eVar 2) aNil))) (eFn gLen (aCons (eVar 2) aNil)))))))))
noncomputable def m_is_field : FSem := runFn 4 b_is_field
noncomputable def b_check_field : SemS := (sIf (tNot (tb (eCall 1 m_is_field (aCons (eVar 0) aNil)))) sNever sNil)
noncomputable def m_check_field : FSem := runFn 1 b_check_field
noncomputable def b_field_cell : SemS := (sSeq (sDrop (eCall 1 m_check_field (aCons (eVar 0) aNil))) (sSeq (sDrop (eCall 1 m_check_depth (aCons (eVar 1) aNil))) (sSeq (sAsg (gT 2 (gsCons (gN 3) (gsCons (gN 4) gsNil))) (eVar 0)) (sSeq (sSet 5 (eCall 2 m_how_many_cells (aCons (eVar 3) (aCons (eVar 1) aNil)))) (sSeq (sIf (tNot (tb (eCall 2 m_is_index (aCons (eVar 2) (aCons (eOp2 gMul (eVar 5) (eFn gLen (aCons (eVar 4) aNil))) aNil))))) sNever sNil) (sSeq (sAsg (gT 2 (gsCons (gN 6) (gsCons (gN 7) gsNil))) (eFn gDivmodW (aCons (eVar 2) (aCons (eVar 5) aNil)))) (sSeq (sAsg (gT 3 (gsCons (gN 8) (gsCons (gN 9) (gsCons (gN 10) gsNil)))) (eOp2 gIx (eVar 4) (eVar 6))) (sSeq (sAsg (gT 2 (gsCons (gN 11) (gsCons (gN 12) gsNil))) (eCall 4 m_cell_in_kind (aCons (eVar 3) (aCons (eVar 10) (aCons (eVar 1) (aCons (eVar 7) aNil)))))) (sSeq (sSet 13 (eCall 2 m_power (aCons (eOp2 gIx (eVar 3) (eK (.int 0))) (aCons (eVar 1) aNil)))) (sRet (eTup (aCons (eOp2 gAdd (eOp2 gMul (eVar 8) (eVar 13)) (eVar 11)) (aCons (eOp2 gAdd (eOp2 gMul (eVar 9) (eVar 13)) (eVar 12)) aNil)))))))))))))
noncomputable def m_field_cell : FSem := runFn 14 b_field_cell
noncomputable def x1_row_field : SemE := (eComp (iR1 (aCons (eVar 2) aNil)) (gN 3) tTrue (eTup (aCons (eVar 3) (aCons (eK (.int 0)) (aCons (eVar 1) aNil)))) [3])
noncomputable def b_row_field : SemS := (sSeq (sDrop (eCall 1 m_check_book (aCons (eVar 0) aNil))) (sSeq (sDrop (eCall 2 m_check_kind (aCons (eVar 0) (aCons (eVar 1) aNil)))) (sSeq (sDrop (eCall 1 m_check_from_one (aCons (eVar 2) aNil))) (sRet (eTup (aCons (eVar 0) (aCons (eFn gTuple (aCons x1_row_field aNil)) aNil)))))))
noncomputable def m_row_field : FSem := runFn 4 b_row_field
noncomputable def b__law_stock : SemS := (sSeq (sSet 2 (eIf (tb (eOp2 gLt (eVar 1) (eFn gLen (aCons (eVar 0) aNil)))) (eOp2 gIx (eVar 0) (eVar 1)) (eOp2 gAdd (eOp2 gAdd (eOp2 gMulX (eK (.int 5003)) (eVar 1)) (eOp2 gMulX (eK (.int 271)) (eFn gLen (aCons (eVar 0) aNil)))) (eK (.int 11))))) (sSeq (sSet 3 (eIf (tb (eOp2 gGe (eVar 2) (eOp2 gPow (eK (.int 10)) (eK (.int 18))))) (eOp2 gSub (eVar 2) (eOp2 gPow (eK (.int 10)) (eK (.int 18)))) (eK (.int 0)))) (sRet (eLst (aCons (eVar 3) (aCons (eOp2 gMod (eFn gInt (aCons (eOp2 gAdd (eOp2 gAdd (eOp2 gMulX (eVar 2) (eK (.int 1299709))) (eOp2 gMulX (eVar 1) (eK (.int 15487469)))) (eK (.int 4241))) aNil)) (eOp2 gAdd (eOp2 gPow (eK (.int 10)) (eK (.int 28))) (eK (.int 331)))) (aCons (eK (.int 0)) aNil)))))))
noncomputable def m__law_stock : FSem := runFn 4 b__law_stock
noncomputable def b__law_pick : SemS := (sSeq (sIf (tb (eOp2 gGt (eOp2 gIx (eVar 0) (eK (.int 0))) (eK (.int 0)))) (sSeq (sSet 2 (eOp2 gMod (eFn gInt (aCons (eOp2 gIx (eVar 0) (eK (.int 0))) aNil)) (eVar 1))) (sSeq (sSetIx 0 (eK (.int 0)) (eOp2 gDiv (eOp2 gIx (eVar 0) (eK (.int 0))) (eVar 1))) (sRet (eVar 2)))) sNil) (sSeq (sSetIx 0 (eK (.int 2)) (eOp2 gAdd (eOp2 gIx (eVar 0) (eK (.int 2))) (eK (.int 1)))) (sSeq (sSet 3 (eOp2 gMod (eOp2 gPowW (eFn gInt (aCons (eOp2 gAdd (eOp2 gIx (eVar 0) (eK (.int 1))) (eOp2 gMul (eK (.int 7368787)) (eOp2 gIx (eVar 0) (eK (.int 2))))) aNil)) (eK (.int 3))) (eOp2 gAdd (eOp2 gPow (eK (.int 10)) (eK (.int 27))) (eK (.int 103))))) (sSeq (sSet 3 (eOp2 gMod (eOp2 gPowW (eFn gInt (aCons (eOp2 gAdd (eVar 3) (eOp2 gMul (eOp2 gMul (eK (.int 15485863)) (eOp2 gIx (eVar 0) (eK (.int 2)))) (eOp2 gIx (eVar 0) (eK (.int 2))))) aNil)) (eK (.int 2))) (eOp2 gAdd (eOp2 gPow (eK (.int 10)) (eK (.int 26))) (eK (.int 67))))) (sRet (eOp2 gMod (eFn gInt (aCons (eOp2 gDiv (eVar 3) (eK (.int 65536))) aNil)) (eVar 1)))))))
noncomputable def m__law_pick : FSem := runFn 4 b__law_pick
noncomputable def x1__law_alike (rec_ : FSem) : SemE := (eCompG (iZipV 0 1) (gT 2 (gsCons (gN 2) (gsCons (gN 3) gsNil))) tTrue (eCall 2 rec_ (aCons (eVar 2) (aCons (eVar 3) aNil))) [2, 3])
noncomputable def m__law_alike : Nat → FSem
  | 0 => fun _ => .bad
  | fuel + 1 => runFn 4 (sSeq (sIf (tb (eOp2 (gIsN id) (eVar 1) (eK .none))) (sRet (eOp2 (gIsN id) (eVar 0) (eK .none))) sNil) (sSeq (sIf (tb (eIsi isBool (eVar 1))) (sRet (eAnd (eIsi isBool (eVar 0)) (eOp2 (gEq id) (eVar 0) (eVar 1)))) sNil) (sSeq (sIf (tb (eIsi isInt (eVar 1))) (sRet (eAnd (eIsi isInt (eVar 0)) (eAnd (eNot (eIsi isBool (eVar 0))) (eOp2 (gEq id) (eVar 0) (eVar 1))))) sNil) (sSeq (sIf (tb (eIsi isStr (eVar 1))) (sRet (eAnd (eIsi isStr (eVar 0)) (eOp2 (gEq id) (eVar 0) (eVar 1)))) sNil) (sSeq (sIf (tOr (tAnd (tb (eIsi isTuple (eVar 1))) (tNot (tb (eIsi isTuple (eVar 0))))) (tAnd (tb (eIsi isList (eVar 1))) (tNot (tb (eIsi isList (eVar 0)))))) (sRet (eK (.bool false))) sNil) (sRet (eAnd (eOp2 (gEq id) (eFn gLen (aCons (eVar 0) aNil)) (eFn gLen (aCons (eVar 1) aNil))) (eFn gAll (aCons (x1__law_alike (m__law_alike fuel)) aNil)))))))))
noncomputable def y1__law_power : SemS := (sSet 2 (eOp2 gMul (eVar 2) (eVar 0)))
noncomputable def l1__law_power : SemS := (sFor (iR1 (aCons (eVar 1) aNil)) (gN 3) y1__law_power)
noncomputable def b__law_power : SemS := (sSeq (sSet 2 (eK (.int 1))) (sSeq l1__law_power (sRet (eVar 2))))
noncomputable def m__law_power : FSem := runFn 4 b__law_power
noncomputable def x1__law_places : SemE := (eComp (iR1 (aCons (eVar 1) aNil)) (gN 5) tTrue (eTup (aCons (eVar 4) (aCons (eVar 5) aNil))) [5])
noncomputable def y1__law_places : SemS := (sSet 2 (eOp2 gAdd (eVar 2) x1__law_places))
noncomputable def l1__law_places : SemS := (sFor (iR1 (aCons (eVar 1) aNil)) (gN 4) y1__law_places)
noncomputable def y2__law_places : SemS := (sDrop (eMut 3 gAppend (aCons (eMut 2 gPop (aCons (eCall 2 m__law_pick (aCons (eVar 0) (aCons (eFn gLen (aCons (eVar 2) aNil)) aNil))) aNil)) aNil)))
noncomputable def w1__law_places : SemS := (sWhile (tb (eOp2 (gEq not) (eVar 2) (eLst aNil))) y2__law_places)
noncomputable def b__law_places : SemS := (sSeq (sPar [2, 3] (aCons (eLst aNil) (aCons (eLst aNil) aNil))) (sSeq l1__law_places (sSeq w1__law_places (sRet (eVar 3)))))
noncomputable def m__law_places : FSem := runFn 6 b__law_places
noncomputable def y1__law_posed : SemS := (sPar [1, 2] (aCons (eOp2 gSub (eOp2 gSub (eVar 0) (eK (.int 1))) (eVar 2)) (aCons (eVar 1) aNil)))
noncomputable def l1__law_posed : SemS := (sFor (iR1 (aCons (eOp2 gIx (eVar 3) (eK (.int 0))) aNil)) (gN 4) y1__law_posed)
noncomputable def b__law_posed : SemS := (sSeq l1__law_posed (sRet (eIf (tb (eOp2 (gEq id) (eOp2 gIx (eVar 3) (eK (.int 1))) (eK (.int 1)))) (eTup (aCons (eVar 2) (aCons (eVar 1) aNil))) (eTup (aCons (eVar 1) (aCons (eVar 2) aNil))))))
noncomputable def m__law_posed : FSem := runFn 5 b__law_posed
noncomputable def y1__law_going : SemS := (sSeq (sPar [7, 8] (aCons (eOp2 gDiv (eVar 3) (eK (.int 2))) (aCons (eOp2 gMod (eFn gInt (aCons (eVar 3) aNil)) (eK (.int 2))) aNil))) (sSeq (sSet 9 (eOp2 gAdd (eOp2 gMul (eK (.int 2)) (eOp2 gMod (eFn gInt (aCons (eOp2 gAdd (eVar 7) (eVar 6)) aNil)) (eK (.int 2)))) (eOp2 gMod (eFn gInt (aCons (eOp2 gAdd (eVar 8) (eVar 5)) aNil)) (eK (.int 2))))) (sDrop (eMut 4 gAppend (aCons (eTup (aCons (eIf (tb (eOp2 (gEq id) (eVar 7) (eK (.int 1)))) (eOp2 gSub (eK (.int 2)) (eVar 5)) (eVar 5)) (aCons (eIf (tb (eOp2 (gEq id) (eVar 8) (eK (.int 1)))) (eOp2 gSub (eK (.int 2)) (eVar 6)) (eVar 6)) (aCons (eVar 9) aNil)))) aNil)))))
noncomputable def l1__law_going : SemS := (sFor (iOf (eLst (aCons (eTup (aCons (eK (.int 0)) (aCons (eK (.int 0)) aNil))) (aCons (eTup (aCons (eK (.int 0)) (aCons (eK (.int 1)) aNil))) (aCons (eTup (aCons (eK (.int 0)) (aCons (eK (.int 2)) aNil))) (aCons (eTup (aCons (eK (.int 1)) (aCons (eK (.int 2)) aNil))) (aCons (eTup (aCons (eK (.int 1)) (aCons (eK (.int 1)) aNil))) (aCons (eTup (aCons (eK (.int 1)) (aCons (eK (.int 0)) aNil))) (aCons (eTup (aCons (eK (.int 2)) (aCons (eK (.int 0)) aNil))) (aCons (eTup (aCons (eK (.int 2)) (aCons (eK (.int 1)) aNil))) (aCons (eTup (aCons (eK (.int 2)) (aCons (eK (.int 2)) aNil))) aNil))))))))))) (gT 2 (gsCons (gN 5) (gsCons (gN 6) gsNil))) y1__law_going)
noncomputable def y2__law_going : SemS := (sSeq (sSet 4 (eLst aNil)) (sSeq l1__law_going (sDrop (eMut 2 gAppend (aCons (eFn gTuple (aCons (eVar 4) aNil)) aNil)))))
noncomputable def l2__law_going : SemS := (sFor (iR1 (aCons (eK (.int 4)) aNil)) (gN 3) y2__law_going)
noncomputable def y3__law_going : SemS := (sDrop (eMut 13 gAppend (aCons (eMut 12 gPop (aCons (eCall 2 m__law_pick (aCons (eVar 0) (aCons (eFn gLen (aCons (eVar 12) aNil)) aNil))) aNil)) aNil)))
noncomputable def w1__law_going : SemS := (sWhile (tb (eOp2 (gEq not) (eVar 12) (eLst aNil))) y3__law_going)
noncomputable def x1__law_going : SemE := (eComp (iOf (eOp2 gIx (eVar 2) (eVar 15))) (gT 3 (gsCons (gN 5) (gsCons (gN 6) (gsCons (gN 9) gsNil)))) tTrue (eOp2 gAdd (eCall 4 m__law_posed (aCons (eVar 1) (aCons (eVar 5) (aCons (eVar 6) (aCons (eVar 10) aNil))))) (eTup (aCons (eOp2 gIx (eVar 13) (eVar 9)) aNil))) [5, 6, 9])
noncomputable def y4__law_going : SemS := (sSeq (sSet 4 x1__law_going) (sSetIx 14 (eOp2 gIx (eVar 13) (eVar 15)) (eFn gTuple (aCons (eIf (tb (eOp2 (gEq id) (eVar 11) (eK (.int 1)))) (eRev (eVar 4)) (eVar 4)) aNil))))
noncomputable def l3__law_going : SemS := (sFor (iR1 (aCons (eK (.int 4)) aNil)) (gN 15) y4__law_going)
noncomputable def b__law_going : SemS := (sSeq (sPar [1, 2] (aCons (eK (.int 2)) (aCons (eLst (aCons (eTup (aCons (eTup (aCons (eK (.int 0)) (aCons (eK (.int 0)) (aCons (eK (.int 1)) aNil)))) (aCons (eTup (aCons (eK (.int 0)) (aCons (eK (.int 1)) (aCons (eK (.int 0)) aNil)))) (aCons (eTup (aCons (eK (.int 1)) (aCons (eK (.int 1)) (aCons (eK (.int 0)) aNil)))) (aCons (eTup (aCons (eK (.int 1)) (aCons (eK (.int 0)) (aCons (eK (.int 2)) aNil)))) aNil))))) (aCons (eTup (aCons (eTup (aCons (eK (.int 0)) (aCons (eK (.int 0)) (aCons (eK (.int 0)) aNil)))) (aCons (eTup (aCons (eK (.int 1)) (aCons (eK (.int 0)) (aCons (eK (.int 1)) aNil)))) (aCons (eTup (aCons (eK (.int 1)) (aCons (eK (.int 1)) (aCons (eK (.int 1)) aNil)))) (aCons (eTup (aCons (eK (.int 0)) (aCons (eK (.int 1)) (aCons (eK (.int 3)) aNil)))) aNil))))) aNil))) aNil))) (sSeq (sSet 2 (eOp2 gAdd (eVar 2) (eLst (aCons (eTup (aCons (eTup (aCons (eK (.int 1)) (aCons (eK (.int 1)) (aCons (eK (.int 3)) aNil)))) (aCons (eTup (aCons (eK (.int 0)) (aCons (eK (.int 1)) (aCons (eK (.int 2)) aNil)))) (aCons (eTup (aCons (eK (.int 0)) (aCons (eK (.int 0)) (aCons (eK (.int 2)) aNil)))) (aCons (eTup (aCons (eK (.int 1)) (aCons (eK (.int 0)) (aCons (eK (.int 0)) aNil)))) aNil))))) (aCons (eTup (aCons (eTup (aCons (eK (.int 1)) (aCons (eK (.int 1)) (aCons (eK (.int 2)) aNil)))) (aCons (eTup (aCons (eK (.int 1)) (aCons (eK (.int 0)) (aCons (eK (.int 3)) aNil)))) (aCons (eTup (aCons (eK (.int 0)) (aCons (eK (.int 0)) (aCons (eK (.int 3)) aNil)))) (aCons (eTup (aCons (eK (.int 0)) (aCons (eK (.int 1)) (aCons (eK (.int 1)) aNil)))) aNil))))) aNil))))) (sSeq (sIf (tb (eOp2 (gEq id) (eCall 2 m__law_pick (aCons (eVar 0) (aCons (eK (.int 3)) aNil))) (eK (.int 0)))) (sSeq (sPar [1, 2] (aCons (eK (.int 3)) (aCons (eLst aNil) aNil))) l2__law_going) sNil) (sSeq (sPar [10, 11] (aCons (eTup (aCons (eCall 2 m__law_pick (aCons (eVar 0) (aCons (eK (.int 4)) aNil))) (aCons (eCall 2 m__law_pick (aCons (eVar 0) (aCons (eK (.int 2)) aNil))) aNil))) (aCons (eCall 2 m__law_pick (aCons (eVar 0) (aCons (eK (.int 2)) aNil))) aNil))) (sSeq (sPar [12, 13] (aCons (eLst (aCons (eK (.int 0)) (aCons (eK (.int 1)) (aCons (eK (.int 2)) (aCons (eK (.int 3)) aNil))))) (aCons (eLst aNil) aNil))) (sSeq w1__law_going (sSeq (sSet 14 (eRep (eLst (aCons (eTup aNil) aNil)) (eK (.int 4)))) (sSeq l3__law_going (sRet (eTup (aCons (eVar 1) (aCons (eFn gTuple (aCons (eVar 14) aNil)) aNil))))))))))))
noncomputable def m__law_going : FSem := runFn 16 b__law_going
noncomputable def x1__law_book : SemE := (eComp (iOf (eCall 2 m__law_places (aCons (eVar 0) (aCons (eVar 3) aNil)))) (gT 2 (gsCons (gN 10) (gsCons (gN 11) gsNil))) tTrue (eTup (aCons (eVar 10) (aCons (eVar 11) (aCons (eCall 2 m__law_pick (aCons (eVar 0) (aCons (eVar 5) aNil))) aNil)))) [10, 11])
noncomputable def y1__law_book : SemS := (sDrop (eMut 4 gAppend (aCons (eFn gTuple (aCons x1__law_book aNil)) aNil)))
noncomputable def l1__law_book : SemS := (sFor (iR1 (aCons (eVar 5) aNil)) (gN 6) y1__law_book)
noncomputable def y2__law_book : SemS := (sSeq (sPar [6, 9] (aCons (eCall 2 m__law_pick (aCons (eVar 0) (aCons (eK (.int 4)) aNil))) (aCons (eCall 2 m__law_pick (aCons (eVar 0) (aCons (eOp2 gMul (eVar 3) (eVar 3)) aNil))) aNil))) (sSeq (sAsg (gT 3 (gsCons (gN 10) (gsCons (gN 11) (gsCons (gN 12) gsNil)))) (eOp2 gIx (eOp2 gIx (eVar 7) (eVar 6)) (eVar 9))) (sSeq (sSet 13 (eOp2 gAdd (eOp2 gAdd (eSl (eOp2 gIx (eVar 7) (eVar 6)) pNo (pSo (eVar 9))) (eTup (aCons (eTup (aCons (eVar 10) (aCons (eVar 11) (aCons (eCall 2 m__law_pick (aCons (eVar 0) (aCons (eK (.int 4)) aNil))) aNil)))) aNil))) (eSl (eOp2 gIx (eVar 7) (eVar 6)) (pSo (eOp2 gAdd (eVar 9) (eK (.int 1)))) pNo))) (sSet 7 (eOp2 gAdd (eOp2 gAdd (eSl (eVar 7) pNo (pSo (eVar 6))) (eTup (aCons (eVar 13) aNil))) (eSl (eVar 7) (pSo (eOp2 gAdd (eVar 6) (eK (.int 1)))) pNo))))))
noncomputable def l2__law_book : SemS := (sFor (iR1 (aCons (eOp2 gAdd (eK (.int 1)) (eCall 2 m__law_pick (aCons (eVar 0) (aCons (eK (.int 2)) aNil)))) aNil)) (gN 8) y2__law_book)
noncomputable def x2__law_book : SemE := (eComp (iOf (eVar 13)) (gT 3 (gsCons (gN 10) (gsCons (gN 11) (gsCons (gN 12) gsNil)))) tTrue (eTup (aCons (eVar 10) (aCons (eVar 11) (aCons (eCall 2 m__law_pick (aCons (eVar 0) (aCons (eOp2 gAdd (eFn gLen (aCons (eVar 7) aNil)) (eK (.int 1))) aNil))) aNil)))) [10, 11, 12])
noncomputable def y3__law_book : SemS := (sSeq (sSet 13 (eOp2 gIx (eVar 7) (eCall 2 m__law_pick (aCons (eVar 0) (aCons (eFn gLen (aCons (eVar 7) aNil)) aNil))))) (sSet 7 (eOp2 gAdd (eVar 7) (eTup (aCons (eFn gTuple (aCons x2__law_book aNil)) aNil)))))
noncomputable def l3__law_book : SemS := (sFor (iR1 (aCons (eIf (tb (eOp2 (gEq id) (eVar 2) (eK (.int 3)))) (eCall 2 m__law_pick (aCons (eVar 0) (aCons (eOp2 gSub (eVar 1) (eK (.int 3))) aNil))) (eK (.int 0))) aNil)) (gN 8) y3__law_book)
noncomputable def b__law_book : SemS := (sSeq (sSet 2 (eCall 2 m__law_pick (aCons (eVar 0) (aCons (eK (.int 4)) aNil)))) (sSeq (sIf (tb (eOp2 (gEq id) (eVar 2) (eK (.int 0)))) (sSeq (sPar [3, 4] (aCons (eOp2 gIx (eLst (aCons (eK (.int 2)) (aCons (eK (.int 2)) (aCons (eK (.int 3)) aNil)))) (eCall 2 m__law_pick (aCons (eVar 0) (aCons (eK (.int 3)) aNil)))) (aCons (eLst aNil) aNil))) (sSeq (sSet 5 (eOp2 gAdd (eK (.int 1)) (eCall 2 m__law_pick (aCons (eVar 0) (aCons (eVar 1) aNil))))) (sSeq l1__law_book (sRet (eTup (aCons (eVar 3) (aCons (eFn gTuple (aCons (eVar 4) aNil)) aNil))))))) sNil) (sSeq (sAsg (gT 2 (gsCons (gN 3) (gsCons (gN 7) gsNil))) (eCall 1 m__law_going (aCons (eVar 0) aNil))) (sSeq (sIf (tb (eOp2 (gEq id) (eVar 2) (eK (.int 1)))) (sRet (eTup (aCons (eVar 3) (aCons (eVar 7) aNil)))) sNil) (sSeq l2__law_book (sSeq l3__law_book (sRet (eTup (aCons (eVar 3) (aCons (eVar 7) aNil))))))))))
noncomputable def m__law_book : FSem := runFn 14 b__law_book
noncomputable def x1__law_field : SemE := (eComp (iOf (eVar 11)) (gN 12) (tAnd (tb (eMIn true 6 (eVar 12))) (tAnd (tb (eOp2 gGe (eFn gMinT (aCons (eVar 12) aNil)) (eK (.int 0)))) (tb (eOp2 gLe (eFn gMaxT (aCons (eVar 12) aNil)) (eK (.int 20)))))) (eVar 12) [12])
noncomputable def y1__law_field : SemS := (sSeq (sIf (tAnd (tb (eVar 9)) (tb (eOp2 gGt (eVar 10) (eK (.int 0))))) (sSeq (sSet 11 (eLst (aCons (eTup (aCons (eOp2 gAdd (eVar 7) (eK (.int 1))) (aCons (eVar 8) aNil))) (aCons (eTup (aCons (eOp2 gSub (eVar 7) (eK (.int 1))) (aCons (eVar 8) aNil))) (aCons (eTup (aCons (eVar 7) (aCons (eOp2 gAdd (eVar 8) (eK (.int 1))) aNil))) (aCons (eTup (aCons (eVar 7) (aCons (eOp2 gSub (eVar 8) (eK (.int 1))) aNil))) aNil)))))) (sSeq (sSet 11 x1__law_field) (sSeq (sIf (tb (eOp2 (gEq id) (eVar 11) (eLst aNil))) (sRet (eTup (aCons (eVar 3) (aCons (eFn gTuple (aCons (eVar 5) aNil)) aNil)))) sNil) (sAsg (gT 2 (gsCons (gN 7) (gsCons (gN 8) gsNil))) (eOp2 gIx (eVar 11) (eCall 2 m__law_pick (aCons (eVar 0) (aCons (eFn gLen (aCons (eVar 11) aNil)) aNil)))))))) (sIf (tb (eOp2 gGt (eVar 10) (eK (.int 0)))) (sPar [7, 8] (aCons (eCall 2 m__law_pick (aCons (eVar 0) (aCons (eK (.int 21)) aNil))) (aCons (eCall 2 m__law_pick (aCons (eVar 0) (aCons (eK (.int 21)) aNil))) aNil))) sNil)) (sSeq (sIf (tb (eMIn true 6 (eTup (aCons (eVar 7) (aCons (eVar 8) aNil))))) (sDrop (eMut 5 gAppend (aCons (eTup (aCons (eVar 7) (aCons (eVar 8) (aCons (eIf (tb (eOp2 (gEq id) (eCall 2 m__law_pick (aCons (eVar 0) (aCons (eK (.int 2)) aNil))) (eK (.int 0)))) (eCall 2 m__law_pick (aCons (eVar 0) (aCons (eFn gLen (aCons (eOp2 gIx (eVar 3) (eK (.int 1))) aNil)) aNil))) (eK (.int 0))) aNil)))) aNil))) sNil) (sMPut 6 (eTup (aCons (eVar 7) (aCons (eVar 8) aNil))) (eK (.bool true)))))
noncomputable def l1__law_field : SemS := (sFor (iR1 (aCons (eVar 4) aNil)) (gN 10) y1__law_field)
noncomputable def b__law_field : SemS := (sSeq (sSet 3 (eCall 2 m__law_book (aCons (eVar 0) (aCons (eVar 2) aNil)))) (sSeq (sPar [4, 5, 6] (aCons (eOp2 gAdd (eK (.int 1)) (eCall 2 m__law_pick (aCons (eVar 0) (aCons (eVar 1) aNil)))) (aCons (eLst aNil) (aCons eMNew aNil)))) (sSeq (sPar [7, 8, 9] (aCons (eCall 2 m__law_pick (aCons (eVar 0) (aCons (eK (.int 21)) aNil))) (aCons (eCall 2 m__law_pick (aCons (eVar 0) (aCons (eK (.int 21)) aNil))) (aCons (eOp2 gGt (eCall 2 m__law_pick (aCons (eVar 0) (aCons (eK (.int 3)) aNil))) (eK (.int 0))) aNil)))) (sSeq l1__law_field (sRet (eTup (aCons (eVar 3) (aCons (eFn gTuple (aCons (eVar 5) aNil)) aNil))))))))
noncomputable def m__law_field : FSem := runFn 13 b__law_field
noncomputable def y1__law_cell_at : SemS := (sSet 8 (eOp2 gMul (eOp2 gMul (eVar 8) (eVar 4)) (eVar 4)))
noncomputable def l1__law_cell_at : SemS := (sFor (iR1 (aCons (eVar 2) aNil)) (gN 9) y1__law_cell_at)
noncomputable def y2__law_cell_at : SemS := (sSeq (sSet 8 (eOp2 gDiv (eVar 8) (eOp2 gMul (eVar 4) (eVar 4)))) (sSeq (sAsg (gT 3 (gsCons (gN 10) (gsCons (gN 11) (gsCons (gN 1) gsNil)))) (eOp2 gIx (eOp2 gIx (eVar 5) (eVar 1)) (eOp2 gDiv (eVar 3) (eVar 8)))) (sPar [6, 7, 3] (aCons (eOp2 gAdd (eOp2 gMul (eVar 6) (eVar 4)) (eVar 10)) (aCons (eOp2 gAdd (eOp2 gMul (eVar 7) (eVar 4)) (eVar 11)) (aCons (eOp2 gMod (eFn gInt (aCons (eVar 3) aNil)) (eVar 8)) aNil))))))
noncomputable def l2__law_cell_at : SemS := (sFor (iR1 (aCons (eVar 2) aNil)) (gN 9) y2__law_cell_at)
noncomputable def b__law_cell_at : SemS := (sSeq (sAsg (gT 2 (gsCons (gN 4) (gsCons (gN 5) gsNil))) (eVar 0)) (sSeq (sPar [6, 7, 8] (aCons (eK (.int 0)) (aCons (eK (.int 0)) (aCons (eK (.int 1)) aNil)))) (sSeq l1__law_cell_at (sSeq l2__law_cell_at (sRet (eTup (aCons (eVar 6) (aCons (eVar 7) aNil))))))))
noncomputable def m__law_cell_at : FSem := runFn 12 b__law_cell_at
noncomputable def b__law_whole : SemS := (sRet (eAnd (eIsi isInt (eVar 0)) (eAnd (eNot (eIsi isBool (eVar 0))) (eChn gLe gLt (eK (.int 0)) (eVar 0) (eVar 1)))))
noncomputable def m__law_whole : FSem := runFn 2 b__law_whole
noncomputable def y1__law_triples : SemS := (sSeq (sIf (tOr (tNot (tb (eIsi isTuple (eVar 3)))) (tOr (tb (eOp2 (gEq not) (eFn gLen (aCons (eVar 3) aNil)) (eK (.int 3)))) (tNot (tb (eCall 2 m__law_whole (aCons (eOp2 gIx (eVar 3) (eK (.int 2))) (aCons (eVar 2) aNil))))))) (sRet (eK (.bool false))) sNil) (sIf (tOr (tNot (tb (eCall 2 m__law_whole (aCons (eOp2 gIx (eVar 3) (eK (.int 0))) (aCons (eVar 1) aNil))))) (tNot (tb (eCall 2 m__law_whole (aCons (eOp2 gIx (eVar 3) (eK (.int 1))) (aCons (eVar 1) aNil)))))) (sRet (eK (.bool false))) sNil))
noncomputable def l1__law_triples : SemS := (sFor (iOf (eVar 0)) (gN 3) y1__law_triples)
noncomputable def x1__law_triples : SemE := (eComp (iOf (eVar 0)) (gN 3) tTrue (eSl (eVar 3) pNo (pSo (eK (.int 2)))) [3])
noncomputable def b__law_triples : SemS := (sSeq (sIf (tNot (tb (eIsi isTuple (eVar 0)))) (sRet (eK (.bool false))) sNil) (sSeq l1__law_triples (sRet (eOp2 (gEq id) (eLenSet x1__law_triples) (eFn gLen (aCons (eVar 0) aNil))))))
noncomputable def m__law_triples : FSem := runFn 4 b__law_triples
noncomputable def x1__law_is_book : SemE := (eComp (iOf (eVar 2)) (gN 3) (tOr (tNot (tb (eCall 3 m__law_triples (aCons (eVar 3) (aCons (eVar 1) (aCons (eFn gLen (aCons (eVar 2) aNil)) aNil)))))) (tb (eOp2 (gEq not) (eFn gLen (aCons (eVar 3) aNil)) (eOp2 gMul (eVar 1) (eVar 1))))) (eVar 3) [3])
noncomputable def b__law_is_book : SemS := (sSeq (sIf (tOr (tNot (tb (eIsi isTuple (eVar 0)))) (tOr (tb (eOp2 (gEq not) (eFn gLen (aCons (eVar 0) aNil)) (eK (.int 2)))) (tOr (tNot (tb (eCall 2 m__law_whole (aCons (eOp2 gIx (eVar 0) (eK (.int 0))) (aCons (eK (.int 4)) aNil))))) (tb (eOp2 gLt (eOp2 gIx (eVar 0) (eK (.int 0))) (eK (.int 2))))))) (sRet (eK (.bool false))) sNil) (sSeq (sAsg (gT 2 (gsCons (gN 1) (gsCons (gN 2) gsNil))) (eVar 0)) (sSeq (sIf (tOr (tNot (tb (eIsi isTuple (eVar 2)))) (tb (eOp2 (gEq id) (eVar 2) (eTup aNil)))) (sRet (eK (.bool false))) sNil) (sRet (eOp2 (gEq id) x1__law_is_book (eLst aNil))))))
noncomputable def m__law_is_book : FSem := runFn 4 b__law_is_book
noncomputable def b__law_is_field : SemS := (sSeq (sIf (tOr (tNot (tb (eIsi isTuple (eVar 0)))) (tOr (tb (eOp2 (gEq not) (eFn gLen (aCons (eVar 0) aNil)) (eK (.int 2)))) (tNot (tb (eCall 1 m__law_is_book (aCons (eOp2 gIx (eVar 0) (eK (.int 0))) aNil)))))) (sRet (eK (.bool false))) sNil) (sRet (eAnd (eCall 3 m__law_triples (aCons (eOp2 gIx (eVar 0) (eK (.int 1))) (aCons (eOp2 gPow (eK (.int 10)) (eK (.int 9))) (aCons (eFn gLen (aCons (eOp2 gIx (eOp2 gIx (eVar 0) (eK (.int 0))) (eK (.int 1))) aNil)) aNil)))) (eOp2 (gEq not) (eOp2 gIx (eVar 0) (eK (.int 1))) (eTup aNil)))))
noncomputable def m__law_is_field : FSem := runFn 1 b__law_is_field
noncomputable def m__law_put : Nat → FSem
  | 0 => fun _ => .bad
  | fuel + 1 => runFn 6 (sSeq (sSet 3 (eLst (aCons (eK .none) (aCons (eK (.bool true)) (aCons (eK (.bool false)) (aCons (eNeg (eK (.int 1))) (aCons (eK (.int 0)) (aCons (eK (.int 1)) (aCons (eK (.int 2)) (aCons (eK (.int 3)) (aCons (eK (.int 9)) (aCons (eTup aNil) (aCons (eLst aNil) (aCons (eK (.str "0")) (aCons (eTup (aCons (eK (.int 0)) (aCons (eK (.int 0)) (aCons (eK (.int 0)) aNil)))) (aCons (eTup (aCons (eK (.int 0)) (aCons (eK (.int 0)) aNil))) aNil)))))))))))))))) (sSeq (sIf (tOr (tNot (tb (eIsi isTuple (eVar 1)))) (tOr (tb (eOp2 (gEq id) (eVar 1) (eTup aNil))) (tb (eOp2 (gEq id) (eVar 2) (eK (.int 0)))))) (sRet (eOp2 gIx (eVar 3) (eCall 2 m__law_pick (aCons (eVar 0) (aCons (eK (.int 14)) aNil))))) sNil) (sSeq (sPar [4, 5] (aCons (eCall 2 m__law_pick (aCons (eVar 0) (aCons (eFn gLen (aCons (eVar 1) aNil)) aNil))) (aCons (eCall 2 m__law_pick (aCons (eVar 0) (aCons (eK (.int 10)) aNil))) aNil))) (sSeq (sIf (tb (eOp2 (gEq id) (eVar 5) (eK (.int 0)))) (sRet (eOp2 gAdd (eSl (eVar 1) pNo (pSo (eVar 4))) (eSl (eVar 1) (pSo (eOp2 gAdd (eVar 4) (eK (.int 1)))) pNo))) sNil) (sSeq (sIf (tb (eOp2 (gEq id) (eVar 5) (eK (.int 1)))) (sRet (eOp2 gAdd (eOp2 gAdd (eSl (eVar 1) pNo (pSo (eVar 4))) (eTup (aCons (eOp2 gIx (eVar 1) (eVar 4)) aNil))) (eSl (eVar 1) (pSo (eVar 4)) pNo))) sNil) (sSeq (sIf (tb (eOp2 (gEq id) (eVar 5) (eK (.int 2)))) (sRet (eRev (eVar 1))) sNil) (sSeq (sIf (tb (eOp2 (gEq id) (eVar 5) (eK (.int 3)))) (sRet (eFn gList (aCons (eVar 1) aNil))) sNil) (sSeq (sIf (tb (eOp2 (gEq id) (eVar 5) (eK (.int 4)))) (sRet (eOp2 gAdd (eOp2 gAdd (eSl (eVar 1) pNo (pSo (eVar 4))) (eTup (aCons (eOp2 gIx (eVar 3) (eCall 2 m__law_pick (aCons (eVar 0) (aCons (eK (.int 14)) aNil)))) aNil))) (eSl (eVar 1) (pSo (eVar 4)) pNo))) sNil) (sRet (eOp2 gAdd (eOp2 gAdd (eSl (eVar 1) pNo (pSo (eVar 4))) (eTup (aCons (eCall 3 (m__law_put fuel) (aCons (eVar 0) (aCons (eOp2 gIx (eVar 1) (eVar 4)) (aCons (eOp2 gSub (eVar 2) (eK (.int 1))) aNil)))) aNil))) (eSl (eVar 1) (pSo (eOp2 gAdd (eVar 4) (eK (.int 1)))) pNo)))))))))))
noncomputable def y1_law : SemS := (sSeq (sSet 5 (eCall 3 (m__law_put 8) (aCons (eVar 2) (aCons (eVar 3) (aCons (eOp2 gAdd (eK (.int 1)) (eCall 2 m__law_pick (aCons (eVar 2) (aCons (eK (.int 5)) aNil)))) aNil))))) (sSeq (sSet 5 (eIf (tb (eOp2 gLt (eVar 4) (eK (.int 8)))) (eVar 5) (eCall 3 (m__law_put 8) (aCons (eVar 2) (aCons (eVar 5) (aCons (eK (.int 4)) aNil)))))) (sSeq (sPar [6, 7] (aCons (eCall 1 m__law_is_field (aCons (eVar 5) aNil)) (aCons (eFn gRepr (aCons (eVar 5) aNil)) aNil))) (sIf (tOr (tNot (tb (eCall 2 (m__law_alike 8) (aCons (eLst (aCons (eCall 1 m_is_field (aCons (eVar 5) aNil)) (aCons (eCallK 1 [0] m_is_field (aCons (eVar 5) aNil)) aNil))) (aCons (eLst (aCons (eVar 6) (aCons (eVar 6) aNil))) aNil))))) (tb (eOp2 (gEq not) (eFn gRepr (aCons (eVar 5) aNil)) (eVar 7)))) (sRet (eK (.bool false))) sNil))))
noncomputable def l1_law : SemS := (sFor (iR1 (aCons (eK (.int 12)) aNil)) (gN 4) y1_law)
noncomputable def x1_law : SemE := (eComp (iR1 (aCons (eVar 10) aNil)) (gN 19) tTrue (eTup (aCons (eVar 19) (aCons (eK (.int 0)) (aCons (eVar 9) aNil)))) [19])
noncomputable def y2_law : SemS := (sSeq (sAsg (gT 2 (gsCons (gN 17) (gsCons (gN 18) gsNil))) (eCall 4 m__law_cell_at (aCons (eVar 8) (aCons (eVar 9) (aCons (eVar 11) (aCons (eVar 16) aNil)))))) (sIf (tNot (tb (eCall 2 (m__law_alike 8) (aCons (eCall 3 m_field_cell (aCons (eVar 12) (aCons (eVar 11) (aCons (eOp2 gAdd (eOp2 gMul (eVar 15) (eVar 13)) (eVar 16)) aNil)))) (aCons (eTup (aCons (eOp2 gAdd (eOp2 gMul (eVar 15) (eVar 14)) (eVar 17)) (aCons (eVar 18) aNil))) aNil))))) (sRet (eK (.bool false))) sNil))
noncomputable def l2_law : SemS := (sFor (iOf (eLst (aCons (eK (.int 0)) (aCons (eOp2 gSub (eVar 13) (eK (.int 1))) aNil)))) (gN 16) y2_law)
noncomputable def y3_law : SemS := l2_law
noncomputable def l3_law : SemS := (sFor (iOf (eLst (aCons (eK (.int 0)) (aCons (eOp2 gSub (eVar 10) (eK (.int 1))) aNil)))) (gN 15) y3_law)
noncomputable def y4_law : SemS := (sSeq (sSet 2 (eCall 2 m__law_stock (aCons (eVar 0) (aCons (eVar 1) aNil)))) (sSeq (sSet 3 (eCall 3 m__law_field (aCons (eVar 2) (aCons (eK (.int 10)) (aCons (eK (.int 6)) aNil))))) (sSeq (sIf (tOr (tb (eOp2 (gIsB not) (eCall 1 m_is_field (aCons (eVar 3) aNil)) (eK (.bool true)))) (tb (eOp2 (gIsB not) (eCallK 1 [0] m_is_field (aCons (eVar 3) aNil)) (eK (.bool true))))) (sRet (eK (.bool false))) sNil) (sSeq l1_law (sSeq (sSet 3 (eCall 3 m__law_field (aCons (eVar 2) (aCons (eK (.int 12)) (aCons (eK (.int 8)) aNil))))) (sSeq (sIf (tb (eOp2 (gIsB not) (eCall 1 m_is_field (aCons (eVar 3) aNil)) (eK (.bool true)))) (sRet (eK (.bool false))) sNil) (sSeq (sPar [8, 9, 10] (aCons (eOp2 gIx (eVar 3) (eK (.int 0))) (aCons (eOp2 gIx (eOp2 gIx (eOp2 gIx (eVar 3) (eK (.int 1))) (eK (.int 0))) (eK (.int 2))) (aCons (eOp2 gAdd (eK (.int 1)) (eCall 2 m__law_pick (aCons (eVar 2) (aCons (eK (.int 12)) aNil)))) aNil)))) (sSeq (sPar [6, 11] (aCons (eTup (aCons (eVar 8) (aCons (eFn gTuple (aCons x1_law aNil)) aNil))) (aCons (eCall 2 m__law_pick (aCons (eVar 2) (aCons (eK (.int 61)) aNil))) aNil))) (sSeq (sSet 12 (eCall 3 m_row_field (aCons (eVar 8) (aCons (eVar 9) (aCons (eVar 10) aNil))))) (sSeq (sIf (tOr (tNot (tb (eCall 2 (m__law_alike 8) (aCons (eLst (aCons (eVar 12) (aCons (eCallK 3 [2, 1, 0] m_row_field (aCons (eVar 10) (aCons (eVar 9) (aCons (eVar 8) aNil)))) aNil))) (aCons (eLst (aCons (eVar 6) (aCons (eVar 6) aNil))) aNil))))) (tb (eOp2 (gIsB not) (eCall 1 m_is_field (aCons (eVar 12) aNil)) (eK (.bool true))))) (sRet (eK (.bool false))) sNil) (sSeq (sPar [13, 14] (aCons (eCall 2 m__law_power (aCons (eOp2 gMul (eOp2 gIx (eVar 8) (eK (.int 0))) (eOp2 gIx (eVar 8) (eK (.int 0)))) (aCons (eVar 11) aNil))) (aCons (eCall 2 m__law_power (aCons (eOp2 gIx (eVar 8) (eK (.int 0))) (aCons (eVar 11) aNil))) aNil))) l3_law)))))))))))
noncomputable def l4_law : SemS := (sFor (iR1 (aCons (eFn gMax2 (aCons (eK (.int 1)) (aCons (eFn gMin2 (aCons (eK (.int 5)) (aCons (eFn gLen (aCons (eVar 0) aNil)) aNil))) aNil))) aNil)) (gN 1) y4_law)
noncomputable def b_law : SemS := (sSeq l4_law (sRet (eK (.bool true))))
noncomputable def m_law : FSem := runFn 20 b_law
end Lw

set_option maxHeartbeats 4000000
namespace Lw
open PySem PySem.Spec PyProof.Rows L2 Ev Lz
theorem boot_len : bootBuiltins "len" = some (.builtin "len") := by decide +kernel
theorem boot_divmod : bootBuiltins "divmod" = some (.builtin "divmod") := by decide +kernel
theorem boot_all : bootBuiltins "all" = some (.builtin "all") := by decide +kernel
theorem boot_max : bootBuiltins "max" = some (.builtin "max") := by decide +kernel
theorem boot_min : bootBuiltins "min" = some (.builtin "min") := by decide +kernel
theorem boot_repr : bootBuiltins "repr" = some (.builtin "repr") := by decide +kernel
theorem boot_int : bootBuiltins "int" = some (.type "int") := by decide +kernel
theorem boot_tuple : bootBuiltins "tuple" = some (.type "tuple") := by decide +kernel
theorem boot_list : bootBuiltins "list" = some (.type "list") := by decide +kernel
theorem boot_bool : bootBuiltins "bool" = some (.type "bool") := by decide +kernel
theorem boot_str : bootBuiltins "str" = some (.type "str") := by decide +kernel
section
variable {P : Program} {w : World} {K : PySem.W.Frag} {h : Heap} {mg : Str → Option Value} {base : Heap}
abbrev N_is_whole : List Str := ["told"]
theorem sc_is_whole : FnScope N_is_whole ["told"] (defScope s_is_whole) := ⟨rfl, rfl, rfl, by decide +kernel, rfl, by decide +kernel, by decide +kernel⟩
theorem ok_is_whole (X0 : K.In h) (G : h.Ns mainGlobals mg) (c : He.SaysD fa fn K) : ∃ fd, FunD K "is_whole" "is_whole" (defArgs s_is_whole) (defBody s_is_whole) (defScope s_is_whole) [] [] (He.ga K "is_whole") fd ∧ FnOk P w K mg base (L2N.CX P w) 1 (He.ga K "is_whole") fd ["told"] (spF K 1 m_is_whole) := by
  have f_bool : mg "bool" = none := He.free_ok X0 G (c.fact 40 rfl)
  have f_int : mg "int" = none := He.free_ok X0 G (c.fact 42 rfl)
  have f_isinstance : mg "isinstance" = none := He.free_ok X0 G (c.fact 43 rfl)
  obtain ⟨fd, F⟩ := c.def_ 0 (d := d_is_whole) rfl
  refine ⟨fd, F, fn_ok (k := 0) F sc_is_whole fun cdv A outer s H E hr B => ?_⟩
  have hp : PassesOwn (model P w) _ _ _ := passes_of (X := cxOf (L2N.CX P w) P w K mg base N_is_whole "is_whole" (defScope s_is_whole) (He.ga K "is_whole") cdv A outer s H E) (K := fun e s'' => L2N.CX P w outer H s E e s'') rfl
  have tk := L2N.takes_of (X := cxOf (L2N.CX P w) P w K mg base N_is_whole "is_whole" (defScope s_is_whole) (He.ga K "is_whole") cdv A outer s H E) (E := E) rfl rfl rfl rfl
  have nd := sc_is_whole.nd
  exact (qone (qret (qand (qisi k_int rfl f_isinstance rfl f_int boot_int (qvar (i := 0) rfl (.inl rfl))) (qone_ (qnot (qisi k_bool rfl f_isinstance rfl f_bool boot_bool (qvar (i := 0) rfl (.inl rfl))))))))
abbrev N_is_count : List Str := ["told"]
theorem sc_is_count : FnScope N_is_count ["told"] (defScope s_is_count) := ⟨rfl, rfl, rfl, by decide +kernel, rfl, by decide +kernel, by decide +kernel⟩
theorem ok_is_count (X0 : K.In h) (G : h.Ns mainGlobals mg) (c : He.SaysD fa fn K) : ∃ fd, FunD K "is_count" "is_count" (defArgs s_is_count) (defBody s_is_count) (defScope s_is_count) [] [] (He.ga K "is_count") fd ∧ FnOk P w K mg base (L2N.CX P w) 2 (He.ga K "is_count") fd ["told"] (spF K 1 m_is_count) := by
  obtain ⟨fd_is_whole, F_is_whole, O_is_whole⟩ := ok_is_whole (P := P) (w := w) (base := base) X0 G c
  have b_is_whole : Binds K fd_is_whole ["told"] [] := F_is_whole.bindsN fun _ _ _ _ _ _ us hl => match us, hl with | [_], _ => rfl
  have g_is_whole : mg "is_whole" = some (.ref (He.ga K "is_whole")) := He.glo_ok X0 G (c.fact 0 rfl)
  obtain ⟨fd, F⟩ := c.def_ 1 (d := d_is_count) rfl
  refine ⟨fd, F, fn_ok (k := 1) F sc_is_count fun cdv A outer s H E hr B => ?_⟩
  have hp : PassesOwn (model P w) _ _ _ := passes_of (X := cxOf (L2N.CX P w) P w K mg base N_is_count "is_count" (defScope s_is_count) (He.ga K "is_count") cdv A outer s H E) (K := fun e s'' => L2N.CX P w outer H s E e s'') rfl
  have tk := L2N.takes_of (X := cxOf (L2N.CX P w) P w K mg base N_is_count "is_count" (defScope s_is_count) (He.ga K "is_count") cdv A outer s H E) (E := E) rfl rfl rfl rfl
  have nd := sc_is_count.nd
  exact (qone (qret (qand (qcall O_is_whole (hr.mono (by decide)) rfl g_is_whole F_is_whole.kp b_is_whole (fun σ => L2N.passAt tk σ) (qa_cons (qvar (i := 0) rfl (.inl rfl)) qa_nil)) (qone_ (qcmp op_ge does_ge (qvar (i := 0) rfl (.inl rfl)) qint)))))
abbrev N_is_index : List Str := ["told", "many"]
theorem sc_is_index : FnScope N_is_index ["told", "many"] (defScope s_is_index) := ⟨rfl, rfl, rfl, by decide +kernel, rfl, by decide +kernel, by decide +kernel⟩
theorem ok_is_index (X0 : K.In h) (G : h.Ns mainGlobals mg) (c : He.SaysD fa fn K) : ∃ fd, FunD K "is_index" "is_index" (defArgs s_is_index) (defBody s_is_index) (defScope s_is_index) [] [] (He.ga K "is_index") fd ∧ FnOk P w K mg base (L2N.CX P w) 3 (He.ga K "is_index") fd ["told", "many"] (spF K 2 m_is_index) := by
  obtain ⟨fd_is_count, F_is_count, O_is_count⟩ := ok_is_count (P := P) (w := w) (base := base) X0 G c
  have b_is_count : Binds K fd_is_count ["told"] [] := F_is_count.bindsN fun _ _ _ _ _ _ us hl => match us, hl with | [_], _ => rfl
  have g_is_count : mg "is_count" = some (.ref (He.ga K "is_count")) := He.glo_ok X0 G (c.fact 1 rfl)
  obtain ⟨fd, F⟩ := c.def_ 2 (d := d_is_index) rfl
  refine ⟨fd, F, fn_ok (k := 2) F sc_is_index fun cdv A outer s H E hr B => ?_⟩
  have hp : PassesOwn (model P w) _ _ _ := passes_of (X := cxOf (L2N.CX P w) P w K mg base N_is_index "is_index" (defScope s_is_index) (He.ga K "is_index") cdv A outer s H E) (K := fun e s'' => L2N.CX P w outer H s E e s'') rfl
  have tk := L2N.takes_of (X := cxOf (L2N.CX P w) P w K mg base N_is_index "is_index" (defScope s_is_index) (He.ga K "is_index") cdv A outer s H E) (E := E) rfl rfl rfl rfl
  have nd := sc_is_index.nd
  exact (qone (qret (qand (qcall O_is_count (hr.mono (by decide)) rfl g_is_count F_is_count.kp b_is_count (fun σ => L2N.passAt tk σ) (qa_cons (qvar (i := 0) rfl (.inl rfl)) qa_nil)) (qone_ (qcmp op_lt does_lt (qvar (i := 0) rfl (.inl rfl)) (qvar (i := 1) rfl (.inl rfl)))))))
abbrev N_power : List Str := ["base", "times", "result", "_"]
theorem sc_power : FnScope N_power ["base", "times"] (defScope s_power) := ⟨rfl, rfl, rfl, by decide +kernel, rfl, by decide +kernel, by decide +kernel⟩
theorem ok_power (X0 : K.In h) (G : h.Ns mainGlobals mg) (c : He.SaysD fa fn K) : ∃ fd, FunD K "power" "power" (defArgs s_power) (defBody s_power) (defScope s_power) [] [] (He.ga K "power") fd ∧ FnOk P w K mg base (L2N.CX P w) 1 (He.ga K "power") fd ["base", "times"] (spF K 2 m_power) := by
  have f_range : mg "range" = none := He.free_ok X0 G (c.fact 48 rfl)
  obtain ⟨fd, F⟩ := c.def_ 3 (d := d_power) rfl
  refine ⟨fd, F, fn_ok (k := 0) F sc_power fun cdv A outer s H E hr B => ?_⟩
  have hp : PassesOwn (model P w) _ _ _ := passes_of (X := cxOf (L2N.CX P w) P w K mg base N_power "power" (defScope s_power) (He.ga K "power") cdv A outer s H E) (K := fun e s'' => L2N.CX P w outer H s E e s'') rfl
  have tk := L2N.takes_of (X := cxOf (L2N.CX P w) P w K mg base N_power "power" (defScope s_power) (He.ga K "power") cdv A outer s H E) (E := E) rfl rfl rfl rfl
  have nd := sc_power.nd
  exact (qcons (qset (i := 2) nd rfl (.inl rfl) qint) (qcons (qfor (ws := [3]) hp rfl (qir1 rfl f_range (qa_cons (qvar (i := 1) rfl (.inl rfl)) qa_nil)) (fun B => (qgn (i := 3) nd rfl (.inl rfl) (by decide))) (fun B => (qone (qset (i := 2) nd rfl (.inl rfl) (qop op_mulW does_mul (qvar (i := 2) rfl (.inl rfl)) (qvar (i := 0) rfl (.inl rfl))))))) (qone (qret (qvar (i := 2) rfl (.inl rfl))))))
abbrev N_digits_of : List Str := ["number", "base", "many", "digits", "_", "digit"]
theorem sc_digits_of : FnScope N_digits_of ["number", "base", "many"] (defScope s_digits_of) := ⟨rfl, rfl, rfl, by decide +kernel, rfl, by decide +kernel, by decide +kernel⟩
theorem ok_digits_of (X0 : K.In h) (G : h.Ns mainGlobals mg) (c : He.SaysD fa fn K) : ∃ fd, FunD K "digits_of" "digits_of" (defArgs s_digits_of) (defBody s_digits_of) (defScope s_digits_of) [] [] (He.ga K "digits_of") fd ∧ FnOk P w K mg base (L2N.CX P w) 1 (He.ga K "digits_of") fd ["number", "base", "many"] (spF K 3 m_digits_of) := by
  have f_divmod : mg "divmod" = none := He.free_ok X0 G (c.fact 41 rfl)
  have f_range : mg "range" = none := He.free_ok X0 G (c.fact 48 rfl)
  obtain ⟨fd, F⟩ := c.def_ 4 (d := d_digits_of) rfl
  refine ⟨fd, F, fn_ok (k := 0) F sc_digits_of fun cdv A outer s H E hr B => ?_⟩
  have hp : PassesOwn (model P w) _ _ _ := passes_of (X := cxOf (L2N.CX P w) P w K mg base N_digits_of "digits_of" (defScope s_digits_of) (He.ga K "digits_of") cdv A outer s H E) (K := fun e s'' => L2N.CX P w outer H s E e s'') rfl
  have tk := L2N.takes_of (X := cxOf (L2N.CX P w) P w K mg base N_digits_of "digits_of" (defScope s_digits_of) (He.ga K "digits_of") cdv A outer s H E) (E := E) rfl rfl rfl rfl
  have nd := sc_digits_of.nd
  exact (qcons (qset (i := 3) nd rfl (.inl rfl) (qlst qa_nil)) (qcons (qfor (ws := [4]) hp rfl (qir1 rfl f_range (qa_cons (qvar (i := 2) rfl (.inl rfl)) qa_nil)) (fun B => (qgn (i := 4) nd rfl (.inl rfl) (by decide))) (fun B => (qcons (qasg (ws := [0, 5]) (qfnB call_divmod does_divmod rfl f_divmod boot_divmod (qa_cons (qvar (i := 0) rfl (.inl rfl)) (qa_cons (qvar (i := 1) rfl (.inl rfl)) qa_nil))) (qgt rfl (qgscons (qgn (i := 0) nd rfl (.inl rfl) (by decide)) (qgscons (qgn (i := 5) nd rfl (.inl rfl) (by decide)) qgsnil)))) (qone (qexpr (qmeth (i := 3) PySem.F.slot_list_append PySem.F.type_list_append mt_append does_append rfl (.inl rfl) (qa_cons (qvar (i := 5) rfl (.inl rfl)) qa_nil))))))) (qone (qret (qrev (qvar (i := 3) rfl (.inl rfl)))))))
abbrev N__is_part : List Str := ["b", "many", "told", "x", "y", "kind"]
theorem sc__is_part : FnScope N__is_part ["b", "many", "told"] (defScope s__is_part) := ⟨rfl, rfl, rfl, by decide +kernel, rfl, by decide +kernel, by decide +kernel⟩
theorem ok__is_part (X0 : K.In h) (G : h.Ns mainGlobals mg) (c : He.SaysD fa fn K) : ∃ fd, FunD K "_is_part" "_is_part" (defArgs s__is_part) (defBody s__is_part) (defScope s__is_part) [] [] (He.ga K "_is_part") fd ∧ FnOk P w K mg base (L2N.CX P w) 4 (He.ga K "_is_part") fd ["b", "many", "told"] (spF K 3 m__is_part) := by
  obtain ⟨fd_is_index, F_is_index, O_is_index⟩ := ok_is_index (P := P) (w := w) (base := base) X0 G c
  have b_is_index : Binds K fd_is_index ["told", "many"] [] := F_is_index.bindsN fun _ _ _ _ _ _ us hl => match us, hl with | [_, _], _ => rfl
  have g_is_index : mg "is_index" = some (.ref (He.ga K "is_index")) := He.glo_ok X0 G (c.fact 2 rfl)
  have f_isinstance : mg "isinstance" = none := He.free_ok X0 G (c.fact 43 rfl)
  have f_len : mg "len" = none := He.free_ok X0 G (c.fact 44 rfl)
  have f_tuple : mg "tuple" = none := He.free_ok X0 G (c.fact 52 rfl)
  obtain ⟨fd, F⟩ := c.def_ 7 (d := d__is_part) rfl
  refine ⟨fd, F, fn_ok (k := 3) F sc__is_part fun cdv A outer s H E hr B => ?_⟩
  have hp : PassesOwn (model P w) _ _ _ := passes_of (X := cxOf (L2N.CX P w) P w K mg base N__is_part "_is_part" (defScope s__is_part) (He.ga K "_is_part") cdv A outer s H E) (K := fun e s'' => L2N.CX P w outer H s E e s'') rfl
  have tk := L2N.takes_of (X := cxOf (L2N.CX P w) P w K mg base N__is_part "_is_part" (defScope s__is_part) (He.ga K "_is_part") cdv A outer s H E) (E := E) rfl rfl rfl rfl
  have nd := sc__is_part.nd
  exact (qcons (qif (QW.t (qw_or (qtnot (qtval (qisi k_tuple rfl f_isinstance rfl f_tuple boot_tuple (qvar (i := 2) rfl (.inl rfl))))) (qw_or1 (qtcmp (op_neD hr.units) does_ne (qfnB call_len_seq does_len rfl f_len boot_len (qa_cons (qvar (i := 2) rfl (.inl rfl)) qa_nil)) qint)))) (qone (qret qbl)) qnil) (qcons (qasg (ws := [3, 4, 5]) (qvar (i := 2) rfl (.inl rfl)) (qgt rfl (qgscons (qgn (i := 3) nd rfl (.inl rfl) (by decide)) (qgscons (qgn (i := 4) nd rfl (.inl rfl) (by decide)) (qgscons (qgn (i := 5) nd rfl (.inl rfl) (by decide)) qgsnil))))) (qone (qret (qand (qcall O_is_index (hr.mono (by decide)) rfl g_is_index F_is_index.kp b_is_index (fun σ => L2N.passAt tk σ) (qa_cons (qvar (i := 3) rfl (.inl rfl)) (qa_cons (qvar (i := 0) rfl (.inl rfl)) qa_nil))) (qand (qcall O_is_index (hr.mono (by decide)) rfl g_is_index F_is_index.kp b_is_index (fun σ => L2N.passAt tk σ) (qa_cons (qvar (i := 4) rfl (.inl rfl)) (qa_cons (qvar (i := 0) rfl (.inl rfl)) qa_nil))) (qone_ (qcall O_is_index (hr.mono (by decide)) rfl g_is_index F_is_index.kp b_is_index (fun σ => L2N.passAt tk σ) (qa_cons (qvar (i := 5) rfl (.inl rfl)) (qa_cons (qvar (i := 1) rfl (.inl rfl)) qa_nil))))))))))
abbrev N_places_of : List Str := ["parts", "part"]
theorem sc_places_of : FnScope N_places_of ["parts"] (defScope s_places_of) := ⟨rfl, rfl, rfl, by decide +kernel, rfl, by decide +kernel, by decide +kernel⟩
theorem ok_places_of (X0 : K.In h) (G : h.Ns mainGlobals mg) (c : He.SaysD fa fn K) : ∃ fd, FunD K "places_of" "places_of" (defArgs s_places_of) (defBody s_places_of) (defScope s_places_of) [] [] (He.ga K "places_of") fd ∧ FnOk P w K mg base (L2N.CX P w) 1 (He.ga K "places_of") fd ["parts"] (spF K 1 m_places_of) := by
  obtain ⟨fd, F⟩ := c.def_ 8 (d := d_places_of) rfl
  refine ⟨fd, F, fn_ok (k := 0) F sc_places_of fun cdv A outer s H E hr B => ?_⟩
  have hp : PassesOwn (model P w) _ _ _ := passes_of (X := cxOf (L2N.CX P w) P w K mg base N_places_of "places_of" (defScope s_places_of) (He.ga K "places_of") cdv A outer s H E) (K := fun e s'' => L2N.CX P w outer H s E e s'') rfl
  have tk := L2N.takes_of (X := cxOf (L2N.CX P w) P w K mg base N_places_of "places_of" (defScope s_places_of) (He.ga K "places_of") cdv A outer s H E) (E := E) rfl rfl rfl rfl
  have nd := sc_places_of.nd
  exact (qone (qret (qcomp (vs := [1]) rfl nd (qiof (qvar (i := 0) rfl (.inl rfl))) (blkOk_by (own := [("part", 1)]) (N := N_places_of) (sc := defScope s_places_of) (by decide +kernel)) (gok_n (by decide)) rfl (fun _ _ _ _ _ B => (qgn (i := 1) nd rfl (.inl rfl) (by decide))) (fun _ _ _ _ _ => qtsnil) (fun _ _ _ _ _ => (qtup (qa_cons (qix (qvar (i := 1) rfl (.inl rfl)) qint) (qa_cons (qix (qvar (i := 1) rfl (.inl rfl)) qint) qa_nil)))))))
abbrev N__is_kind : List Str := ["b", "many", "told", "part"]
theorem sc__is_kind : FnScope N__is_kind ["b", "many", "told"] (defScope s__is_kind) := ⟨rfl, rfl, rfl, by decide +kernel, rfl, by decide +kernel, by decide +kernel⟩
theorem ok__is_kind (X0 : K.In h) (G : h.Ns mainGlobals mg) (c : He.SaysD fa fn K) : ∃ fd, FunD K "_is_kind" "_is_kind" (defArgs s__is_kind) (defBody s__is_kind) (defScope s__is_kind) [] [] (He.ga K "_is_kind") fd ∧ FnOk P w K mg base (L2N.CX P w) 5 (He.ga K "_is_kind") fd ["b", "many", "told"] (spF K 3 m__is_kind) := by
  obtain ⟨fd__is_part, F__is_part, O__is_part⟩ := ok__is_part (P := P) (w := w) (base := base) X0 G c
  have b__is_part : Binds K fd__is_part ["b", "many", "told"] [] := F__is_part.bindsN fun _ _ _ _ _ _ us hl => match us, hl with | [_, _, _], _ => rfl
  have g__is_part : mg "_is_part" = some (.ref (He.ga K "_is_part")) := He.glo_ok X0 G (c.fact 7 rfl)
  obtain ⟨fd_places_of, F_places_of, O_places_of⟩ := ok_places_of (P := P) (w := w) (base := base) X0 G c
  have b_places_of : Binds K fd_places_of ["parts"] [] := F_places_of.bindsN fun _ _ _ _ _ _ us hl => match us, hl with | [_], _ => rfl
  have g_places_of : mg "places_of" = some (.ref (He.ga K "places_of")) := He.glo_ok X0 G (c.fact 8 rfl)
  have f_all : mg "all" = none := He.free_ok X0 G (c.fact 39 rfl)
  have f_isinstance : mg "isinstance" = none := He.free_ok X0 G (c.fact 43 rfl)
  have f_len : mg "len" = none := He.free_ok X0 G (c.fact 44 rfl)
  have f_set : mg "set" = none := He.free_ok X0 G (c.fact 50 rfl)
  have f_tuple : mg "tuple" = none := He.free_ok X0 G (c.fact 52 rfl)
  obtain ⟨fd, F⟩ := c.def_ 6 (d := d__is_kind) rfl
  refine ⟨fd, F, fn_ok (k := 4) F sc__is_kind fun cdv A outer s H E hr B => ?_⟩
  have hp : PassesOwn (model P w) _ _ _ := passes_of (X := cxOf (L2N.CX P w) P w K mg base N__is_kind "_is_kind" (defScope s__is_kind) (He.ga K "_is_kind") cdv A outer s H E) (K := fun e s'' => L2N.CX P w outer H s E e s'') rfl
  have tk := L2N.takes_of (X := cxOf (L2N.CX P w) P w K mg base N__is_kind "_is_kind" (defScope s__is_kind) (He.ga K "_is_kind") cdv A outer s H E) (E := E) rfl rfl rfl rfl
  have nd := sc__is_kind.nd
  exact (qcons (qif (QW.t (qw_or (qtnot (qtval (qisi k_tuple rfl f_isinstance rfl f_tuple boot_tuple (qvar (i := 2) rfl (.inl rfl))))) (qw_or1 (qtcmp (op_neD hr.units) does_ne (qfnB call_len_seq does_len rfl f_len boot_len (qa_cons (qvar (i := 2) rfl (.inl rfl)) qa_nil)) (qop op_mulW does_mul (qvar (i := 0) rfl (.inr (.inl rfl))) (qvar (i := 0) rfl (.inr (.inl rfl)))))))) (qone (qret qbl)) qnil) (qcons (qif (qtnot (qtval (qfnB (cr_all rfl) does_all rfl f_all boot_all (qa_cons (qcomp (vs := [3]) rfl nd (qiof (qvar (i := 2) rfl (.inl rfl))) (blkOk_by (own := [("part", 3)]) (N := N__is_kind) (sc := defScope s__is_kind) (by decide +kernel)) (gok_n (by decide)) rfl (fun _ _ _ _ _ B => (qgn (i := 3) nd rfl (.inl rfl) (by decide))) (fun _ _ _ _ _ => qtsnil) (fun _ _ _ _ _ => (qcall O__is_part (hr.mono (by decide)) rfl g__is_part F__is_part.kp b__is_part (fun σ => L2N.passAt takesN0 σ) (qa_cons (qvar (i := 0) rfl (.inr (.inl rfl))) (qa_cons (qvar (i := 1) rfl (.inr (.inl rfl))) (qa_cons (qvar (i := 3) rfl (.inl rfl)) qa_nil)))))) qa_nil)))) (qone (qret qbl)) qnil) (qone (qret (qcmp (op_eqD hr.units) does_eq (qlenset rfl hr.units rfl f_len rfl f_set (qcall O_places_of (hr.mono (by decide)) rfl g_places_of F_places_of.kp b_places_of (fun σ => L2N.passAt tk σ) (qa_cons (qvar (i := 2) rfl (.inl rfl)) qa_nil))) (qop op_mulW does_mul (qvar (i := 0) rfl (.inr (.inl rfl))) (qvar (i := 0) rfl (.inr (.inl rfl)))))))))
abbrev N_is_book : List Str := ["told", "b", "kinds", "kind"]
theorem sc_is_book : FnScope N_is_book ["told"] (defScope s_is_book) := ⟨rfl, rfl, rfl, by decide +kernel, rfl, by decide +kernel, by decide +kernel⟩
theorem ok_is_book (X0 : K.In h) (G : h.Ns mainGlobals mg) (c : He.SaysD fa fn K) : ∃ fd, FunD K "is_book" "is_book" (defArgs s_is_book) (defBody s_is_book) (defScope s_is_book) [] [] (He.ga K "is_book") fd ∧ FnOk P w K mg base (L2N.CX P w) 6 (He.ga K "is_book") fd ["told"] (spF K 1 m_is_book) := by
  obtain ⟨fd_is_whole, F_is_whole, O_is_whole⟩ := ok_is_whole (P := P) (w := w) (base := base) X0 G c
  have b_is_whole : Binds K fd_is_whole ["told"] [] := F_is_whole.bindsN fun _ _ _ _ _ _ us hl => match us, hl with | [_], _ => rfl
  have g_is_whole : mg "is_whole" = some (.ref (He.ga K "is_whole")) := He.glo_ok X0 G (c.fact 0 rfl)
  obtain ⟨fd__is_kind, F__is_kind, O__is_kind⟩ := ok__is_kind (P := P) (w := w) (base := base) X0 G c
  have b__is_kind : Binds K fd__is_kind ["b", "many", "told"] [] := F__is_kind.bindsN fun _ _ _ _ _ _ us hl => match us, hl with | [_, _, _], _ => rfl
  have g__is_kind : mg "_is_kind" = some (.ref (He.ga K "_is_kind")) := He.glo_ok X0 G (c.fact 6 rfl)
  have f_all : mg "all" = none := He.free_ok X0 G (c.fact 39 rfl)
  have f_isinstance : mg "isinstance" = none := He.free_ok X0 G (c.fact 43 rfl)
  have f_len : mg "len" = none := He.free_ok X0 G (c.fact 44 rfl)
  have f_tuple : mg "tuple" = none := He.free_ok X0 G (c.fact 52 rfl)
  obtain ⟨fd, F⟩ := c.def_ 5 (d := d_is_book) rfl
  refine ⟨fd, F, fn_ok (k := 5) F sc_is_book fun cdv A outer s H E hr B => ?_⟩
  have hp : PassesOwn (model P w) _ _ _ := passes_of (X := cxOf (L2N.CX P w) P w K mg base N_is_book "is_book" (defScope s_is_book) (He.ga K "is_book") cdv A outer s H E) (K := fun e s'' => L2N.CX P w outer H s E e s'') rfl
  have tk := L2N.takes_of (X := cxOf (L2N.CX P w) P w K mg base N_is_book "is_book" (defScope s_is_book) (He.ga K "is_book") cdv A outer s H E) (E := E) rfl rfl rfl rfl
  have nd := sc_is_book.nd
  exact (qcons (qif (QW.t (qw_or (qtnot (qtval (qisi k_tuple rfl f_isinstance rfl f_tuple boot_tuple (qvar (i := 0) rfl (.inl rfl))))) (qw_or1 (qtcmp (op_neD hr.units) does_ne (qfnB call_len_seq does_len rfl f_len boot_len (qa_cons (qvar (i := 0) rfl (.inl rfl)) qa_nil)) qint)))) (qone (qret qbl)) qnil) (qcons (qasg (ws := [1, 2]) (qvar (i := 0) rfl (.inl rfl)) (qgt rfl (qgscons (qgn (i := 1) nd rfl (.inr rfl) (by decide)) (qgscons (qgn (i := 2) nd rfl (.inr rfl) (by decide)) qgsnil)))) (qcons (qif (QW.t (qw_or (qtnot (qtval (qcall O_is_whole (hr.mono (by decide)) rfl g_is_whole F_is_whole.kp b_is_whole (fun σ => L2N.passAt tk σ) (qa_cons (qvar (i := 1) rfl (.inr (.inl rfl))) qa_nil)))) (qw_or1 (qtcmp (op_notIn2 (room65 hr)) does_notIn (qvar (i := 1) rfl (.inr (.inl rfl))) (qtup (qa_cons qint (qa_cons qint qa_nil))))))) (qone (qret qbl)) qnil) (qcons (qif (QW.t (qw_or (qtnot (qtval (qisi k_tuple rfl f_isinstance rfl f_tuple boot_tuple (qvar (i := 2) rfl (.inr (.inl rfl)))))) (qw_or1 (qtcmp (op_eqD hr.units) does_eq (qfnB call_len_seq does_len rfl f_len boot_len (qa_cons (qvar (i := 2) rfl (.inr (.inl rfl))) qa_nil)) qint)))) (qone (qret qbl)) qnil) (qone (qret (qfnB (cr_all rfl) does_all rfl f_all boot_all (qa_cons (qcomp (vs := [3]) rfl nd (qiof (qvar (i := 2) rfl (.inr (.inl rfl)))) (blkOk_by (own := [("kind", 3)]) (N := N_is_book) (sc := defScope s_is_book) (by decide +kernel)) (gok_n (by decide)) rfl (fun _ _ _ _ _ B => (qgn (i := 3) nd rfl (.inl rfl) (by decide))) (fun _ _ _ _ _ => qtsnil) (fun _ _ _ _ _ => (qcall O__is_kind (hr.mono (by decide)) rfl g__is_kind F__is_kind.kp b__is_kind (fun σ => L2N.passAt takesN0 σ) (qa_cons (qvar (i := 1) rfl (.inr (.inl rfl))) (qa_cons (qfnB call_len_seq does_len rfl f_len boot_len (qa_cons (qvar (i := 2) rfl (.inr (.inl rfl))) qa_nil)) (qa_cons (qvar (i := 3) rfl (.inl rfl)) qa_nil)))))) qa_nil))))))))
abbrev N_check_book : List Str := ["book"]
theorem sc_check_book : FnScope N_check_book ["book"] (defScope s_check_book) := ⟨rfl, rfl, rfl, by decide +kernel, rfl, by decide +kernel, by decide +kernel⟩
theorem ok_check_book (X0 : K.In h) (G : h.Ns mainGlobals mg) (c : He.SaysD fa fn K) : ∃ fd, FunD K "check_book" "check_book" (defArgs s_check_book) (defBody s_check_book) (defScope s_check_book) [] [] (He.ga K "check_book") fd ∧ FnOk P w K mg base (L2N.CX P w) 7 (He.ga K "check_book") fd ["book"] (spF K 1 m_check_book) := by
  obtain ⟨fd_is_book, F_is_book, O_is_book⟩ := ok_is_book (P := P) (w := w) (base := base) X0 G c
  have b_is_book : Binds K fd_is_book ["told"] [] := F_is_book.bindsN fun _ _ _ _ _ _ us hl => match us, hl with | [_], _ => rfl
  have g_is_book : mg "is_book" = some (.ref (He.ga K "is_book")) := He.glo_ok X0 G (c.fact 5 rfl)
  obtain ⟨fd, F⟩ := c.def_ 9 (d := d_check_book) rfl
  refine ⟨fd, F, fn_ok (k := 6) F sc_check_book fun cdv A outer s H E hr B => ?_⟩
  have hp : PassesOwn (model P w) _ _ _ := passes_of (X := cxOf (L2N.CX P w) P w K mg base N_check_book "check_book" (defScope s_check_book) (He.ga K "check_book") cdv A outer s H E) (K := fun e s'' => L2N.CX P w outer H s E e s'') rfl
  have tk := L2N.takes_of (X := cxOf (L2N.CX P w) P w K mg base N_check_book "check_book" (defScope s_check_book) (He.ga K "check_book") cdv A outer s H E) (E := E) rfl rfl rfl rfl
  have nd := sc_check_book.nd
  exact (qone (qif (qtnot (qtval (qcall O_is_book (hr.mono (by decide)) rfl g_is_book F_is_book.kp b_is_book (fun σ => L2N.passAt tk σ) (qa_cons (qvar (i := 0) rfl (.inl rfl)) qa_nil)))) (qone qnever) qnil))
abbrev N_check_kind : List Str := ["book", "kind"]
theorem sc_check_kind : FnScope N_check_kind ["book", "kind"] (defScope s_check_kind) := ⟨rfl, rfl, rfl, by decide +kernel, rfl, by decide +kernel, by decide +kernel⟩
theorem ok_check_kind (X0 : K.In h) (G : h.Ns mainGlobals mg) (c : He.SaysD fa fn K) : ∃ fd, FunD K "check_kind" "check_kind" (defArgs s_check_kind) (defBody s_check_kind) (defScope s_check_kind) [] [] (He.ga K "check_kind") fd ∧ FnOk P w K mg base (L2N.CX P w) 4 (He.ga K "check_kind") fd ["book", "kind"] (spF K 2 m_check_kind) := by
  obtain ⟨fd_is_index, F_is_index, O_is_index⟩ := ok_is_index (P := P) (w := w) (base := base) X0 G c
  have b_is_index : Binds K fd_is_index ["told", "many"] [] := F_is_index.bindsN fun _ _ _ _ _ _ us hl => match us, hl with | [_, _], _ => rfl
  have g_is_index : mg "is_index" = some (.ref (He.ga K "is_index")) := He.glo_ok X0 G (c.fact 2 rfl)
  have f_len : mg "len" = none := He.free_ok X0 G (c.fact 44 rfl)
  obtain ⟨fd, F⟩ := c.def_ 10 (d := d_check_kind) rfl
  refine ⟨fd, F, fn_ok (k := 3) F sc_check_kind fun cdv A outer s H E hr B => ?_⟩
  have hp : PassesOwn (model P w) _ _ _ := passes_of (X := cxOf (L2N.CX P w) P w K mg base N_check_kind "check_kind" (defScope s_check_kind) (He.ga K "check_kind") cdv A outer s H E) (K := fun e s'' => L2N.CX P w outer H s E e s'') rfl
  have tk := L2N.takes_of (X := cxOf (L2N.CX P w) P w K mg base N_check_kind "check_kind" (defScope s_check_kind) (He.ga K "check_kind") cdv A outer s H E) (E := E) rfl rfl rfl rfl
  have nd := sc_check_kind.nd
  exact (qone (qif (qtnot (qtval (qcall O_is_index (hr.mono (by decide)) rfl g_is_index F_is_index.kp b_is_index (fun σ => L2N.passAt tk σ) (qa_cons (qvar (i := 1) rfl (.inl rfl)) (qa_cons (qfnB call_len_seq does_len rfl f_len boot_len (qa_cons (qix (qvar (i := 0) rfl (.inl rfl)) qint) qa_nil)) qa_nil))))) (qone qnever) qnil))
abbrev N_check_depth : List Str := ["d"]
theorem sc_check_depth : FnScope N_check_depth ["d"] (defScope s_check_depth) := ⟨rfl, rfl, rfl, by decide +kernel, rfl, by decide +kernel, by decide +kernel⟩
theorem ok_check_depth (X0 : K.In h) (G : h.Ns mainGlobals mg) (c : He.SaysD fa fn K) : ∃ fd, FunD K "check_depth" "check_depth" (defArgs s_check_depth) (defBody s_check_depth) (defScope s_check_depth) [] [] (He.ga K "check_depth") fd ∧ FnOk P w K mg base (L2N.CX P w) 3 (He.ga K "check_depth") fd ["d"] (spF K 1 m_check_depth) := by
  obtain ⟨fd_is_count, F_is_count, O_is_count⟩ := ok_is_count (P := P) (w := w) (base := base) X0 G c
  have b_is_count : Binds K fd_is_count ["told"] [] := F_is_count.bindsN fun _ _ _ _ _ _ us hl => match us, hl with | [_], _ => rfl
  have g_is_count : mg "is_count" = some (.ref (He.ga K "is_count")) := He.glo_ok X0 G (c.fact 1 rfl)
  obtain ⟨fd, F⟩ := c.def_ 11 (d := d_check_depth) rfl
  refine ⟨fd, F, fn_ok (k := 2) F sc_check_depth fun cdv A outer s H E hr B => ?_⟩
  have hp : PassesOwn (model P w) _ _ _ := passes_of (X := cxOf (L2N.CX P w) P w K mg base N_check_depth "check_depth" (defScope s_check_depth) (He.ga K "check_depth") cdv A outer s H E) (K := fun e s'' => L2N.CX P w outer H s E e s'') rfl
  have tk := L2N.takes_of (X := cxOf (L2N.CX P w) P w K mg base N_check_depth "check_depth" (defScope s_check_depth) (He.ga K "check_depth") cdv A outer s H E) (E := E) rfl rfl rfl rfl
  have nd := sc_check_depth.nd
  exact (qone (qif (qtnot (qtval (qcall O_is_count (hr.mono (by decide)) rfl g_is_count F_is_count.kp b_is_count (fun σ => L2N.passAt tk σ) (qa_cons (qvar (i := 0) rfl (.inl rfl)) qa_nil)))) (qone qnever) qnil))
abbrev N_check_from_one : List Str := ["number"]
theorem sc_check_from_one : FnScope N_check_from_one ["number"] (defScope s_check_from_one) := ⟨rfl, rfl, rfl, by decide +kernel, rfl, by decide +kernel, by decide +kernel⟩
theorem ok_check_from_one (X0 : K.In h) (G : h.Ns mainGlobals mg) (c : He.SaysD fa fn K) : ∃ fd, FunD K "check_from_one" "check_from_one" (defArgs s_check_from_one) (defBody s_check_from_one) (defScope s_check_from_one) [] [] (He.ga K "check_from_one") fd ∧ FnOk P w K mg base (L2N.CX P w) 3 (He.ga K "check_from_one") fd ["number"] (spF K 1 m_check_from_one) := by
  obtain ⟨fd_is_count, F_is_count, O_is_count⟩ := ok_is_count (P := P) (w := w) (base := base) X0 G c
  have b_is_count : Binds K fd_is_count ["told"] [] := F_is_count.bindsN fun _ _ _ _ _ _ us hl => match us, hl with | [_], _ => rfl
  have g_is_count : mg "is_count" = some (.ref (He.ga K "is_count")) := He.glo_ok X0 G (c.fact 1 rfl)
  obtain ⟨fd, F⟩ := c.def_ 12 (d := d_check_from_one) rfl
  refine ⟨fd, F, fn_ok (k := 2) F sc_check_from_one fun cdv A outer s H E hr B => ?_⟩
  have hp : PassesOwn (model P w) _ _ _ := passes_of (X := cxOf (L2N.CX P w) P w K mg base N_check_from_one "check_from_one" (defScope s_check_from_one) (He.ga K "check_from_one") cdv A outer s H E) (K := fun e s'' => L2N.CX P w outer H s E e s'') rfl
  have tk := L2N.takes_of (X := cxOf (L2N.CX P w) P w K mg base N_check_from_one "check_from_one" (defScope s_check_from_one) (He.ga K "check_from_one") cdv A outer s H E) (E := E) rfl rfl rfl rfl
  have nd := sc_check_from_one.nd
  exact (qone (qif (QW.t (qw_or (qtnot (qtval (qcall O_is_count (hr.mono (by decide)) rfl g_is_count F_is_count.kp b_is_count (fun σ => L2N.passAt tk σ) (qa_cons (qvar (i := 0) rfl (.inl rfl)) qa_nil)))) (qw_or1 (qtcmp (op_eqD hr.units) does_eq (qvar (i := 0) rfl (.inl rfl)) qint)))) (qone qnever) qnil))
abbrev N_how_many_cells : List Str := ["book", "d"]
theorem sc_how_many_cells : FnScope N_how_many_cells ["book", "d"] (defScope s_how_many_cells) := ⟨rfl, rfl, rfl, by decide +kernel, rfl, by decide +kernel, by decide +kernel⟩
theorem ok_how_many_cells (X0 : K.In h) (G : h.Ns mainGlobals mg) (c : He.SaysD fa fn K) : ∃ fd, FunD K "how_many_cells" "how_many_cells" (defArgs s_how_many_cells) (defBody s_how_many_cells) (defScope s_how_many_cells) [] [] (He.ga K "how_many_cells") fd ∧ FnOk P w K mg base (L2N.CX P w) 2 (He.ga K "how_many_cells") fd ["book", "d"] (spF K 2 m_how_many_cells) := by
  obtain ⟨fd_power, F_power, O_power⟩ := ok_power (P := P) (w := w) (base := base) X0 G c
  have b_power : Binds K fd_power ["base", "times"] [] := F_power.bindsN fun _ _ _ _ _ _ us hl => match us, hl with | [_, _], _ => rfl
  have g_power : mg "power" = some (.ref (He.ga K "power")) := He.glo_ok X0 G (c.fact 3 rfl)
  obtain ⟨fd, F⟩ := c.def_ 13 (d := d_how_many_cells) rfl
  refine ⟨fd, F, fn_ok (k := 1) F sc_how_many_cells fun cdv A outer s H E hr B => ?_⟩
  have hp : PassesOwn (model P w) _ _ _ := passes_of (X := cxOf (L2N.CX P w) P w K mg base N_how_many_cells "how_many_cells" (defScope s_how_many_cells) (He.ga K "how_many_cells") cdv A outer s H E) (K := fun e s'' => L2N.CX P w outer H s E e s'') rfl
  have tk := L2N.takes_of (X := cxOf (L2N.CX P w) P w K mg base N_how_many_cells "how_many_cells" (defScope s_how_many_cells) (He.ga K "how_many_cells") cdv A outer s H E) (E := E) rfl rfl rfl rfl
  have nd := sc_how_many_cells.nd
  exact (qone (qret (qcall O_power (hr.mono (by decide)) rfl g_power F_power.kp b_power (fun σ => L2N.passAt tk σ) (qa_cons (qop op_mulW does_mul (qix (qvar (i := 0) rfl (.inl rfl)) qint) (qix (qvar (i := 0) rfl (.inl rfl)) qint)) (qa_cons (qvar (i := 1) rfl (.inl rfl)) qa_nil)))))
abbrev N_cell_in_kind : List Str := ["book", "kind", "d", "number", "b", "kinds", "x", "y", "digit", "right", "up"]
theorem sc_cell_in_kind : FnScope N_cell_in_kind ["book", "kind", "d", "number"] (defScope s_cell_in_kind) := ⟨rfl, rfl, rfl, by decide +kernel, rfl, by decide +kernel, by decide +kernel⟩
theorem ok_cell_in_kind (X0 : K.In h) (G : h.Ns mainGlobals mg) (c : He.SaysD fa fn K) : ∃ fd, FunD K "cell_in_kind" "cell_in_kind" (defArgs s_cell_in_kind) (defBody s_cell_in_kind) (defScope s_cell_in_kind) [] [] (He.ga K "cell_in_kind") fd ∧ FnOk P w K mg base (L2N.CX P w) 2 (He.ga K "cell_in_kind") fd ["book", "kind", "d", "number"] (spF K 4 m_cell_in_kind) := by
  obtain ⟨fd_digits_of, F_digits_of, O_digits_of⟩ := ok_digits_of (P := P) (w := w) (base := base) X0 G c
  have b_digits_of : Binds K fd_digits_of ["number", "base", "many"] [] := F_digits_of.bindsN fun _ _ _ _ _ _ us hl => match us, hl with | [_, _, _], _ => rfl
  have g_digits_of : mg "digits_of" = some (.ref (He.ga K "digits_of")) := He.glo_ok X0 G (c.fact 4 rfl)
  obtain ⟨fd, F⟩ := c.def_ 14 (d := d_cell_in_kind) rfl
  refine ⟨fd, F, fn_ok (k := 1) F sc_cell_in_kind fun cdv A outer s H E hr B => ?_⟩
  have hp : PassesOwn (model P w) _ _ _ := passes_of (X := cxOf (L2N.CX P w) P w K mg base N_cell_in_kind "cell_in_kind" (defScope s_cell_in_kind) (He.ga K "cell_in_kind") cdv A outer s H E) (K := fun e s'' => L2N.CX P w outer H s E e s'') rfl
  have tk := L2N.takes_of (X := cxOf (L2N.CX P w) P w K mg base N_cell_in_kind "cell_in_kind" (defScope s_cell_in_kind) (He.ga K "cell_in_kind") cdv A outer s H E) (E := E) rfl rfl rfl rfl
  have nd := sc_cell_in_kind.nd
  exact (qcons (qasg (ws := [4, 5]) (qvar (i := 0) rfl (.inl rfl)) (qgt rfl (qgscons (qgn (i := 4) nd rfl (.inl rfl) (by decide)) (qgscons (qgn (i := 5) nd rfl (.inl rfl) (by decide)) qgsnil)))) (qcons (qset (i := 6) nd rfl (.inl rfl) qint) (qcons (qset (i := 7) nd rfl (.inl rfl) qint) (qcons (qfor (ws := [8]) hp rfl (qiof (qcall O_digits_of (hr.mono (by decide)) rfl g_digits_of F_digits_of.kp b_digits_of (fun σ => L2N.passAt tk σ) (qa_cons (qvar (i := 3) rfl (.inl rfl)) (qa_cons (qop op_mulW does_mul (qvar (i := 4) rfl (.inl rfl)) (qvar (i := 4) rfl (.inl rfl))) (qa_cons (qvar (i := 2) rfl (.inl rfl)) qa_nil))))) (fun B => (qgn (i := 8) nd rfl (.inl rfl) (by decide))) (fun B => (qcons (qasg (ws := [9, 10, 1]) (qix (qix (qvar (i := 5) rfl (.inl rfl)) (qvar (i := 1) rfl (.inl rfl))) (qvar (i := 8) rfl (.inl rfl))) (qgt rfl (qgscons (qgn (i := 9) nd rfl (.inl rfl) (by decide)) (qgscons (qgn (i := 10) nd rfl (.inl rfl) (by decide)) (qgscons (qgn (i := 1) nd rfl (.inl rfl) (by decide)) qgsnil))))) (qcons (qset (i := 6) nd rfl (.inl rfl) (qop op_add4 does_add (qop op_mulW does_mul (qvar (i := 6) rfl (.inl rfl)) (qvar (i := 4) rfl (.inl rfl))) (qvar (i := 9) rfl (.inl rfl)))) (qone (qset (i := 7) nd rfl (.inl rfl) (qop op_add4 does_add (qop op_mulW does_mul (qvar (i := 7) rfl (.inl rfl)) (qvar (i := 4) rfl (.inl rfl))) (qvar (i := 10) rfl (.inl rfl))))))))) (qone (qret (qtup (qa_cons (qvar (i := 6) rfl (.inl rfl)) (qa_cons (qvar (i := 7) rfl (.inl rfl)) qa_nil)))))))))
abbrev N__is_square : List Str := ["many", "told", "x", "y", "kind"]
theorem sc__is_square : FnScope N__is_square ["many", "told"] (defScope s__is_square) := ⟨rfl, rfl, rfl, by decide +kernel, rfl, by decide +kernel, by decide +kernel⟩
theorem ok__is_square (X0 : K.In h) (G : h.Ns mainGlobals mg) (c : He.SaysD fa fn K) : ∃ fd, FunD K "_is_square" "_is_square" (defArgs s__is_square) (defBody s__is_square) (defScope s__is_square) [] [] (He.ga K "_is_square") fd ∧ FnOk P w K mg base (L2N.CX P w) 4 (He.ga K "_is_square") fd ["many", "told"] (spF K 2 m__is_square) := by
  obtain ⟨fd_is_count, F_is_count, O_is_count⟩ := ok_is_count (P := P) (w := w) (base := base) X0 G c
  have b_is_count : Binds K fd_is_count ["told"] [] := F_is_count.bindsN fun _ _ _ _ _ _ us hl => match us, hl with | [_], _ => rfl
  have g_is_count : mg "is_count" = some (.ref (He.ga K "is_count")) := He.glo_ok X0 G (c.fact 1 rfl)
  obtain ⟨fd_is_index, F_is_index, O_is_index⟩ := ok_is_index (P := P) (w := w) (base := base) X0 G c
  have b_is_index : Binds K fd_is_index ["told", "many"] [] := F_is_index.bindsN fun _ _ _ _ _ _ us hl => match us, hl with | [_, _], _ => rfl
  have g_is_index : mg "is_index" = some (.ref (He.ga K "is_index")) := He.glo_ok X0 G (c.fact 2 rfl)
  have f_isinstance : mg "isinstance" = none := He.free_ok X0 G (c.fact 43 rfl)
  have f_len : mg "len" = none := He.free_ok X0 G (c.fact 44 rfl)
  have f_tuple : mg "tuple" = none := He.free_ok X0 G (c.fact 52 rfl)
  obtain ⟨fd, F⟩ := c.def_ 16 (d := d__is_square) rfl
  refine ⟨fd, F, fn_ok (k := 3) F sc__is_square fun cdv A outer s H E hr B => ?_⟩
  have hp : PassesOwn (model P w) _ _ _ := passes_of (X := cxOf (L2N.CX P w) P w K mg base N__is_square "_is_square" (defScope s__is_square) (He.ga K "_is_square") cdv A outer s H E) (K := fun e s'' => L2N.CX P w outer H s E e s'') rfl
  have tk := L2N.takes_of (X := cxOf (L2N.CX P w) P w K mg base N__is_square "_is_square" (defScope s__is_square) (He.ga K "_is_square") cdv A outer s H E) (E := E) rfl rfl rfl rfl
  have nd := sc__is_square.nd
  exact (qcons (qif (QW.t (qw_or (qtnot (qtval (qisi k_tuple rfl f_isinstance rfl f_tuple boot_tuple (qvar (i := 1) rfl (.inl rfl))))) (qw_or1 (qtcmp (op_neD hr.units) does_ne (qfnB call_len_seq does_len rfl f_len boot_len (qa_cons (qvar (i := 1) rfl (.inl rfl)) qa_nil)) qint)))) (qone (qret qbl)) qnil) (qcons (qasg (ws := [2, 3, 4]) (qvar (i := 1) rfl (.inl rfl)) (qgt rfl (qgscons (qgn (i := 2) nd rfl (.inl rfl) (by decide)) (qgscons (qgn (i := 3) nd rfl (.inl rfl) (by decide)) (qgscons (qgn (i := 4) nd rfl (.inl rfl) (by decide)) qgsnil))))) (qone (qret (qand (qcall O_is_count (hr.mono (by decide)) rfl g_is_count F_is_count.kp b_is_count (fun σ => L2N.passAt tk σ) (qa_cons (qvar (i := 2) rfl (.inl rfl)) qa_nil)) (qand (qcall O_is_count (hr.mono (by decide)) rfl g_is_count F_is_count.kp b_is_count (fun σ => L2N.passAt tk σ) (qa_cons (qvar (i := 3) rfl (.inl rfl)) qa_nil)) (qone_ (qcall O_is_index (hr.mono (by decide)) rfl g_is_index F_is_index.kp b_is_index (fun σ => L2N.passAt tk σ) (qa_cons (qvar (i := 4) rfl (.inl rfl)) (qa_cons (qvar (i := 0) rfl (.inl rfl)) qa_nil))))))))))
abbrev N_is_field : List Str := ["told", "book", "squares", "square"]
theorem sc_is_field : FnScope N_is_field ["told"] (defScope s_is_field) := ⟨rfl, rfl, rfl, by decide +kernel, rfl, by decide +kernel, by decide +kernel⟩
theorem ok_is_field (X0 : K.In h) (G : h.Ns mainGlobals mg) (c : He.SaysD fa fn K) : ∃ fd, FunD K "is_field" "is_field" (defArgs s_is_field) (defBody s_is_field) (defScope s_is_field) [] [] (He.ga K "is_field") fd ∧ FnOk P w K mg base (L2N.CX P w) 7 (He.ga K "is_field") fd ["told"] (spF K 1 m_is_field) := by
  obtain ⟨fd_is_book, F_is_book, O_is_book⟩ := ok_is_book (P := P) (w := w) (base := base) X0 G c
  have b_is_book : Binds K fd_is_book ["told"] [] := F_is_book.bindsN fun _ _ _ _ _ _ us hl => match us, hl with | [_], _ => rfl
  have g_is_book : mg "is_book" = some (.ref (He.ga K "is_book")) := He.glo_ok X0 G (c.fact 5 rfl)
  obtain ⟨fd__is_square, F__is_square, O__is_square⟩ := ok__is_square (P := P) (w := w) (base := base) X0 G c
  have b__is_square : Binds K fd__is_square ["many", "told"] [] := F__is_square.bindsN fun _ _ _ _ _ _ us hl => match us, hl with | [_, _], _ => rfl
  have g__is_square : mg "_is_square" = some (.ref (He.ga K "_is_square")) := He.glo_ok X0 G (c.fact 16 rfl)
  obtain ⟨fd_places_of, F_places_of, O_places_of⟩ := ok_places_of (P := P) (w := w) (base := base) X0 G c
  have b_places_of : Binds K fd_places_of ["parts"] [] := F_places_of.bindsN fun _ _ _ _ _ _ us hl => match us, hl with | [_], _ => rfl
  have g_places_of : mg "places_of" = some (.ref (He.ga K "places_of")) := He.glo_ok X0 G (c.fact 8 rfl)
  have f_all : mg "all" = none := He.free_ok X0 G (c.fact 39 rfl)
  have f_isinstance : mg "isinstance" = none := He.free_ok X0 G (c.fact 43 rfl)
  have f_len : mg "len" = none := He.free_ok X0 G (c.fact 44 rfl)
  have f_set : mg "set" = none := He.free_ok X0 G (c.fact 50 rfl)
  have f_tuple : mg "tuple" = none := He.free_ok X0 G (c.fact 52 rfl)
  obtain ⟨fd, F⟩ := c.def_ 15 (d := d_is_field) rfl
  refine ⟨fd, F, fn_ok (k := 6) F sc_is_field fun cdv A outer s H E hr B => ?_⟩
  have hp : PassesOwn (model P w) _ _ _ := passes_of (X := cxOf (L2N.CX P w) P w K mg base N_is_field "is_field" (defScope s_is_field) (He.ga K "is_field") cdv A outer s H E) (K := fun e s'' => L2N.CX P w outer H s E e s'') rfl
  have tk := L2N.takes_of (X := cxOf (L2N.CX P w) P w K mg base N_is_field "is_field" (defScope s_is_field) (He.ga K "is_field") cdv A outer s H E) (E := E) rfl rfl rfl rfl
  have nd := sc_is_field.nd
  exact (qcons (qif (QW.t (qw_or (qtnot (qtval (qisi k_tuple rfl f_isinstance rfl f_tuple boot_tuple (qvar (i := 0) rfl (.inl rfl))))) (qw_or1 (qtcmp (op_neD hr.units) does_ne (qfnB call_len_seq does_len rfl f_len boot_len (qa_cons (qvar (i := 0) rfl (.inl rfl)) qa_nil)) qint)))) (qone (qret qbl)) qnil) (qcons (qasg (ws := [1, 2]) (qvar (i := 0) rfl (.inl rfl)) (qgt rfl (qgscons (qgn (i := 1) nd rfl (.inr rfl) (by decide)) (qgscons (qgn (i := 2) nd rfl (.inl rfl) (by decide)) qgsnil)))) (qcons (qif (qtnot (qtval (qcall O_is_book (hr.mono (by decide)) rfl g_is_book F_is_book.kp b_is_book (fun σ => L2N.passAt tk σ) (qa_cons (qvar (i := 1) rfl (.inr (.inl rfl))) qa_nil)))) (qone (qret qbl)) qnil) (qcons (qif (QW.t (qw_or (qtnot (qtval (qisi k_tuple rfl f_isinstance rfl f_tuple boot_tuple (qvar (i := 2) rfl (.inl rfl))))) (qw_or1 (qtcmp (op_eqD hr.units) does_eq (qfnB call_len_seq does_len rfl f_len boot_len (qa_cons (qvar (i := 2) rfl (.inl rfl)) qa_nil)) qint)))) (qone (qret qbl)) qnil) (qcons (qif (qtnot (qtval (qfnB (cr_all rfl) does_all rfl f_all boot_all (qa_cons (qcomp (vs := [3]) rfl nd (qiof (qvar (i := 2) rfl (.inl rfl))) (blkOk_by (own := [("square", 3)]) (N := N_is_field) (sc := defScope s_is_field) (by decide +kernel)) (gok_n (by decide)) rfl (fun _ _ _ _ _ B => (qgn (i := 3) nd rfl (.inl rfl) (by decide))) (fun _ _ _ _ _ => qtsnil) (fun _ _ _ _ _ => (qcall O__is_square (hr.mono (by decide)) rfl g__is_square F__is_square.kp b__is_square (fun σ => L2N.passAt takesN0 σ) (qa_cons (qfnB call_len_seq does_len rfl f_len boot_len (qa_cons (qix (qvar (i := 1) rfl (.inr (.inl rfl))) qint) qa_nil)) (qa_cons (qvar (i := 3) rfl (.inl rfl)) qa_nil))))) qa_nil)))) (qone (qret qbl)) qnil) (qone (qret (qcmp (op_eqD hr.units) does_eq (qlenset rfl hr.units rfl f_len rfl f_set (qcall O_places_of (hr.mono (by decide)) rfl g_places_of F_places_of.kp b_places_of (fun σ => L2N.passAt tk σ) (qa_cons (qvar (i := 2) rfl (.inl rfl)) qa_nil))) (qfnB call_len_seq does_len rfl f_len boot_len (qa_cons (qvar (i := 2) rfl (.inl rfl)) qa_nil))))))))))
abbrev N_check_field : List Str := ["field"]
theorem sc_check_field : FnScope N_check_field ["field"] (defScope s_check_field) := ⟨rfl, rfl, rfl, by decide +kernel, rfl, by decide +kernel, by decide +kernel⟩
theorem ok_check_field (X0 : K.In h) (G : h.Ns mainGlobals mg) (c : He.SaysD fa fn K) : ∃ fd, FunD K "check_field" "check_field" (defArgs s_check_field) (defBody s_check_field) (defScope s_check_field) [] [] (He.ga K "check_field") fd ∧ FnOk P w K mg base (L2N.CX P w) 8 (He.ga K "check_field") fd ["field"] (spF K 1 m_check_field) := by
  obtain ⟨fd_is_field, F_is_field, O_is_field⟩ := ok_is_field (P := P) (w := w) (base := base) X0 G c
  have b_is_field : Binds K fd_is_field ["told"] [] := F_is_field.bindsN fun _ _ _ _ _ _ us hl => match us, hl with | [_], _ => rfl
  have g_is_field : mg "is_field" = some (.ref (He.ga K "is_field")) := He.glo_ok X0 G (c.fact 15 rfl)
  obtain ⟨fd, F⟩ := c.def_ 17 (d := d_check_field) rfl
  refine ⟨fd, F, fn_ok (k := 7) F sc_check_field fun cdv A outer s H E hr B => ?_⟩
  have hp : PassesOwn (model P w) _ _ _ := passes_of (X := cxOf (L2N.CX P w) P w K mg base N_check_field "check_field" (defScope s_check_field) (He.ga K "check_field") cdv A outer s H E) (K := fun e s'' => L2N.CX P w outer H s E e s'') rfl
  have tk := L2N.takes_of (X := cxOf (L2N.CX P w) P w K mg base N_check_field "check_field" (defScope s_check_field) (He.ga K "check_field") cdv A outer s H E) (E := E) rfl rfl rfl rfl
  have nd := sc_check_field.nd
  exact (qone (qif (qtnot (qtval (qcall O_is_field (hr.mono (by decide)) rfl g_is_field F_is_field.kp b_is_field (fun σ => L2N.passAt tk σ) (qa_cons (qvar (i := 0) rfl (.inl rfl)) qa_nil)))) (qone qnever) qnil))
abbrev N_field_cell : List Str := ["field", "d", "number", "book", "squares", "many", "at", "inside", "x", "y", "kind", "right", "up", "size"]
theorem sc_field_cell : FnScope N_field_cell ["field", "d", "number"] (defScope s_field_cell) := ⟨rfl, rfl, rfl, by decide +kernel, rfl, by decide +kernel, by decide +kernel⟩
theorem ok_field_cell (X0 : K.In h) (G : h.Ns mainGlobals mg) (c : He.SaysD fa fn K) : ∃ fd, FunD K "field_cell" "field_cell" (defArgs s_field_cell) (defBody s_field_cell) (defScope s_field_cell) [] [] (He.ga K "field_cell") fd ∧ FnOk P w K mg base (L2N.CX P w) 9 (He.ga K "field_cell") fd ["field", "d", "number"] (spF K 3 m_field_cell) := by
  obtain ⟨fd_check_field, F_check_field, O_check_field⟩ := ok_check_field (P := P) (w := w) (base := base) X0 G c
  have b_check_field : Binds K fd_check_field ["field"] [] := F_check_field.bindsN fun _ _ _ _ _ _ us hl => match us, hl with | [_], _ => rfl
  have g_check_field : mg "check_field" = some (.ref (He.ga K "check_field")) := He.glo_ok X0 G (c.fact 17 rfl)
  obtain ⟨fd_check_depth, F_check_depth, O_check_depth⟩ := ok_check_depth (P := P) (w := w) (base := base) X0 G c
  have b_check_depth : Binds K fd_check_depth ["d"] [] := F_check_depth.bindsN fun _ _ _ _ _ _ us hl => match us, hl with | [_], _ => rfl
  have g_check_depth : mg "check_depth" = some (.ref (He.ga K "check_depth")) := He.glo_ok X0 G (c.fact 11 rfl)
  obtain ⟨fd_how_many_cells, F_how_many_cells, O_how_many_cells⟩ := ok_how_many_cells (P := P) (w := w) (base := base) X0 G c
  have b_how_many_cells : Binds K fd_how_many_cells ["book", "d"] [] := F_how_many_cells.bindsN fun _ _ _ _ _ _ us hl => match us, hl with | [_, _], _ => rfl
  have g_how_many_cells : mg "how_many_cells" = some (.ref (He.ga K "how_many_cells")) := He.glo_ok X0 G (c.fact 13 rfl)
  obtain ⟨fd_cell_in_kind, F_cell_in_kind, O_cell_in_kind⟩ := ok_cell_in_kind (P := P) (w := w) (base := base) X0 G c
  have b_cell_in_kind : Binds K fd_cell_in_kind ["book", "kind", "d", "number"] [] := F_cell_in_kind.bindsN fun _ _ _ _ _ _ us hl => match us, hl with | [_, _, _, _], _ => rfl
  have g_cell_in_kind : mg "cell_in_kind" = some (.ref (He.ga K "cell_in_kind")) := He.glo_ok X0 G (c.fact 14 rfl)
  obtain ⟨fd_power, F_power, O_power⟩ := ok_power (P := P) (w := w) (base := base) X0 G c
  have b_power : Binds K fd_power ["base", "times"] [] := F_power.bindsN fun _ _ _ _ _ _ us hl => match us, hl with | [_, _], _ => rfl
  have g_power : mg "power" = some (.ref (He.ga K "power")) := He.glo_ok X0 G (c.fact 3 rfl)
  obtain ⟨fd_is_index, F_is_index, O_is_index⟩ := ok_is_index (P := P) (w := w) (base := base) X0 G c
  have b_is_index : Binds K fd_is_index ["told", "many"] [] := F_is_index.bindsN fun _ _ _ _ _ _ us hl => match us, hl with | [_, _], _ => rfl
  have g_is_index : mg "is_index" = some (.ref (He.ga K "is_index")) := He.glo_ok X0 G (c.fact 2 rfl)
  have f_divmod : mg "divmod" = none := He.free_ok X0 G (c.fact 41 rfl)
  have f_len : mg "len" = none := He.free_ok X0 G (c.fact 44 rfl)
  obtain ⟨fd, F⟩ := c.def_ 18 (d := d_field_cell) rfl
  refine ⟨fd, F, fn_ok (k := 8) F sc_field_cell fun cdv A outer s H E hr B => ?_⟩
  have hp : PassesOwn (model P w) _ _ _ := passes_of (X := cxOf (L2N.CX P w) P w K mg base N_field_cell "field_cell" (defScope s_field_cell) (He.ga K "field_cell") cdv A outer s H E) (K := fun e s'' => L2N.CX P w outer H s E e s'') rfl
  have tk := L2N.takes_of (X := cxOf (L2N.CX P w) P w K mg base N_field_cell "field_cell" (defScope s_field_cell) (He.ga K "field_cell") cdv A outer s H E) (E := E) rfl rfl rfl rfl
  have nd := sc_field_cell.nd
  exact (qcons (qexpr (qcall O_check_field (hr.mono (by decide)) rfl g_check_field F_check_field.kp b_check_field (fun σ => L2N.passAt tk σ) (qa_cons (qvar (i := 0) rfl (.inl rfl)) qa_nil))) (qcons (qexpr (qcall O_check_depth (hr.mono (by decide)) rfl g_check_depth F_check_depth.kp b_check_depth (fun σ => L2N.passAt tk σ) (qa_cons (qvar (i := 1) rfl (.inl rfl)) qa_nil))) (qcons (qasg (ws := [3, 4]) (qvar (i := 0) rfl (.inl rfl)) (qgt rfl (qgscons (qgn (i := 3) nd rfl (.inl rfl) (by decide)) (qgscons (qgn (i := 4) nd rfl (.inl rfl) (by decide)) qgsnil)))) (qcons (qset (i := 5) nd rfl (.inl rfl) (qcall O_how_many_cells (hr.mono (by decide)) rfl g_how_many_cells F_how_many_cells.kp b_how_many_cells (fun σ => L2N.passAt tk σ) (qa_cons (qvar (i := 3) rfl (.inl rfl)) (qa_cons (qvar (i := 1) rfl (.inl rfl)) qa_nil)))) (qcons (qif (qtnot (qtval (qcall O_is_index (hr.mono (by decide)) rfl g_is_index F_is_index.kp b_is_index (fun σ => L2N.passAt tk σ) (qa_cons (qvar (i := 2) rfl (.inl rfl)) (qa_cons (qop op_mulW does_mul (qvar (i := 5) rfl (.inl rfl)) (qfnB call_len_seq does_len rfl f_len boot_len (qa_cons (qvar (i := 4) rfl (.inl rfl)) qa_nil))) qa_nil))))) (qone qnever) qnil) (qcons (qasg (ws := [6, 7]) (qfnB call_divmodW does_divmodW rfl f_divmod boot_divmod (qa_cons (qvar (i := 2) rfl (.inl rfl)) (qa_cons (qvar (i := 5) rfl (.inl rfl)) qa_nil))) (qgt rfl (qgscons (qgn (i := 6) nd rfl (.inl rfl) (by decide)) (qgscons (qgn (i := 7) nd rfl (.inl rfl) (by decide)) qgsnil)))) (qcons (qasg (ws := [8, 9, 10]) (qix (qvar (i := 4) rfl (.inl rfl)) (qvar (i := 6) rfl (.inl rfl))) (qgt rfl (qgscons (qgn (i := 8) nd rfl (.inl rfl) (by decide)) (qgscons (qgn (i := 9) nd rfl (.inl rfl) (by decide)) (qgscons (qgn (i := 10) nd rfl (.inl rfl) (by decide)) qgsnil))))) (qcons (qasg (ws := [11, 12]) (qcall O_cell_in_kind (hr.mono (by decide)) rfl g_cell_in_kind F_cell_in_kind.kp b_cell_in_kind (fun σ => L2N.passAt tk σ) (qa_cons (qvar (i := 3) rfl (.inl rfl)) (qa_cons (qvar (i := 10) rfl (.inl rfl)) (qa_cons (qvar (i := 1) rfl (.inl rfl)) (qa_cons (qvar (i := 7) rfl (.inl rfl)) qa_nil))))) (qgt rfl (qgscons (qgn (i := 11) nd rfl (.inl rfl) (by decide)) (qgscons (qgn (i := 12) nd rfl (.inl rfl) (by decide)) qgsnil)))) (qcons (qset (i := 13) nd rfl (.inl rfl) (qcall O_power (hr.mono (by decide)) rfl g_power F_power.kp b_power (fun σ => L2N.passAt tk σ) (qa_cons (qix (qvar (i := 3) rfl (.inl rfl)) qint) (qa_cons (qvar (i := 1) rfl (.inl rfl)) qa_nil)))) (qone (qret (qtup (qa_cons (qop op_add4 does_add (qop op_mulW does_mul (qvar (i := 8) rfl (.inl rfl)) (qvar (i := 13) rfl (.inl rfl))) (qvar (i := 11) rfl (.inl rfl))) (qa_cons (qop op_add4 does_add (qop op_mulW does_mul (qvar (i := 9) rfl (.inl rfl)) (qvar (i := 13) rfl (.inl rfl))) (qvar (i := 12) rfl (.inl rfl))) qa_nil))))))))))))))
abbrev N_row_field : List Str := ["book", "kind", "many", "x"]
theorem sc_row_field : FnScope N_row_field ["book", "kind", "many"] (defScope s_row_field) := ⟨rfl, rfl, rfl, by decide +kernel, rfl, by decide +kernel, by decide +kernel⟩
theorem ok_row_field (X0 : K.In h) (G : h.Ns mainGlobals mg) (c : He.SaysD fa fn K) : ∃ fd, FunD K "row_field" "row_field" (defArgs s_row_field) (defBody s_row_field) (defScope s_row_field) [] [] (He.ga K "row_field") fd ∧ FnOk P w K mg base (L2N.CX P w) 8 (He.ga K "row_field") fd ["book", "kind", "many"] (spF K 3 m_row_field) := by
  obtain ⟨fd_check_book, F_check_book, O_check_book⟩ := ok_check_book (P := P) (w := w) (base := base) X0 G c
  have b_check_book : Binds K fd_check_book ["book"] [] := F_check_book.bindsN fun _ _ _ _ _ _ us hl => match us, hl with | [_], _ => rfl
  have g_check_book : mg "check_book" = some (.ref (He.ga K "check_book")) := He.glo_ok X0 G (c.fact 9 rfl)
  obtain ⟨fd_check_kind, F_check_kind, O_check_kind⟩ := ok_check_kind (P := P) (w := w) (base := base) X0 G c
  have b_check_kind : Binds K fd_check_kind ["book", "kind"] [] := F_check_kind.bindsN fun _ _ _ _ _ _ us hl => match us, hl with | [_, _], _ => rfl
  have g_check_kind : mg "check_kind" = some (.ref (He.ga K "check_kind")) := He.glo_ok X0 G (c.fact 10 rfl)
  obtain ⟨fd_check_from_one, F_check_from_one, O_check_from_one⟩ := ok_check_from_one (P := P) (w := w) (base := base) X0 G c
  have b_check_from_one : Binds K fd_check_from_one ["number"] [] := F_check_from_one.bindsN fun _ _ _ _ _ _ us hl => match us, hl with | [_], _ => rfl
  have g_check_from_one : mg "check_from_one" = some (.ref (He.ga K "check_from_one")) := He.glo_ok X0 G (c.fact 12 rfl)
  have f_range : mg "range" = none := He.free_ok X0 G (c.fact 48 rfl)
  have f_tuple : mg "tuple" = none := He.free_ok X0 G (c.fact 52 rfl)
  obtain ⟨fd, F⟩ := c.def_ 19 (d := d_row_field) rfl
  refine ⟨fd, F, fn_ok (k := 7) F sc_row_field fun cdv A outer s H E hr B => ?_⟩
  have hp : PassesOwn (model P w) _ _ _ := passes_of (X := cxOf (L2N.CX P w) P w K mg base N_row_field "row_field" (defScope s_row_field) (He.ga K "row_field") cdv A outer s H E) (K := fun e s'' => L2N.CX P w outer H s E e s'') rfl
  have tk := L2N.takes_of (X := cxOf (L2N.CX P w) P w K mg base N_row_field "row_field" (defScope s_row_field) (He.ga K "row_field") cdv A outer s H E) (E := E) rfl rfl rfl rfl
  have nd := sc_row_field.nd
  exact (qcons (qexpr (qcall O_check_book (hr.mono (by decide)) rfl g_check_book F_check_book.kp b_check_book (fun σ => L2N.passAt tk σ) (qa_cons (qvar (i := 0) rfl (.inl rfl)) qa_nil))) (qcons (qexpr (qcall O_check_kind (hr.mono (by decide)) rfl g_check_kind F_check_kind.kp b_check_kind (fun σ => L2N.passAt tk σ) (qa_cons (qvar (i := 0) rfl (.inl rfl)) (qa_cons (qvar (i := 1) rfl (.inr (.inl rfl))) qa_nil)))) (qcons (qexpr (qcall O_check_from_one (hr.mono (by decide)) rfl g_check_from_one F_check_from_one.kp b_check_from_one (fun σ => L2N.passAt tk σ) (qa_cons (qvar (i := 2) rfl (.inl rfl)) qa_nil))) (qone (qret (qtup (qa_cons (qvar (i := 0) rfl (.inl rfl)) (qa_cons (qfnT call_tuple_of does_tuple rfl f_tuple boot_tuple (qa_cons (qcomp (vs := [3]) rfl nd (qir1 rfl f_range (qa_cons (qvar (i := 2) rfl (.inl rfl)) qa_nil)) (blkOk_by (own := [("x", 3)]) (N := N_row_field) (sc := defScope s_row_field) (by decide +kernel)) (gok_n (by decide)) rfl (fun _ _ _ _ _ B => (qgn (i := 3) nd rfl (.inl rfl) (by decide))) (fun _ _ _ _ _ => qtsnil) (fun _ _ _ _ _ => (qtup (qa_cons (qvar (i := 3) rfl (.inl rfl)) (qa_cons qint (qa_cons (qvar (i := 1) rfl (.inr (.inl rfl))) qa_nil)))))) qa_nil)) qa_nil))))))))
abbrev N__law_stock : List Str := ["script", "spot", "cell", "figures"]
theorem sc__law_stock : FnScope N__law_stock ["script", "spot"] (defScope s__law_stock) := ⟨rfl, rfl, rfl, by decide +kernel, rfl, by decide +kernel, by decide +kernel⟩
theorem ok__law_stock (X0 : K.In h) (G : h.Ns mainGlobals mg) (c : He.SaysD fa fn K) : ∃ fd, FunD K "_law_stock" "_law_stock" (defArgs s__law_stock) (defBody s__law_stock) (defScope s__law_stock) [] [] (He.ga K "_law_stock") fd ∧ FnOk P w K mg base (L2N.CX P w) 1 (He.ga K "_law_stock") fd ["script", "spot"] (spF K 2 m__law_stock) := by
  have f_int : mg "int" = none := He.free_ok X0 G (c.fact 42 rfl)
  have f_len : mg "len" = none := He.free_ok X0 G (c.fact 44 rfl)
  obtain ⟨fd, F⟩ := c.def_ 20 (d := d__law_stock) rfl
  refine ⟨fd, F, fn_ok (k := 0) F sc__law_stock fun cdv A outer s H E hr B => ?_⟩
  have hp : PassesOwn (model P w) _ _ _ := passes_of (X := cxOf (L2N.CX P w) P w K mg base N__law_stock "_law_stock" (defScope s__law_stock) (He.ga K "_law_stock") cdv A outer s H E) (K := fun e s'' => L2N.CX P w outer H s E e s'') rfl
  have tk := L2N.takes_of (X := cxOf (L2N.CX P w) P w K mg base N__law_stock "_law_stock" (defScope s__law_stock) (He.ga K "_law_stock") cdv A outer s H E) (E := E) rfl rfl rfl rfl
  have nd := sc__law_stock.nd
  exact (qcons (qset (i := 2) nd rfl (.inl rfl) (qifx (qtcmp op_lt does_lt (qvar (i := 1) rfl (.inl rfl)) (qfnB call_len_seq does_len rfl f_len boot_len (qa_cons (qvar (i := 0) rfl (.inl rfl)) qa_nil))) (qix (qvar (i := 0) rfl (.inl rfl)) (qvar (i := 1) rfl (.inl rfl))) (qop op_add4 does_add (qop op_add4 does_add (qop Ev.op_mulX does_mulX qint (qvar (i := 1) rfl (.inl rfl))) (qop Ev.op_mulX does_mulX qint (qfnB call_len_seq does_len rfl f_len boot_len (qa_cons (qvar (i := 0) rfl (.inl rfl)) qa_nil)))) qint))) (qcons (qset (i := 3) nd rfl (.inl rfl) (qifx (qtcmp op_ge does_ge (qvar (i := 2) rfl (.inl rfl)) (qop op_pow does_pow qint qint)) (qop op_sub does_sub (qvar (i := 2) rfl (.inl rfl)) (qop op_pow does_pow qint qint)) qint)) (qone (qret (qlst (qa_cons (qvar (i := 3) rfl (.inl rfl)) (qa_cons (qop op_mod does_mod (qfnT call_int1 does_int rfl f_int boot_int (qa_cons (qop op_add4 does_add (qop op_add4 does_add (qop Ev.op_mulX does_mulX (qvar (i := 2) rfl (.inl rfl)) qint) (qop Ev.op_mulX does_mulX (qvar (i := 1) rfl (.inl rfl)) qint)) qint) qa_nil)) (qop op_add4 does_add (qop op_pow does_pow qint qint) qint)) (qa_cons qint qa_nil))))))))
abbrev N__law_pick : List Str := ["stock", "many", "figure", "mixed"]
theorem sc__law_pick : FnScope N__law_pick ["stock", "many"] (defScope s__law_pick) := ⟨rfl, rfl, rfl, by decide +kernel, rfl, by decide +kernel, by decide +kernel⟩
theorem ok__law_pick (X0 : K.In h) (G : h.Ns mainGlobals mg) (c : He.SaysD fa fn K) : ∃ fd, FunD K "_law_pick" "_law_pick" (defArgs s__law_pick) (defBody s__law_pick) (defScope s__law_pick) [] [] (He.ga K "_law_pick") fd ∧ FnOk P w K mg base (L2N.CX P w) 1 (He.ga K "_law_pick") fd ["stock", "many"] (spF K 2 m__law_pick) := by
  have f_int : mg "int" = none := He.free_ok X0 G (c.fact 42 rfl)
  obtain ⟨fd, F⟩ := c.def_ 21 (d := d__law_pick) rfl
  refine ⟨fd, F, fn_ok (k := 0) F sc__law_pick fun cdv A outer s H E hr B => ?_⟩
  have hp : PassesOwn (model P w) _ _ _ := passes_of (X := cxOf (L2N.CX P w) P w K mg base N__law_pick "_law_pick" (defScope s__law_pick) (He.ga K "_law_pick") cdv A outer s H E) (K := fun e s'' => L2N.CX P w outer H s E e s'') rfl
  have tk := L2N.takes_of (X := cxOf (L2N.CX P w) P w K mg base N__law_pick "_law_pick" (defScope s__law_pick) (He.ga K "_law_pick") cdv A outer s H E) (E := E) rfl rfl rfl rfl
  have nd := sc__law_pick.nd
  exact (qcons (qif (qtcmp op_gt does_gt (qix (qvar (i := 0) rfl (.inl rfl)) qint) qint) (qcons (qset (i := 2) nd rfl (.inl rfl) (qop op_mod does_mod (qfnT call_int1 does_int rfl f_int boot_int (qa_cons (qix (qvar (i := 0) rfl (.inl rfl)) qint) qa_nil)) (qvar (i := 1) rfl (.inl rfl)))) (qcons (qsetix (i := 0) rfl (.inl rfl) qint (qop op_fdivW does_div (qix (qvar (i := 0) rfl (.inl rfl)) qint) (qvar (i := 1) rfl (.inl rfl)))) (qone (qret (qvar (i := 2) rfl (.inl rfl)))))) qnil) (qcons (qsetix (i := 0) rfl (.inl rfl) qint (qop op_add4 does_add (qix (qvar (i := 0) rfl (.inl rfl)) qint) qint)) (qcons (qset (i := 3) nd rfl (.inl rfl) (qop op_mod does_mod (qop op_powW does_powW (qfnT call_int1 does_int rfl f_int boot_int (qa_cons (qop op_add4 does_add (qix (qvar (i := 0) rfl (.inl rfl)) qint) (qop op_mulW does_mul qint (qix (qvar (i := 0) rfl (.inl rfl)) qint))) qa_nil)) qint) (qop op_add4 does_add (qop op_pow does_pow qint qint) qint))) (qcons (qset (i := 3) nd rfl (.inl rfl) (qop op_mod does_mod (qop op_powW does_powW (qfnT call_int1 does_int rfl f_int boot_int (qa_cons (qop op_add4 does_add (qvar (i := 3) rfl (.inl rfl)) (qop op_mulW does_mul (qop op_mulW does_mul qint (qix (qvar (i := 0) rfl (.inl rfl)) qint)) (qix (qvar (i := 0) rfl (.inl rfl)) qint))) qa_nil)) qint) (qop op_add4 does_add (qop op_pow does_pow qint qint) qint))) (qone (qret (qop op_mod does_mod (qfnT call_int1 does_int rfl f_int boot_int (qa_cons (qop op_fdivW does_div (qvar (i := 3) rfl (.inl rfl)) qint) qa_nil)) (qvar (i := 1) rfl (.inl rfl)))))))))
abbrev N__law_alike : List Str := ["thing", "due", "one", "other"]
theorem sc__law_alike : FnScope N__law_alike ["thing", "due"] (defScope s__law_alike) := ⟨rfl, rfl, rfl, by decide +kernel, rfl, by decide +kernel, by decide +kernel⟩
theorem ok__law_alike (X0 : K.In h) (G : h.Ns mainGlobals mg) (c : He.SaysD fa fn K) : ∀ fuel : Nat, ∃ fd, FunD K "_law_alike" "_law_alike" (defArgs s__law_alike) (defBody s__law_alike) (defScope s__law_alike) [] [] (He.ga K "_law_alike") fd ∧ FnOk P w K mg base (L2N.CX P w) (1 + fuel) (He.ga K "_law_alike") fd ["thing", "due"] (spF K 2 (m__law_alike fuel)) := by
  have f_all : mg "all" = none := He.free_ok X0 G (c.fact 39 rfl)
  have f_bool : mg "bool" = none := He.free_ok X0 G (c.fact 40 rfl)
  have f_int : mg "int" = none := He.free_ok X0 G (c.fact 42 rfl)
  have f_isinstance : mg "isinstance" = none := He.free_ok X0 G (c.fact 43 rfl)
  have f_len : mg "len" = none := He.free_ok X0 G (c.fact 44 rfl)
  have f_list : mg "list" = none := He.free_ok X0 G (c.fact 45 rfl)
  have f_str : mg "str" = none := He.free_ok X0 G (c.fact 51 rfl)
  have f_tuple : mg "tuple" = none := He.free_ok X0 G (c.fact 52 rfl)
  have f_zip : mg "zip" = none := He.free_ok X0 G (c.fact 53 rfl)
  have g__law_alike : mg "_law_alike" = some (.ref (He.ga K "_law_alike")) := He.glo_ok X0 G (c.fact 22 rfl)
  obtain ⟨fd, F__law_alike⟩ := c.def_ 22 (d := d__law_alike) rfl
  have F__law_alike : FunD K "_law_alike" "_law_alike" (defArgs s__law_alike) (defBody s__law_alike) (defScope s__law_alike) [] [] (He.ga K "_law_alike") fd := F__law_alike
  have b__law_alike : Binds K fd ["thing", "due"] [] := F__law_alike.bindsN fun _ _ _ _ _ _ us hl => match us, hl with | [_, _], _ => rfl
  intro fuel
  refine ⟨fd, F__law_alike, ?_⟩
  induction fuel with
  | zero =>
    refine (fn_ok (k := 0) (b := sNever) F__law_alike sc__law_alike fun cdv A outer s H E hr B => qnevers).imp fun vs H Q E z => ⟨z.1, ?_⟩
    obtain ⟨e, F, R, z⟩ := z.2
    exact z.elim
  | succ fuel ih =>
    have O__law_alike := ih
    refine fn_ok (k := 1 + fuel) F__law_alike sc__law_alike fun cdv A outer s H E hr B => ?_
    have hp : PassesOwn (model P w) _ _ _ := passes_of (X := cxOf (L2N.CX P w) P w K mg base N__law_alike "_law_alike" (defScope s__law_alike) (He.ga K "_law_alike") cdv A outer s H E) (K := fun e s'' => L2N.CX P w outer H s E e s'') rfl
    have tk := L2N.takes_of (X := cxOf (L2N.CX P w) P w K mg base N__law_alike "_law_alike" (defScope s__law_alike) (He.ga K "_law_alike") cdv A outer s H E) (E := E) rfl rfl rfl rfl
    have nd := sc__law_alike.nd
    exact (qcons (qif (qtcmp op_isN does_isN (qvar (i := 1) rfl (.inl rfl)) qnon) (qone (qret (qcmp op_isN does_isN (qvar (i := 0) rfl (.inl rfl)) qnon))) qnil) (qcons (qif (qtval (qisi k_bool rfl f_isinstance rfl f_bool boot_bool (qvar (i := 1) rfl (.inl rfl)))) (qone (qret (qand (qisi k_bool rfl f_isinstance rfl f_bool boot_bool (qvar (i := 0) rfl (.inl rfl))) (qone_ (qcmp (op_eqD hr.units) does_eq (qvar (i := 0) rfl (.inl rfl)) (qvar (i := 1) rfl (.inl rfl))))))) qnil) (qcons (qif (qtval (qisi k_int rfl f_isinstance rfl f_int boot_int (qvar (i := 1) rfl (.inl rfl)))) (qone (qret (qand (qisi k_int rfl f_isinstance rfl f_int boot_int (qvar (i := 0) rfl (.inl rfl))) (qand (qnot (qisi k_bool rfl f_isinstance rfl f_bool boot_bool (qvar (i := 0) rfl (.inl rfl)))) (qone_ (qcmp (op_eqD hr.units) does_eq (qvar (i := 0) rfl (.inl rfl)) (qvar (i := 1) rfl (.inl rfl)))))))) qnil) (qcons (qif (qtval (qisi k_str rfl f_isinstance rfl f_str boot_str (qvar (i := 1) rfl (.inl rfl)))) (qone (qret (qand (qisi k_str rfl f_isinstance rfl f_str boot_str (qvar (i := 0) rfl (.inl rfl))) (qone_ (qcmp (op_eqD hr.units) does_eq (qvar (i := 0) rfl (.inl rfl)) (qvar (i := 1) rfl (.inl rfl))))))) qnil) (qcons (qif (QW.t (qw_or (QW.t (qw_and (qtval (qisi k_tuple rfl f_isinstance rfl f_tuple boot_tuple (qvar (i := 1) rfl (.inl rfl)))) (qw_and1 (qtnot (qtval (qisi k_tuple rfl f_isinstance rfl f_tuple boot_tuple (qvar (i := 0) rfl (.inl rfl)))))))) (qw_or1 (QW.t (qw_and (qtval (qisi k_list rfl f_isinstance rfl f_list boot_list (qvar (i := 1) rfl (.inl rfl)))) (qw_and1 (qtnot (qtval (qisi k_list rfl f_isinstance rfl f_list boot_list (qvar (i := 0) rfl (.inl rfl))))))))))) (qone (qret qbl)) qnil) (qone (qret (qand (qcmp (op_eqD hr.units) does_eq (qfnB call_len_seq does_len rfl f_len boot_len (qa_cons (qvar (i := 0) rfl (.inl rfl)) qa_nil)) (qfnB call_len_seq does_len rfl f_len boot_len (qa_cons (qvar (i := 1) rfl (.inl rfl)) qa_nil))) (qone_ (qfnB (cr_all rfl) does_all rfl f_all boot_all (qa_cons (qcompG (vs := [2, 3]) rfl nd (qizipV (i := 0) (j := 1) (by rfl) f_zip rfl (.inl rfl) rfl (.inl rfl)) (blkOk_by (own := [("one", 2), ("other", 3)]) (N := N__law_alike) (sc := defScope s__law_alike) (by decide +kernel)) (gok_t (gsok_cons (gok_n (by decide)) (gsok_cons (gok_n (by decide)) gsok_nil))) rfl (fun _ _ _ _ _ B => (qgt rfl (qgscons (qgn (i := 2) nd rfl (.inl rfl) (by decide)) (qgscons (qgn (i := 3) nd rfl (.inl rfl) (by decide)) qgsnil)))) (fun _ _ _ _ _ => qtsnil) (fun _ _ _ _ _ => (qcall O__law_alike (hr.mono (by omega)) rfl g__law_alike F__law_alike.kp b__law_alike (fun σ => L2N.passAt takesN0 σ) (qa_cons (qvar (i := 2) rfl (.inl rfl)) (qa_cons (qvar (i := 3) rfl (.inl rfl)) qa_nil))))) qa_nil)))))))))))
abbrev N__law_power : List Str := ["b", "n", "found", "turn"]
theorem sc__law_power : FnScope N__law_power ["b", "n"] (defScope s__law_power) := ⟨rfl, rfl, rfl, by decide +kernel, rfl, by decide +kernel, by decide +kernel⟩
theorem ok__law_power (X0 : K.In h) (G : h.Ns mainGlobals mg) (c : He.SaysD fa fn K) : ∃ fd, FunD K "_law_power" "_law_power" (defArgs s__law_power) (defBody s__law_power) (defScope s__law_power) [] [] (He.ga K "_law_power") fd ∧ FnOk P w K mg base (L2N.CX P w) 1 (He.ga K "_law_power") fd ["b", "n"] (spF K 2 m__law_power) := by
  have f_range : mg "range" = none := He.free_ok X0 G (c.fact 48 rfl)
  obtain ⟨fd, F⟩ := c.def_ 23 (d := d__law_power) rfl
  refine ⟨fd, F, fn_ok (k := 0) F sc__law_power fun cdv A outer s H E hr B => ?_⟩
  have hp : PassesOwn (model P w) _ _ _ := passes_of (X := cxOf (L2N.CX P w) P w K mg base N__law_power "_law_power" (defScope s__law_power) (He.ga K "_law_power") cdv A outer s H E) (K := fun e s'' => L2N.CX P w outer H s E e s'') rfl
  have tk := L2N.takes_of (X := cxOf (L2N.CX P w) P w K mg base N__law_power "_law_power" (defScope s__law_power) (He.ga K "_law_power") cdv A outer s H E) (E := E) rfl rfl rfl rfl
  have nd := sc__law_power.nd
  exact (qcons (qset (i := 2) nd rfl (.inl rfl) qint) (qcons (qfor (ws := [3]) hp rfl (qir1 rfl f_range (qa_cons (qvar (i := 1) rfl (.inl rfl)) qa_nil)) (fun B => (qgn (i := 3) nd rfl (.inl rfl) (by decide))) (fun B => (qone (qset (i := 2) nd rfl (.inl rfl) (qop op_mulW does_mul (qvar (i := 2) rfl (.inl rfl)) (qvar (i := 0) rfl (.inl rfl))))))) (qone (qret (qvar (i := 2) rfl (.inl rfl))))))
abbrev N__law_places : List Str := ["stock", "b", "left", "found", "x", "y"]
theorem sc__law_places : FnScope N__law_places ["stock", "b"] (defScope s__law_places) := ⟨rfl, rfl, rfl, by decide +kernel, rfl, by decide +kernel, by decide +kernel⟩
theorem ok__law_places (X0 : K.In h) (G : h.Ns mainGlobals mg) (c : He.SaysD fa fn K) : ∃ fd, FunD K "_law_places" "_law_places" (defArgs s__law_places) (defBody s__law_places) (defScope s__law_places) [] [] (He.ga K "_law_places") fd ∧ FnOk P w K mg base (L2N.CX P w) 2 (He.ga K "_law_places") fd ["stock", "b"] (spF K 2 m__law_places) := by
  obtain ⟨fd__law_pick, F__law_pick, O__law_pick⟩ := ok__law_pick (P := P) (w := w) (base := base) X0 G c
  have b__law_pick : Binds K fd__law_pick ["stock", "many"] [] := F__law_pick.bindsN fun _ _ _ _ _ _ us hl => match us, hl with | [_, _], _ => rfl
  have g__law_pick : mg "_law_pick" = some (.ref (He.ga K "_law_pick")) := He.glo_ok X0 G (c.fact 21 rfl)
  have f_len : mg "len" = none := He.free_ok X0 G (c.fact 44 rfl)
  have f_range : mg "range" = none := He.free_ok X0 G (c.fact 48 rfl)
  obtain ⟨fd, F⟩ := c.def_ 24 (d := d__law_places) rfl
  refine ⟨fd, F, fn_ok (k := 1) F sc__law_places fun cdv A outer s H E hr B => ?_⟩
  have hp : PassesOwn (model P w) _ _ _ := passes_of (X := cxOf (L2N.CX P w) P w K mg base N__law_places "_law_places" (defScope s__law_places) (He.ga K "_law_places") cdv A outer s H E) (K := fun e s'' => L2N.CX P w outer H s E e s'') rfl
  have tk := L2N.takes_of (X := cxOf (L2N.CX P w) P w K mg base N__law_places "_law_places" (defScope s__law_places) (He.ga K "_law_places") cdv A outer s H E) (E := E) rfl rfl rfl rfl
  have nd := sc__law_places.nd
  exact (qcons (qpar2 (i := 2) (j := 3) rfl nd rfl rfl (by decide) rfl rfl (qa_cons (qlst qa_nil) (qa_cons (qlst qa_nil) qa_nil)) (by rfl)) (qcons (qfor (ws := [4]) hp rfl (qir1 rfl f_range (qa_cons (qvar (i := 1) rfl (.inl rfl)) qa_nil)) (fun B => (qgn (i := 4) nd rfl (.inr rfl) (by decide))) (fun B => (qone (qset (i := 2) nd rfl (.inl rfl) (qop op_add4 does_add (qvar (i := 2) rfl (.inl rfl)) (qcomp (vs := [5]) rfl nd (qir1 rfl f_range (qa_cons (qvar (i := 1) rfl (.inl rfl)) qa_nil)) (blkOk_by (own := [("y", 5)]) (N := N__law_places) (sc := defScope s__law_places) (by decide +kernel)) (gok_n (by decide)) rfl (fun _ _ _ _ _ B => (qgn (i := 5) nd rfl (.inl rfl) (by decide))) (fun _ _ _ _ _ => qtsnil) (fun _ _ _ _ _ => (qtup (qa_cons (qvar (i := 4) rfl (.inr (.inl rfl))) (qa_cons (qvar (i := 5) rfl (.inl rfl)) qa_nil)))))))))) (qcons (qwhile hp (qtcmp (op_neD hr.units) does_ne (qvar (i := 2) rfl (.inl rfl)) (qlst qa_nil)) (qone (qexpr (qmeth (i := 3) PySem.F.slot_list_append PySem.F.type_list_append mt_append does_append rfl (.inl rfl) (qa_cons (qmeth (i := 2) PySem.F.slot_list_pop PySem.F.type_list_pop mt_popAt does_pop rfl (.inl rfl) (qa_cons (qcall O__law_pick (hr.mono (by decide)) rfl g__law_pick F__law_pick.kp b__law_pick (fun σ => L2N.passAt tk σ) (qa_cons (qvar (i := 0) rfl (.inl rfl)) (qa_cons (qfnB call_len_seq does_len rfl f_len boot_len (qa_cons (qvar (i := 2) rfl (.inl rfl)) qa_nil)) qa_nil))) qa_nil)) qa_nil))))) (qone (qret (qvar (i := 3) rfl (.inl rfl)))))))
abbrev N__law_posed : List Str := ["b", "x", "y", "posture", "turn"]
theorem sc__law_posed : FnScope N__law_posed ["b", "x", "y", "posture"] (defScope s__law_posed) := ⟨rfl, rfl, rfl, by decide +kernel, rfl, by decide +kernel, by decide +kernel⟩
theorem ok__law_posed (X0 : K.In h) (G : h.Ns mainGlobals mg) (c : He.SaysD fa fn K) : ∃ fd, FunD K "_law_posed" "_law_posed" (defArgs s__law_posed) (defBody s__law_posed) (defScope s__law_posed) [] [] (He.ga K "_law_posed") fd ∧ FnOk P w K mg base (L2N.CX P w) 1 (He.ga K "_law_posed") fd ["b", "x", "y", "posture"] (spF K 4 m__law_posed) := by
  have f_range : mg "range" = none := He.free_ok X0 G (c.fact 48 rfl)
  obtain ⟨fd, F⟩ := c.def_ 25 (d := d__law_posed) rfl
  refine ⟨fd, F, fn_ok (k := 0) F sc__law_posed fun cdv A outer s H E hr B => ?_⟩
  have hp : PassesOwn (model P w) _ _ _ := passes_of (X := cxOf (L2N.CX P w) P w K mg base N__law_posed "_law_posed" (defScope s__law_posed) (He.ga K "_law_posed") cdv A outer s H E) (K := fun e s'' => L2N.CX P w outer H s E e s'') rfl
  have tk := L2N.takes_of (X := cxOf (L2N.CX P w) P w K mg base N__law_posed "_law_posed" (defScope s__law_posed) (He.ga K "_law_posed") cdv A outer s H E) (E := E) rfl rfl rfl rfl
  have nd := sc__law_posed.nd
  exact (qcons (qfor (ws := [4]) hp rfl (qir1 rfl f_range (qa_cons (qix (qvar (i := 3) rfl (.inl rfl)) qint) qa_nil)) (fun B => (qgn (i := 4) nd rfl (.inl rfl) (by decide))) (fun B => (qone (qpar2 (i := 1) (j := 2) rfl nd rfl rfl (by decide) rfl rfl (qa_cons (qop op_sub does_sub (qop op_sub does_sub (qvar (i := 0) rfl (.inl rfl)) qint) (qvar (i := 2) rfl (.inl rfl))) (qa_cons (qvar (i := 1) rfl (.inl rfl)) qa_nil)) (by rfl))))) (qone (qret (qifx (qtcmp (op_eqD hr.units) does_eq (qix (qvar (i := 3) rfl (.inl rfl)) qint) qint) (qtup (qa_cons (qvar (i := 2) rfl (.inl rfl)) (qa_cons (qvar (i := 1) rfl (.inl rfl)) qa_nil))) (qtup (qa_cons (qvar (i := 1) rfl (.inl rfl)) (qa_cons (qvar (i := 2) rfl (.inl rfl)) qa_nil)))))))
abbrev N__law_going : List Str := ["stock", "b", "kinds", "flip", "row", "x", "y", "across", "up", "part", "posture", "back", "left", "names", "found", "kind"]
theorem sc__law_going : FnScope N__law_going ["stock"] (defScope s__law_going) := ⟨rfl, rfl, rfl, by decide +kernel, rfl, by decide +kernel, by decide +kernel⟩
theorem ok__law_going (X0 : K.In h) (G : h.Ns mainGlobals mg) (c : He.SaysD fa fn K) : ∃ fd, FunD K "_law_going" "_law_going" (defArgs s__law_going) (defBody s__law_going) (defScope s__law_going) [] [] (He.ga K "_law_going") fd ∧ FnOk P w K mg base (L2N.CX P w) 2 (He.ga K "_law_going") fd ["stock"] (spF K 1 m__law_going) := by
  obtain ⟨fd__law_pick, F__law_pick, O__law_pick⟩ := ok__law_pick (P := P) (w := w) (base := base) X0 G c
  have b__law_pick : Binds K fd__law_pick ["stock", "many"] [] := F__law_pick.bindsN fun _ _ _ _ _ _ us hl => match us, hl with | [_, _], _ => rfl
  have g__law_pick : mg "_law_pick" = some (.ref (He.ga K "_law_pick")) := He.glo_ok X0 G (c.fact 21 rfl)
  obtain ⟨fd__law_posed, F__law_posed, O__law_posed⟩ := ok__law_posed (P := P) (w := w) (base := base) X0 G c
  have b__law_posed : Binds K fd__law_posed ["b", "x", "y", "posture"] [] := F__law_posed.bindsN fun _ _ _ _ _ _ us hl => match us, hl with | [_, _, _, _], _ => rfl
  have g__law_posed : mg "_law_posed" = some (.ref (He.ga K "_law_posed")) := He.glo_ok X0 G (c.fact 25 rfl)
  have f_int : mg "int" = none := He.free_ok X0 G (c.fact 42 rfl)
  have f_len : mg "len" = none := He.free_ok X0 G (c.fact 44 rfl)
  have f_range : mg "range" = none := He.free_ok X0 G (c.fact 48 rfl)
  have f_tuple : mg "tuple" = none := He.free_ok X0 G (c.fact 52 rfl)
  obtain ⟨fd, F⟩ := c.def_ 26 (d := d__law_going) rfl
  refine ⟨fd, F, fn_ok (k := 1) F sc__law_going fun cdv A outer s H E hr B => ?_⟩
  have hp : PassesOwn (model P w) _ _ _ := passes_of (X := cxOf (L2N.CX P w) P w K mg base N__law_going "_law_going" (defScope s__law_going) (He.ga K "_law_going") cdv A outer s H E) (K := fun e s'' => L2N.CX P w outer H s E e s'') rfl
  have tk := L2N.takes_of (X := cxOf (L2N.CX P w) P w K mg base N__law_going "_law_going" (defScope s__law_going) (He.ga K "_law_going") cdv A outer s H E) (E := E) rfl rfl rfl rfl
  have nd := sc__law_going.nd
  exact (qcons (qparT (is := [1, 2]) (gs := gsNames [1, 2]) rfl (qa_cons qint (qa_cons (qlst (qa_cons (qtup (qa_cons (qtup (qa_cons qint (qa_cons qint (qa_cons qint qa_nil)))) (qa_cons (qtup (qa_cons qint (qa_cons qint (qa_cons qint qa_nil)))) (qa_cons (qtup (qa_cons qint (qa_cons qint (qa_cons qint qa_nil)))) (qa_cons (qtup (qa_cons qint (qa_cons qint (qa_cons qint qa_nil)))) qa_nil))))) (qa_cons (qtup (qa_cons (qtup (qa_cons qint (qa_cons qint (qa_cons qint qa_nil)))) (qa_cons (qtup (qa_cons qint (qa_cons qint (qa_cons qint qa_nil)))) (qa_cons (qtup (qa_cons qint (qa_cons qint (qa_cons qint qa_nil)))) (qa_cons (qtup (qa_cons qint (qa_cons qint (qa_cons qint qa_nil)))) qa_nil))))) qa_nil))) qa_nil)) (pgs_cons (pg_name (i := 1) nd rfl (.inr rfl)) (pgs_cons (pg_name (i := 2) nd rfl (.inl rfl)) pgs_nil)) (gsNames_ok [1, 2]) (by decide)) (qcons (qset (i := 2) nd rfl (.inl rfl) (qop op_add4 does_add (qvar (i := 2) rfl (.inl rfl)) (qlst (qa_cons (qtup (qa_cons (qtup (qa_cons qint (qa_cons qint (qa_cons qint qa_nil)))) (qa_cons (qtup (qa_cons qint (qa_cons qint (qa_cons qint qa_nil)))) (qa_cons (qtup (qa_cons qint (qa_cons qint (qa_cons qint qa_nil)))) (qa_cons (qtup (qa_cons qint (qa_cons qint (qa_cons qint qa_nil)))) qa_nil))))) (qa_cons (qtup (qa_cons (qtup (qa_cons qint (qa_cons qint (qa_cons qint qa_nil)))) (qa_cons (qtup (qa_cons qint (qa_cons qint (qa_cons qint qa_nil)))) (qa_cons (qtup (qa_cons qint (qa_cons qint (qa_cons qint qa_nil)))) (qa_cons (qtup (qa_cons qint (qa_cons qint (qa_cons qint qa_nil)))) qa_nil))))) qa_nil))))) (qcons (qif (qtcmp (op_eqD hr.units) does_eq (qcall O__law_pick (hr.mono (by decide)) rfl g__law_pick F__law_pick.kp b__law_pick (fun σ => L2N.passAt tk σ) (qa_cons (qvar (i := 0) rfl (.inl rfl)) (qa_cons qint qa_nil))) qint) (qcons (qparT (is := [1, 2]) (gs := gsNames [1, 2]) rfl (qa_cons qint (qa_cons (qlst qa_nil) qa_nil)) (pgs_cons (pg_name (i := 1) nd rfl (.inr rfl)) (pgs_cons (pg_name (i := 2) nd rfl (.inl rfl)) pgs_nil)) (gsNames_ok [1, 2]) (by decide)) (qone (qfor (ws := [3]) hp rfl (qir1 rfl f_range (qa_cons qint qa_nil)) (fun B => (qgn (i := 3) nd rfl (.inl rfl) (by decide))) (fun B => (qcons (qset (i := 4) nd rfl (.inl rfl) (qlst qa_nil)) (qcons (qfor (ws := [5, 6]) hp rfl (qiof (qlst (qa_cons (qtup (qa_cons qint (qa_cons qint qa_nil))) (qa_cons (qtup (qa_cons qint (qa_cons qint qa_nil))) (qa_cons (qtup (qa_cons qint (qa_cons qint qa_nil))) (qa_cons (qtup (qa_cons qint (qa_cons qint qa_nil))) (qa_cons (qtup (qa_cons qint (qa_cons qint qa_nil))) (qa_cons (qtup (qa_cons qint (qa_cons qint qa_nil))) (qa_cons (qtup (qa_cons qint (qa_cons qint qa_nil))) (qa_cons (qtup (qa_cons qint (qa_cons qint qa_nil))) (qa_cons (qtup (qa_cons qint (qa_cons qint qa_nil))) qa_nil))))))))))) (fun B => (qgt rfl (qgscons (qgn (i := 5) nd rfl (.inl rfl) (by decide)) (qgscons (qgn (i := 6) nd rfl (.inl rfl) (by decide)) qgsnil)))) (fun B => (qcons (qpar2 (i := 7) (j := 8) rfl nd rfl rfl (by decide) rfl rfl (qa_cons (qop op_fdivW does_div (qvar (i := 3) rfl (.inl rfl)) qint) (qa_cons (qop op_mod does_mod (qfnT call_int1 does_int rfl f_int boot_int (qa_cons (qvar (i := 3) rfl (.inl rfl)) qa_nil)) qint) qa_nil)) (by rfl)) (qcons (qset (i := 9) nd rfl (.inl rfl) (qop op_add4 does_add (qop op_mulW does_mul qint (qop op_mod does_mod (qfnT call_int1 does_int rfl f_int boot_int (qa_cons (qop op_add4 does_add (qvar (i := 7) rfl (.inl rfl)) (qvar (i := 6) rfl (.inl rfl))) qa_nil)) qint)) (qop op_mod does_mod (qfnT call_int1 does_int rfl f_int boot_int (qa_cons (qop op_add4 does_add (qvar (i := 8) rfl (.inl rfl)) (qvar (i := 5) rfl (.inl rfl))) qa_nil)) qint))) (qone (qexpr (qmeth (i := 4) PySem.F.slot_list_append PySem.F.type_list_append mt_append does_append rfl (.inl rfl) (qa_cons (qtup (qa_cons (qifx (qtcmp (op_eqD hr.units) does_eq (qvar (i := 7) rfl (.inl rfl)) qint) (qop op_sub does_sub qint (qvar (i := 5) rfl (.inl rfl))) (qvar (i := 5) rfl (.inl rfl))) (qa_cons (qifx (qtcmp (op_eqD hr.units) does_eq (qvar (i := 8) rfl (.inl rfl)) qint) (qop op_sub does_sub qint (qvar (i := 6) rfl (.inl rfl))) (qvar (i := 6) rfl (.inl rfl))) (qa_cons (qvar (i := 9) rfl (.inl rfl)) qa_nil)))) qa_nil)))))))) (qone (qexpr (qmeth (i := 2) PySem.F.slot_list_append PySem.F.type_list_append mt_append does_append rfl (.inl rfl) (qa_cons (qfnT call_tuple_of does_tuple rfl f_tuple boot_tuple (qa_cons (qvar (i := 4) rfl (.inl rfl)) qa_nil)) qa_nil)))))))))) qnil) (qcons (qparT (is := [10, 11]) (gs := gsNames [10, 11]) rfl (qa_cons (qtup (qa_cons (qcall O__law_pick (hr.mono (by decide)) rfl g__law_pick F__law_pick.kp b__law_pick (fun σ => L2N.passAt tk σ) (qa_cons (qvar (i := 0) rfl (.inl rfl)) (qa_cons qint qa_nil))) (qa_cons (qcall O__law_pick (hr.mono (by decide)) rfl g__law_pick F__law_pick.kp b__law_pick (fun σ => L2N.passAt tk σ) (qa_cons (qvar (i := 0) rfl (.inl rfl)) (qa_cons qint qa_nil))) qa_nil))) (qa_cons (qcall O__law_pick (hr.mono (by decide)) rfl g__law_pick F__law_pick.kp b__law_pick (fun σ => L2N.passAt tk σ) (qa_cons (qvar (i := 0) rfl (.inl rfl)) (qa_cons qint qa_nil))) qa_nil)) (pgs_cons (pg_name (i := 10) nd rfl (.inr rfl)) (pgs_cons (pg_name (i := 11) nd rfl (.inl rfl)) pgs_nil)) (gsNames_ok [10, 11]) (by decide)) (qcons (qparT (is := [12, 13]) (gs := gsNames [12, 13]) rfl (qa_cons (qlst (qa_cons qint (qa_cons qint (qa_cons qint (qa_cons qint qa_nil))))) (qa_cons (qlst qa_nil) qa_nil)) (pgs_cons (pg_name (i := 12) nd rfl (.inl rfl)) (pgs_cons (pg_name (i := 13) nd rfl (.inr rfl)) pgs_nil)) (gsNames_ok [12, 13]) (by decide)) (qcons (qwhile hp (qtcmp (op_neD hr.units) does_ne (qvar (i := 12) rfl (.inl rfl)) (qlst qa_nil)) (qone (qexpr (qmeth (i := 13) PySem.F.slot_list_append PySem.F.type_list_append mt_append does_append rfl (.inr (.inl rfl)) (qa_cons (qmeth (i := 12) PySem.F.slot_list_pop PySem.F.type_list_pop mt_popAt does_pop rfl (.inl rfl) (qa_cons (qcall O__law_pick (hr.mono (by decide)) rfl g__law_pick F__law_pick.kp b__law_pick (fun σ => L2N.passAt tk σ) (qa_cons (qvar (i := 0) rfl (.inl rfl)) (qa_cons (qfnB call_len_seq does_len rfl f_len boot_len (qa_cons (qvar (i := 12) rfl (.inl rfl)) qa_nil)) qa_nil))) qa_nil)) qa_nil))))) (qcons (qset (i := 14) nd rfl (.inl rfl) (qrep (qlst (qa_cons (qtup qa_nil) qa_nil)) qint)) (qcons (qfor (ws := [15]) hp rfl (qir1 rfl f_range (qa_cons qint qa_nil)) (fun B => (qgn (i := 15) nd rfl (.inl rfl) (by decide))) (fun B => (qcons (qsetcomp (i := 4) (vs := [5, 6, 9]) rfl nd rfl rfl (sw_true rfl rfl rfl (by decide +kernel)) (qiof (qix (qvar (i := 2) rfl (.inl rfl)) (qvar (i := 15) rfl (.inl rfl)))) (blkOk_by (own := [("x", 5), ("y", 6), ("part", 9)]) (N := N__law_going) (sc := defScope s__law_going) (by decide +kernel)) (gok_t (gsok_cons (gok_n (by decide)) (gsok_cons (gok_n (by decide)) (gsok_cons (gok_n (by decide)) gsok_nil)))) rfl (fun _ _ _ _ _ B => (qgt rfl (qgscons (qgn (i := 5) nd rfl (.inl rfl) (by decide)) (qgscons (qgn (i := 6) nd rfl (.inl rfl) (by decide)) (qgscons (qgn (i := 9) nd rfl (.inl rfl) (by decide)) qgsnil))))) (fun _ _ _ _ _ => qtsnil) (fun _ _ _ _ _ => (qop op_add4 does_add (qcall O__law_posed (hr.mono (by decide)) rfl g__law_posed F__law_posed.kp b__law_posed (fun σ => L2N.passAt takesN0 σ) (qa_cons (qvar (i := 1) rfl (.inr (.inl rfl))) (qa_cons (qvar (i := 5) rfl (.inl rfl)) (qa_cons (qvar (i := 6) rfl (.inl rfl)) (qa_cons (qvar (i := 10) rfl (.inr (.inl rfl))) qa_nil))))) (qtup (qa_cons (qix (qvar (i := 13) rfl (.inr (.inl rfl))) (qvar (i := 9) rfl (.inl rfl))) qa_nil))))) (qone (qsetix (i := 14) rfl (.inl rfl) (qix (qvar (i := 13) rfl (.inr (.inl rfl))) (qvar (i := 15) rfl (.inl rfl))) (qfnT call_tuple_of does_tuple rfl f_tuple boot_tuple (qa_cons (qifx (qtcmp (op_eqD hr.units) does_eq (qvar (i := 11) rfl (.inl rfl)) qint) (qrev (qvar (i := 4) rfl (.inl rfl))) (qvar (i := 4) rfl (.inl rfl))) qa_nil))))))) (qone (qret (qtup (qa_cons (qvar (i := 1) rfl (.inr (.inl rfl))) (qa_cons (qfnT call_tuple_of does_tuple rfl f_tuple boot_tuple (qa_cons (qvar (i := 14) rfl (.inl rfl)) qa_nil)) qa_nil)))))))))))))
abbrev N__law_book : List Str := ["stock", "most", "way", "b", "found", "many", "kind", "kinds", "turn", "at", "x", "y", "part", "row"]
theorem sc__law_book : FnScope N__law_book ["stock", "most"] (defScope s__law_book) := ⟨rfl, rfl, rfl, by decide +kernel, rfl, by decide +kernel, by decide +kernel⟩
theorem ok__law_book (X0 : K.In h) (G : h.Ns mainGlobals mg) (c : He.SaysD fa fn K) : ∃ fd, FunD K "_law_book" "_law_book" (defArgs s__law_book) (defBody s__law_book) (defScope s__law_book) [] [] (He.ga K "_law_book") fd ∧ FnOk P w K mg base (L2N.CX P w) 3 (He.ga K "_law_book") fd ["stock", "most"] (spF K 2 m__law_book) := by
  obtain ⟨fd__law_pick, F__law_pick, O__law_pick⟩ := ok__law_pick (P := P) (w := w) (base := base) X0 G c
  have b__law_pick : Binds K fd__law_pick ["stock", "many"] [] := F__law_pick.bindsN fun _ _ _ _ _ _ us hl => match us, hl with | [_, _], _ => rfl
  have g__law_pick : mg "_law_pick" = some (.ref (He.ga K "_law_pick")) := He.glo_ok X0 G (c.fact 21 rfl)
  obtain ⟨fd__law_going, F__law_going, O__law_going⟩ := ok__law_going (P := P) (w := w) (base := base) X0 G c
  have b__law_going : Binds K fd__law_going ["stock"] [] := F__law_going.bindsN fun _ _ _ _ _ _ us hl => match us, hl with | [_], _ => rfl
  have g__law_going : mg "_law_going" = some (.ref (He.ga K "_law_going")) := He.glo_ok X0 G (c.fact 26 rfl)
  obtain ⟨fd__law_places, F__law_places, O__law_places⟩ := ok__law_places (P := P) (w := w) (base := base) X0 G c
  have b__law_places : Binds K fd__law_places ["stock", "b"] [] := F__law_places.bindsN fun _ _ _ _ _ _ us hl => match us, hl with | [_, _], _ => rfl
  have g__law_places : mg "_law_places" = some (.ref (He.ga K "_law_places")) := He.glo_ok X0 G (c.fact 24 rfl)
  have f_len : mg "len" = none := He.free_ok X0 G (c.fact 44 rfl)
  have f_range : mg "range" = none := He.free_ok X0 G (c.fact 48 rfl)
  have f_tuple : mg "tuple" = none := He.free_ok X0 G (c.fact 52 rfl)
  obtain ⟨fd, F⟩ := c.def_ 27 (d := d__law_book) rfl
  refine ⟨fd, F, fn_ok (k := 2) F sc__law_book fun cdv A outer s H E hr B => ?_⟩
  have hp : PassesOwn (model P w) _ _ _ := passes_of (X := cxOf (L2N.CX P w) P w K mg base N__law_book "_law_book" (defScope s__law_book) (He.ga K "_law_book") cdv A outer s H E) (K := fun e s'' => L2N.CX P w outer H s E e s'') rfl
  have tk := L2N.takes_of (X := cxOf (L2N.CX P w) P w K mg base N__law_book "_law_book" (defScope s__law_book) (He.ga K "_law_book") cdv A outer s H E) (E := E) rfl rfl rfl rfl
  have nd := sc__law_book.nd
  exact (qcons (qset (i := 2) nd rfl (.inl rfl) (qcall O__law_pick (hr.mono (by decide)) rfl g__law_pick F__law_pick.kp b__law_pick (fun σ => L2N.passAt tk σ) (qa_cons (qvar (i := 0) rfl (.inr (.inl rfl))) (qa_cons qint qa_nil)))) (qcons (qif (qtcmp (op_eqD hr.units) does_eq (qvar (i := 2) rfl (.inl rfl)) qint) (qcons (qpar2 (i := 3) (j := 4) rfl nd rfl rfl (by decide) rfl rfl (qa_cons (qix (qlst (qa_cons qint (qa_cons qint (qa_cons qint qa_nil)))) (qcall O__law_pick (hr.mono (by decide)) rfl g__law_pick F__law_pick.kp b__law_pick (fun σ => L2N.passAt tk σ) (qa_cons (qvar (i := 0) rfl (.inr (.inl rfl))) (qa_cons qint qa_nil)))) (qa_cons (qlst qa_nil) qa_nil)) (by rfl)) (qcons (qset (i := 5) nd rfl (.inr rfl) (qop op_add4 does_add qint (qcall O__law_pick (hr.mono (by decide)) rfl g__law_pick F__law_pick.kp b__law_pick (fun σ => L2N.passAt tk σ) (qa_cons (qvar (i := 0) rfl (.inr (.inl rfl))) (qa_cons (qvar (i := 1) rfl (.inl rfl)) qa_nil))))) (qcons (qfor (ws := [6]) hp rfl (qir1 rfl f_range (qa_cons (qvar (i := 5) rfl (.inr (.inl rfl))) qa_nil)) (fun B => (qgn (i := 6) nd rfl (.inl rfl) (by decide))) (fun B => (qone (qexpr (qmeth (i := 4) PySem.F.slot_list_append PySem.F.type_list_append mt_append does_append rfl (.inl rfl) (qa_cons (qfnT call_tuple_of does_tuple rfl f_tuple boot_tuple (qa_cons (qcomp (vs := [10, 11]) rfl nd (qiof (qcall O__law_places (hr.mono (by decide)) rfl g__law_places F__law_places.kp b__law_places (fun σ => L2N.passAt tk σ) (qa_cons (qvar (i := 0) rfl (.inr (.inl rfl))) (qa_cons (qvar (i := 3) rfl (.inl rfl)) qa_nil)))) (blkOk_by (own := [("x", 10), ("y", 11)]) (N := N__law_book) (sc := defScope s__law_book) (by decide +kernel)) (gok_t (gsok_cons (gok_n (by decide)) (gsok_cons (gok_n (by decide)) gsok_nil))) rfl (fun _ _ _ _ _ B => (qgt rfl (qgscons (qgn (i := 10) nd rfl (.inl rfl) (by decide)) (qgscons (qgn (i := 11) nd rfl (.inl rfl) (by decide)) qgsnil)))) (fun _ _ _ _ _ => qtsnil) (fun _ _ _ _ _ => (qtup (qa_cons (qvar (i := 10) rfl (.inl rfl)) (qa_cons (qvar (i := 11) rfl (.inl rfl)) (qa_cons (qcall O__law_pick (hr.mono (by decide)) rfl g__law_pick F__law_pick.kp b__law_pick (fun σ => L2N.passAt takesN0 σ) (qa_cons (qvar (i := 0) rfl (.inr (.inl rfl))) (qa_cons (qvar (i := 5) rfl (.inr (.inl rfl))) qa_nil))) qa_nil)))))) qa_nil)) qa_nil)))))) (qone (qret (qtup (qa_cons (qvar (i := 3) rfl (.inl rfl)) (qa_cons (qfnT call_tuple_of does_tuple rfl f_tuple boot_tuple (qa_cons (qvar (i := 4) rfl (.inl rfl)) qa_nil)) qa_nil)))))))) qnil) (qcons (qasg (ws := [3, 7]) (qcall O__law_going (hr.mono (by decide)) rfl g__law_going F__law_going.kp b__law_going (fun σ => L2N.passAt tk σ) (qa_cons (qvar (i := 0) rfl (.inr (.inl rfl))) qa_nil)) (qgt rfl (qgscons (qgn (i := 3) nd rfl (.inl rfl) (by decide)) (qgscons (qgn (i := 7) nd rfl (.inr rfl) (by decide)) qgsnil)))) (qcons (qif (qtcmp (op_eqD hr.units) does_eq (qvar (i := 2) rfl (.inl rfl)) qint) (qone (qret (qtup (qa_cons (qvar (i := 3) rfl (.inl rfl)) (qa_cons (qvar (i := 7) rfl (.inr (.inl rfl))) qa_nil))))) qnil) (qcons (qfor (ws := [8]) hp rfl (qir1 rfl f_range (qa_cons (qop op_add4 does_add qint (qcall O__law_pick (hr.mono (by decide)) rfl g__law_pick F__law_pick.kp b__law_pick (fun σ => L2N.passAt tk σ) (qa_cons (qvar (i := 0) rfl (.inr (.inl rfl))) (qa_cons qint qa_nil)))) qa_nil)) (fun B => (qgn (i := 8) nd rfl (.inl rfl) (by decide))) (fun B => (qcons (qpar2 (i := 6) (j := 9) rfl nd rfl rfl (by decide) rfl rfl (qa_cons (qcall O__law_pick (hr.mono (by decide)) rfl g__law_pick F__law_pick.kp b__law_pick (fun σ => L2N.passAt tk σ) (qa_cons (qvar (i := 0) rfl (.inr (.inl rfl))) (qa_cons qint qa_nil))) (qa_cons (qcall O__law_pick (hr.mono (by decide)) rfl g__law_pick F__law_pick.kp b__law_pick (fun σ => L2N.passAt tk σ) (qa_cons (qvar (i := 0) rfl (.inr (.inl rfl))) (qa_cons (qop op_mulW does_mul (qvar (i := 3) rfl (.inl rfl)) (qvar (i := 3) rfl (.inl rfl))) qa_nil))) qa_nil)) (by rfl)) (qcons (qasg (ws := [10, 11, 12]) (qix (qix (qvar (i := 7) rfl (.inr (.inl rfl))) (qvar (i := 6) rfl (.inl rfl))) (qvar (i := 9) rfl (.inl rfl))) (qgt rfl (qgscons (qgn (i := 10) nd rfl (.inl rfl) (by decide)) (qgscons (qgn (i := 11) nd rfl (.inl rfl) (by decide)) (qgscons (qgn (i := 12) nd rfl (.inl rfl) (by decide)) qgsnil))))) (qcons (qset (i := 13) nd rfl (.inl rfl) (qop op_add4 does_add (qop op_add4 does_add (qsl (qix (qvar (i := 7) rfl (.inr (.inl rfl))) (qvar (i := 6) rfl (.inl rfl))) qpn (qps (qvar (i := 9) rfl (.inl rfl)))) (qtup (qa_cons (qtup (qa_cons (qvar (i := 10) rfl (.inl rfl)) (qa_cons (qvar (i := 11) rfl (.inl rfl)) (qa_cons (qcall O__law_pick (hr.mono (by decide)) rfl g__law_pick F__law_pick.kp b__law_pick (fun σ => L2N.passAt tk σ) (qa_cons (qvar (i := 0) rfl (.inr (.inl rfl))) (qa_cons qint qa_nil))) qa_nil)))) qa_nil))) (qsl (qix (qvar (i := 7) rfl (.inr (.inl rfl))) (qvar (i := 6) rfl (.inl rfl))) (qps (qop op_add4 does_add (qvar (i := 9) rfl (.inl rfl)) qint)) qpn))) (qone (qset (i := 7) nd rfl (.inr rfl) (qop op_add4 does_add (qop op_add4 does_add (qsl (qvar (i := 7) rfl (.inr (.inl rfl))) qpn (qps (qvar (i := 6) rfl (.inl rfl)))) (qtup (qa_cons (qvar (i := 13) rfl (.inl rfl)) qa_nil))) (qsl (qvar (i := 7) rfl (.inr (.inl rfl))) (qps (qop op_add4 does_add (qvar (i := 6) rfl (.inl rfl)) qint)) qpn))))))))) (qcons (qfor (ws := [8]) hp rfl (qir1 rfl f_range (qa_cons (qifx (qtcmp (op_eqD hr.units) does_eq (qvar (i := 2) rfl (.inl rfl)) qint) (qcall O__law_pick (hr.mono (by decide)) rfl g__law_pick F__law_pick.kp b__law_pick (fun σ => L2N.passAt tk σ) (qa_cons (qvar (i := 0) rfl (.inr (.inl rfl))) (qa_cons (qop op_sub does_sub (qvar (i := 1) rfl (.inl rfl)) qint) qa_nil))) qint) qa_nil)) (fun B => (qgn (i := 8) nd rfl (.inl rfl) (by decide))) (fun B => (qcons (qset (i := 13) nd rfl (.inl rfl) (qix (qvar (i := 7) rfl (.inr (.inl rfl))) (qcall O__law_pick (hr.mono (by decide)) rfl g__law_pick F__law_pick.kp b__law_pick (fun σ => L2N.passAt tk σ) (qa_cons (qvar (i := 0) rfl (.inr (.inl rfl))) (qa_cons (qfnB call_len_seq does_len rfl f_len boot_len (qa_cons (qvar (i := 7) rfl (.inr (.inl rfl))) qa_nil)) qa_nil))))) (qone (qset (i := 7) nd rfl (.inr rfl) (qop op_add4 does_add (qvar (i := 7) rfl (.inr (.inl rfl))) (qtup (qa_cons (qfnT call_tuple_of does_tuple rfl f_tuple boot_tuple (qa_cons (qcomp (vs := [10, 11, 12]) rfl nd (qiof (qvar (i := 13) rfl (.inl rfl))) (blkOk_by (own := [("x", 10), ("y", 11), ("part", 12)]) (N := N__law_book) (sc := defScope s__law_book) (by decide +kernel)) (gok_t (gsok_cons (gok_n (by decide)) (gsok_cons (gok_n (by decide)) (gsok_cons (gok_n (by decide)) gsok_nil)))) rfl (fun _ _ _ _ _ B => (qgt rfl (qgscons (qgn (i := 10) nd rfl (.inl rfl) (by decide)) (qgscons (qgn (i := 11) nd rfl (.inl rfl) (by decide)) (qgscons (qgn (i := 12) nd rfl (.inl rfl) (by decide)) qgsnil))))) (fun _ _ _ _ _ => qtsnil) (fun _ _ _ _ _ => (qtup (qa_cons (qvar (i := 10) rfl (.inl rfl)) (qa_cons (qvar (i := 11) rfl (.inl rfl)) (qa_cons (qcall O__law_pick (hr.mono (by decide)) rfl g__law_pick F__law_pick.kp b__law_pick (fun σ => L2N.passAt takesN0 σ) (qa_cons (qvar (i := 0) rfl (.inr (.inl rfl))) (qa_cons (qop op_add4 does_add (qfnB call_len_seq does_len rfl f_len boot_len (qa_cons (qvar (i := 7) rfl (.inr (.inl rfl))) qa_nil)) qint) qa_nil))) qa_nil)))))) qa_nil)) qa_nil)))))))) (qone (qret (qtup (qa_cons (qvar (i := 3) rfl (.inl rfl)) (qa_cons (qvar (i := 7) rfl (.inr (.inl rfl))) qa_nil)))))))))))
abbrev N__law_field : List Str := ["stock", "most", "kinds", "book", "many", "squares", "taken", "x", "y", "near", "turn", "ways", "way"]
theorem sc__law_field : FnScope N__law_field ["stock", "most", "kinds"] (defScope s__law_field) := ⟨rfl, rfl, rfl, by decide +kernel, rfl, by decide +kernel, by decide +kernel⟩
theorem ok__law_field (X0 : K.In h) (G : h.Ns mainGlobals mg) (c : He.SaysD fa fn K) : ∃ fd, FunD K "_law_field" "_law_field" (defArgs s__law_field) (defBody s__law_field) (defScope s__law_field) [] [] (He.ga K "_law_field") fd ∧ FnOk P w K mg base (L2N.CX P w) 4 (He.ga K "_law_field") fd ["stock", "most", "kinds"] (spF K 3 m__law_field) := by
  obtain ⟨fd__law_book, F__law_book, O__law_book⟩ := ok__law_book (P := P) (w := w) (base := base) X0 G c
  have b__law_book : Binds K fd__law_book ["stock", "most"] [] := F__law_book.bindsN fun _ _ _ _ _ _ us hl => match us, hl with | [_, _], _ => rfl
  have g__law_book : mg "_law_book" = some (.ref (He.ga K "_law_book")) := He.glo_ok X0 G (c.fact 27 rfl)
  obtain ⟨fd__law_pick, F__law_pick, O__law_pick⟩ := ok__law_pick (P := P) (w := w) (base := base) X0 G c
  have b__law_pick : Binds K fd__law_pick ["stock", "many"] [] := F__law_pick.bindsN fun _ _ _ _ _ _ us hl => match us, hl with | [_, _], _ => rfl
  have g__law_pick : mg "_law_pick" = some (.ref (He.ga K "_law_pick")) := He.glo_ok X0 G (c.fact 21 rfl)
  have f_len : mg "len" = none := He.free_ok X0 G (c.fact 44 rfl)
  have f_max : mg "max" = none := He.free_ok X0 G (c.fact 46 rfl)
  have f_min : mg "min" = none := He.free_ok X0 G (c.fact 47 rfl)
  have f_range : mg "range" = none := He.free_ok X0 G (c.fact 48 rfl)
  have f_tuple : mg "tuple" = none := He.free_ok X0 G (c.fact 52 rfl)
  obtain ⟨fd, F⟩ := c.def_ 29 (d := d__law_field) rfl
  refine ⟨fd, F, fn_ok (k := 3) F sc__law_field fun cdv A outer s H E hr B => ?_⟩
  have hp : PassesOwn (model P w) _ _ _ := passes_of (X := cxOf (L2N.CX P w) P w K mg base N__law_field "_law_field" (defScope s__law_field) (He.ga K "_law_field") cdv A outer s H E) (K := fun e s'' => L2N.CX P w outer H s E e s'') rfl
  have tk := L2N.takes_of (X := cxOf (L2N.CX P w) P w K mg base N__law_field "_law_field" (defScope s__law_field) (He.ga K "_law_field") cdv A outer s H E) (E := E) rfl rfl rfl rfl
  have nd := sc__law_field.nd
  exact (qcons (qset (i := 3) nd rfl (.inl rfl) (qcall O__law_book (hr.mono (by decide)) rfl g__law_book F__law_book.kp b__law_book (fun σ => L2N.passAt tk σ) (qa_cons (qvar (i := 0) rfl (.inl rfl)) (qa_cons (qvar (i := 2) rfl (.inl rfl)) qa_nil)))) (qcons (qparT (is := [4, 5, 6]) (gs := gsNames [4, 5, 6]) rfl (qa_cons (qop op_add4 does_add qint (qcall O__law_pick (hr.mono (by decide)) rfl g__law_pick F__law_pick.kp b__law_pick (fun σ => L2N.passAt tk σ) (qa_cons (qvar (i := 0) rfl (.inl rfl)) (qa_cons (qvar (i := 1) rfl (.inl rfl)) qa_nil)))) (qa_cons (qlst qa_nil) (qa_cons qmnew qa_nil))) (pgs_cons (pg_name (i := 4) nd rfl (.inl rfl)) (pgs_cons (pg_name (i := 5) nd rfl (.inl rfl)) (pgs_cons (pg_name (i := 6) nd rfl (.inr rfl)) pgs_nil))) (gsNames_ok [4, 5, 6]) (by decide)) (qcons (qpar3 (i := 7) (j := 8) (l := 9) rfl nd rfl rfl rfl (by decide) (by decide) (by decide) rfl rfl rfl (qa_cons (qcall O__law_pick (hr.mono (by decide)) rfl g__law_pick F__law_pick.kp b__law_pick (fun σ => L2N.passAt tk σ) (qa_cons (qvar (i := 0) rfl (.inl rfl)) (qa_cons qint qa_nil))) (qa_cons (qcall O__law_pick (hr.mono (by decide)) rfl g__law_pick F__law_pick.kp b__law_pick (fun σ => L2N.passAt tk σ) (qa_cons (qvar (i := 0) rfl (.inl rfl)) (qa_cons qint qa_nil))) (qa_cons (qcmp op_gt does_gt (qcall O__law_pick (hr.mono (by decide)) rfl g__law_pick F__law_pick.kp b__law_pick (fun σ => L2N.passAt tk σ) (qa_cons (qvar (i := 0) rfl (.inl rfl)) (qa_cons qint qa_nil))) qint) qa_nil))) (by rfl)) (qcons (qfor (ws := [10]) hp rfl (qir1 rfl f_range (qa_cons (qvar (i := 4) rfl (.inl rfl)) qa_nil)) (fun B => (qgn (i := 10) nd rfl (.inl rfl) (by decide))) (fun B => (qcons (qif (QW.t (qw_and (qtval (qvar (i := 9) rfl (.inl rfl))) (qw_and1 (qtcmp op_gt does_gt (qvar (i := 10) rfl (.inl rfl)) qint)))) (qcons (qset (i := 11) nd rfl (.inl rfl) (qlst (qa_cons (qtup (qa_cons (qop op_add4 does_add (qvar (i := 7) rfl (.inl rfl)) qint) (qa_cons (qvar (i := 8) rfl (.inl rfl)) qa_nil))) (qa_cons (qtup (qa_cons (qop op_sub does_sub (qvar (i := 7) rfl (.inl rfl)) qint) (qa_cons (qvar (i := 8) rfl (.inl rfl)) qa_nil))) (qa_cons (qtup (qa_cons (qvar (i := 7) rfl (.inl rfl)) (qa_cons (qop op_add4 does_add (qvar (i := 8) rfl (.inl rfl)) qint) qa_nil))) (qa_cons (qtup (qa_cons (qvar (i := 7) rfl (.inl rfl)) (qa_cons (qop op_sub does_sub (qvar (i := 8) rfl (.inl rfl)) qint) qa_nil))) qa_nil)))))) (qcons (qsetcomp (i := 11) (vs := [12]) rfl nd rfl rfl (sw_true rfl rfl rfl (by decide +kernel)) (qiof (qvar (i := 11) rfl (.inl rfl))) (blkOk_by (own := [("way", 12)]) (N := N__law_field) (sc := defScope s__law_field) (by decide +kernel)) (gok_n (by decide)) rfl (fun _ _ _ _ _ B => (qgn (i := 12) nd rfl (.inl rfl) (by decide))) (fun _ _ _ _ _ => (qtsone (QW.t (qw_and (qtmnotin (i := 6) (units1 hr) rfl (.inr (.inl rfl)) (qvar (i := 12) rfl (.inl rfl))) (qw_and (qtcmp op_ge does_ge (qfnB (cr_minT hr) does_minT rfl f_min boot_min (qa_cons (qvar (i := 12) rfl (.inl rfl)) qa_nil)) qint) (qw_and1 (qtcmp op_le does_le (qfnB (cr_maxT hr) does_maxT rfl f_max boot_max (qa_cons (qvar (i := 12) rfl (.inl rfl)) qa_nil)) qint))))))) (fun _ _ _ _ _ => (qvar (i := 12) rfl (.inl rfl)))) (qcons (qif (qtcmp (op_eqD hr.units) does_eq (qvar (i := 11) rfl (.inl rfl)) (qlst qa_nil)) (qone (qret (qtup (qa_cons (qvar (i := 3) rfl (.inl rfl)) (qa_cons (qfnT call_tuple_of does_tuple rfl f_tuple boot_tuple (qa_cons (qvar (i := 5) rfl (.inl rfl)) qa_nil)) qa_nil))))) qnil) (qone (qasg (ws := [7, 8]) (qix (qvar (i := 11) rfl (.inl rfl)) (qcall O__law_pick (hr.mono (by decide)) rfl g__law_pick F__law_pick.kp b__law_pick (fun σ => L2N.passAt tk σ) (qa_cons (qvar (i := 0) rfl (.inl rfl)) (qa_cons (qfnB call_len_seq does_len rfl f_len boot_len (qa_cons (qvar (i := 11) rfl (.inl rfl)) qa_nil)) qa_nil)))) (qgt rfl (qgscons (qgn (i := 7) nd rfl (.inl rfl) (by decide)) (qgscons (qgn (i := 8) nd rfl (.inl rfl) (by decide)) qgsnil)))))))) (qone (qif (qtcmp op_gt does_gt (qvar (i := 10) rfl (.inl rfl)) qint) (qone (qpar2 (i := 7) (j := 8) rfl nd rfl rfl (by decide) rfl rfl (qa_cons (qcall O__law_pick (hr.mono (by decide)) rfl g__law_pick F__law_pick.kp b__law_pick (fun σ => L2N.passAt tk σ) (qa_cons (qvar (i := 0) rfl (.inl rfl)) (qa_cons qint qa_nil))) (qa_cons (qcall O__law_pick (hr.mono (by decide)) rfl g__law_pick F__law_pick.kp b__law_pick (fun σ => L2N.passAt tk σ) (qa_cons (qvar (i := 0) rfl (.inl rfl)) (qa_cons qint qa_nil))) qa_nil)) (by rfl))) qnil))) (qcons (qif (qtmnotin (i := 6) (units1 hr) rfl (.inr (.inl rfl)) (qtup (qa_cons (qvar (i := 7) rfl (.inl rfl)) (qa_cons (qvar (i := 8) rfl (.inl rfl)) qa_nil)))) (qone (qexpr (qmeth (i := 5) PySem.F.slot_list_append PySem.F.type_list_append mt_append does_append rfl (.inl rfl) (qa_cons (qtup (qa_cons (qvar (i := 7) rfl (.inl rfl)) (qa_cons (qvar (i := 8) rfl (.inl rfl)) (qa_cons (qifx (qtcmp (op_eqD hr.units) does_eq (qcall O__law_pick (hr.mono (by decide)) rfl g__law_pick F__law_pick.kp b__law_pick (fun σ => L2N.passAt tk σ) (qa_cons (qvar (i := 0) rfl (.inl rfl)) (qa_cons qint qa_nil))) qint) (qcall O__law_pick (hr.mono (by decide)) rfl g__law_pick F__law_pick.kp b__law_pick (fun σ => L2N.passAt tk σ) (qa_cons (qvar (i := 0) rfl (.inl rfl)) (qa_cons (qfnB call_len_seq does_len rfl f_len boot_len (qa_cons (qix (qvar (i := 3) rfl (.inl rfl)) qint) qa_nil)) qa_nil))) qint) qa_nil)))) qa_nil)))) qnil) (qone (qmput (i := 6) (units1 hr) rfl (.inr (.inl rfl)) (qtup (qa_cons (qvar (i := 7) rfl (.inl rfl)) (qa_cons (qvar (i := 8) rfl (.inl rfl)) qa_nil))) qbl)))))) (qone (qret (qtup (qa_cons (qvar (i := 3) rfl (.inl rfl)) (qa_cons (qfnT call_tuple_of does_tuple rfl f_tuple boot_tuple (qa_cons (qvar (i := 5) rfl (.inl rfl)) qa_nil)) qa_nil)))))))))
abbrev N__law_cell_at : List Str := ["book", "kind", "d", "number", "b", "kinds", "x", "y", "cells", "turn", "across", "up"]
theorem sc__law_cell_at : FnScope N__law_cell_at ["book", "kind", "d", "number"] (defScope s__law_cell_at) := ⟨rfl, rfl, rfl, by decide +kernel, rfl, by decide +kernel, by decide +kernel⟩
theorem ok__law_cell_at (X0 : K.In h) (G : h.Ns mainGlobals mg) (c : He.SaysD fa fn K) : ∃ fd, FunD K "_law_cell_at" "_law_cell_at" (defArgs s__law_cell_at) (defBody s__law_cell_at) (defScope s__law_cell_at) [] [] (He.ga K "_law_cell_at") fd ∧ FnOk P w K mg base (L2N.CX P w) 1 (He.ga K "_law_cell_at") fd ["book", "kind", "d", "number"] (spF K 4 m__law_cell_at) := by
  have f_int : mg "int" = none := He.free_ok X0 G (c.fact 42 rfl)
  have f_range : mg "range" = none := He.free_ok X0 G (c.fact 48 rfl)
  obtain ⟨fd, F⟩ := c.def_ 31 (d := d__law_cell_at) rfl
  refine ⟨fd, F, fn_ok (k := 0) F sc__law_cell_at fun cdv A outer s H E hr B => ?_⟩
  have hp : PassesOwn (model P w) _ _ _ := passes_of (X := cxOf (L2N.CX P w) P w K mg base N__law_cell_at "_law_cell_at" (defScope s__law_cell_at) (He.ga K "_law_cell_at") cdv A outer s H E) (K := fun e s'' => L2N.CX P w outer H s E e s'') rfl
  have tk := L2N.takes_of (X := cxOf (L2N.CX P w) P w K mg base N__law_cell_at "_law_cell_at" (defScope s__law_cell_at) (He.ga K "_law_cell_at") cdv A outer s H E) (E := E) rfl rfl rfl rfl
  have nd := sc__law_cell_at.nd
  exact (qcons (qasg (ws := [4, 5]) (qvar (i := 0) rfl (.inl rfl)) (qgt rfl (qgscons (qgn (i := 4) nd rfl (.inl rfl) (by decide)) (qgscons (qgn (i := 5) nd rfl (.inl rfl) (by decide)) qgsnil)))) (qcons (qparT (is := [6, 7, 8]) (gs := gsNames [6, 7, 8]) rfl (qa_cons qint (qa_cons qint (qa_cons qint qa_nil))) (pgs_cons (pg_name (i := 6) nd rfl (.inl rfl)) (pgs_cons (pg_name (i := 7) nd rfl (.inl rfl)) (pgs_cons (pg_name (i := 8) nd rfl (.inl rfl)) pgs_nil))) (gsNames_ok [6, 7, 8]) (by decide)) (qcons (qfor (ws := [9]) hp rfl (qir1 rfl f_range (qa_cons (qvar (i := 2) rfl (.inl rfl)) qa_nil)) (fun B => (qgn (i := 9) nd rfl (.inl rfl) (by decide))) (fun B => (qone (qset (i := 8) nd rfl (.inl rfl) (qop op_mulW does_mul (qop op_mulW does_mul (qvar (i := 8) rfl (.inl rfl)) (qvar (i := 4) rfl (.inl rfl))) (qvar (i := 4) rfl (.inl rfl))))))) (qcons (qfor (ws := [9]) hp rfl (qir1 rfl f_range (qa_cons (qvar (i := 2) rfl (.inl rfl)) qa_nil)) (fun B => (qgn (i := 9) nd rfl (.inl rfl) (by decide))) (fun B => (qcons (qset (i := 8) nd rfl (.inl rfl) (qop op_fdivW does_div (qvar (i := 8) rfl (.inl rfl)) (qop op_mulW does_mul (qvar (i := 4) rfl (.inl rfl)) (qvar (i := 4) rfl (.inl rfl))))) (qcons (qasg (ws := [10, 11, 1]) (qix (qix (qvar (i := 5) rfl (.inl rfl)) (qvar (i := 1) rfl (.inl rfl))) (qop op_fdivW does_div (qvar (i := 3) rfl (.inl rfl)) (qvar (i := 8) rfl (.inl rfl)))) (qgt rfl (qgscons (qgn (i := 10) nd rfl (.inl rfl) (by decide)) (qgscons (qgn (i := 11) nd rfl (.inl rfl) (by decide)) (qgscons (qgn (i := 1) nd rfl (.inl rfl) (by decide)) qgsnil))))) (qone (qpar3 (i := 6) (j := 7) (l := 3) rfl nd rfl rfl rfl (by decide) (by decide) (by decide) rfl rfl rfl (qa_cons (qop op_add4 does_add (qop op_mulW does_mul (qvar (i := 6) rfl (.inl rfl)) (qvar (i := 4) rfl (.inl rfl))) (qvar (i := 10) rfl (.inl rfl))) (qa_cons (qop op_add4 does_add (qop op_mulW does_mul (qvar (i := 7) rfl (.inl rfl)) (qvar (i := 4) rfl (.inl rfl))) (qvar (i := 11) rfl (.inl rfl))) (qa_cons (qop op_mod does_mod (qfnT call_int1 does_int rfl f_int boot_int (qa_cons (qvar (i := 3) rfl (.inl rfl)) qa_nil)) (qvar (i := 8) rfl (.inl rfl))) qa_nil))) (by rfl))))))) (qone (qret (qtup (qa_cons (qvar (i := 6) rfl (.inl rfl)) (qa_cons (qvar (i := 7) rfl (.inl rfl)) qa_nil)))))))))
abbrev N__law_whole : List Str := ["value", "many"]
theorem sc__law_whole : FnScope N__law_whole ["value", "many"] (defScope s__law_whole) := ⟨rfl, rfl, rfl, by decide +kernel, rfl, by decide +kernel, by decide +kernel⟩
theorem ok__law_whole (X0 : K.In h) (G : h.Ns mainGlobals mg) (c : He.SaysD fa fn K) : ∃ fd, FunD K "_law_whole" "_law_whole" (defArgs s__law_whole) (defBody s__law_whole) (defScope s__law_whole) [] [] (He.ga K "_law_whole") fd ∧ FnOk P w K mg base (L2N.CX P w) 1 (He.ga K "_law_whole") fd ["value", "many"] (spF K 2 m__law_whole) := by
  have f_bool : mg "bool" = none := He.free_ok X0 G (c.fact 40 rfl)
  have f_int : mg "int" = none := He.free_ok X0 G (c.fact 42 rfl)
  have f_isinstance : mg "isinstance" = none := He.free_ok X0 G (c.fact 43 rfl)
  obtain ⟨fd, F⟩ := c.def_ 32 (d := d__law_whole) rfl
  refine ⟨fd, F, fn_ok (k := 0) F sc__law_whole fun cdv A outer s H E hr B => ?_⟩
  have hp : PassesOwn (model P w) _ _ _ := passes_of (X := cxOf (L2N.CX P w) P w K mg base N__law_whole "_law_whole" (defScope s__law_whole) (He.ga K "_law_whole") cdv A outer s H E) (K := fun e s'' => L2N.CX P w outer H s E e s'') rfl
  have tk := L2N.takes_of (X := cxOf (L2N.CX P w) P w K mg base N__law_whole "_law_whole" (defScope s__law_whole) (He.ga K "_law_whole") cdv A outer s H E) (E := E) rfl rfl rfl rfl
  have nd := sc__law_whole.nd
  exact (qone (qret (qand (qisi k_int rfl f_isinstance rfl f_int boot_int (qvar (i := 0) rfl (.inl rfl))) (qand (qnot (qisi k_bool rfl f_isinstance rfl f_bool boot_bool (qvar (i := 0) rfl (.inl rfl)))) (qone_ (qchn op_le op_lt does_le does_lt qint (qvar (i := 0) rfl (.inl rfl)) (qvar (i := 1) rfl (.inl rfl))))))))
abbrev N__law_triples : List Str := ["item", "most", "many", "one"]
theorem sc__law_triples : FnScope N__law_triples ["item", "most", "many"] (defScope s__law_triples) := ⟨rfl, rfl, rfl, by decide +kernel, rfl, by decide +kernel, by decide +kernel⟩
theorem ok__law_triples (X0 : K.In h) (G : h.Ns mainGlobals mg) (c : He.SaysD fa fn K) : ∃ fd, FunD K "_law_triples" "_law_triples" (defArgs s__law_triples) (defBody s__law_triples) (defScope s__law_triples) [] [] (He.ga K "_law_triples") fd ∧ FnOk P w K mg base (L2N.CX P w) 2 (He.ga K "_law_triples") fd ["item", "most", "many"] (spF K 3 m__law_triples) := by
  obtain ⟨fd__law_whole, F__law_whole, O__law_whole⟩ := ok__law_whole (P := P) (w := w) (base := base) X0 G c
  have b__law_whole : Binds K fd__law_whole ["value", "many"] [] := F__law_whole.bindsN fun _ _ _ _ _ _ us hl => match us, hl with | [_, _], _ => rfl
  have g__law_whole : mg "_law_whole" = some (.ref (He.ga K "_law_whole")) := He.glo_ok X0 G (c.fact 32 rfl)
  have f_isinstance : mg "isinstance" = none := He.free_ok X0 G (c.fact 43 rfl)
  have f_len : mg "len" = none := He.free_ok X0 G (c.fact 44 rfl)
  have f_set : mg "set" = none := He.free_ok X0 G (c.fact 50 rfl)
  have f_tuple : mg "tuple" = none := He.free_ok X0 G (c.fact 52 rfl)
  obtain ⟨fd, F⟩ := c.def_ 33 (d := d__law_triples) rfl
  refine ⟨fd, F, fn_ok (k := 1) F sc__law_triples fun cdv A outer s H E hr B => ?_⟩
  have hp : PassesOwn (model P w) _ _ _ := passes_of (X := cxOf (L2N.CX P w) P w K mg base N__law_triples "_law_triples" (defScope s__law_triples) (He.ga K "_law_triples") cdv A outer s H E) (K := fun e s'' => L2N.CX P w outer H s E e s'') rfl
  have tk := L2N.takes_of (X := cxOf (L2N.CX P w) P w K mg base N__law_triples "_law_triples" (defScope s__law_triples) (He.ga K "_law_triples") cdv A outer s H E) (E := E) rfl rfl rfl rfl
  have nd := sc__law_triples.nd
  exact (qcons (qif (qtnot (qtval (qisi k_tuple rfl f_isinstance rfl f_tuple boot_tuple (qvar (i := 0) rfl (.inl rfl))))) (qone (qret qbl)) qnil) (qcons (qfor (ws := [3]) hp rfl (qiof (qvar (i := 0) rfl (.inl rfl))) (fun B => (qgn (i := 3) nd rfl (.inl rfl) (by decide))) (fun B => (qcons (qif (QW.t (qw_or (qtnot (qtval (qisi k_tuple rfl f_isinstance rfl f_tuple boot_tuple (qvar (i := 3) rfl (.inl rfl))))) (qw_or (qtcmp (op_neD hr.units) does_ne (qfnB call_len_seq does_len rfl f_len boot_len (qa_cons (qvar (i := 3) rfl (.inl rfl)) qa_nil)) qint) (qw_or1 (qtnot (qtval (qcall O__law_whole (hr.mono (by decide)) rfl g__law_whole F__law_whole.kp b__law_whole (fun σ => L2N.passAt tk σ) (qa_cons (qix (qvar (i := 3) rfl (.inl rfl)) qint) (qa_cons (qvar (i := 2) rfl (.inl rfl)) qa_nil))))))))) (qone (qret qbl)) qnil) (qone (qif (QW.t (qw_or (qtnot (qtval (qcall O__law_whole (hr.mono (by decide)) rfl g__law_whole F__law_whole.kp b__law_whole (fun σ => L2N.passAt tk σ) (qa_cons (qix (qvar (i := 3) rfl (.inl rfl)) qint) (qa_cons (qvar (i := 1) rfl (.inl rfl)) qa_nil))))) (qw_or1 (qtnot (qtval (qcall O__law_whole (hr.mono (by decide)) rfl g__law_whole F__law_whole.kp b__law_whole (fun σ => L2N.passAt tk σ) (qa_cons (qix (qvar (i := 3) rfl (.inl rfl)) qint) (qa_cons (qvar (i := 1) rfl (.inl rfl)) qa_nil)))))))) (qone (qret qbl)) qnil))))) (qone (qret (qcmp (op_eqD hr.units) does_eq (qlenset rfl hr.units rfl f_len rfl f_set (qcomp (vs := [3]) rfl nd (qiof (qvar (i := 0) rfl (.inl rfl))) (blkOk_by (own := [("one", 3)]) (N := N__law_triples) (sc := defScope s__law_triples) (by decide +kernel)) (gok_n (by decide)) rfl (fun _ _ _ _ _ B => (qgn (i := 3) nd rfl (.inl rfl) (by decide))) (fun _ _ _ _ _ => qtsnil) (fun _ _ _ _ _ => (qsl (qvar (i := 3) rfl (.inl rfl)) qpn (qps qint))))) (qfnB call_len_seq does_len rfl f_len boot_len (qa_cons (qvar (i := 0) rfl (.inl rfl)) qa_nil)))))))
abbrev N__law_is_book : List Str := ["item", "b", "kinds", "kind"]
theorem sc__law_is_book : FnScope N__law_is_book ["item"] (defScope s__law_is_book) := ⟨rfl, rfl, rfl, by decide +kernel, rfl, by decide +kernel, by decide +kernel⟩
theorem ok__law_is_book (X0 : K.In h) (G : h.Ns mainGlobals mg) (c : He.SaysD fa fn K) : ∃ fd, FunD K "_law_is_book" "_law_is_book" (defArgs s__law_is_book) (defBody s__law_is_book) (defScope s__law_is_book) [] [] (He.ga K "_law_is_book") fd ∧ FnOk P w K mg base (L2N.CX P w) 3 (He.ga K "_law_is_book") fd ["item"] (spF K 1 m__law_is_book) := by
  obtain ⟨fd__law_whole, F__law_whole, O__law_whole⟩ := ok__law_whole (P := P) (w := w) (base := base) X0 G c
  have b__law_whole : Binds K fd__law_whole ["value", "many"] [] := F__law_whole.bindsN fun _ _ _ _ _ _ us hl => match us, hl with | [_, _], _ => rfl
  have g__law_whole : mg "_law_whole" = some (.ref (He.ga K "_law_whole")) := He.glo_ok X0 G (c.fact 32 rfl)
  obtain ⟨fd__law_triples, F__law_triples, O__law_triples⟩ := ok__law_triples (P := P) (w := w) (base := base) X0 G c
  have b__law_triples : Binds K fd__law_triples ["item", "most", "many"] [] := F__law_triples.bindsN fun _ _ _ _ _ _ us hl => match us, hl with | [_, _, _], _ => rfl
  have g__law_triples : mg "_law_triples" = some (.ref (He.ga K "_law_triples")) := He.glo_ok X0 G (c.fact 33 rfl)
  have f_isinstance : mg "isinstance" = none := He.free_ok X0 G (c.fact 43 rfl)
  have f_len : mg "len" = none := He.free_ok X0 G (c.fact 44 rfl)
  have f_tuple : mg "tuple" = none := He.free_ok X0 G (c.fact 52 rfl)
  obtain ⟨fd, F⟩ := c.def_ 34 (d := d__law_is_book) rfl
  refine ⟨fd, F, fn_ok (k := 2) F sc__law_is_book fun cdv A outer s H E hr B => ?_⟩
  have hp : PassesOwn (model P w) _ _ _ := passes_of (X := cxOf (L2N.CX P w) P w K mg base N__law_is_book "_law_is_book" (defScope s__law_is_book) (He.ga K "_law_is_book") cdv A outer s H E) (K := fun e s'' => L2N.CX P w outer H s E e s'') rfl
  have tk := L2N.takes_of (X := cxOf (L2N.CX P w) P w K mg base N__law_is_book "_law_is_book" (defScope s__law_is_book) (He.ga K "_law_is_book") cdv A outer s H E) (E := E) rfl rfl rfl rfl
  have nd := sc__law_is_book.nd
  exact (qcons (qif (QW.t (qw_or (qtnot (qtval (qisi k_tuple rfl f_isinstance rfl f_tuple boot_tuple (qvar (i := 0) rfl (.inl rfl))))) (qw_or (qtcmp (op_neD hr.units) does_ne (qfnB call_len_seq does_len rfl f_len boot_len (qa_cons (qvar (i := 0) rfl (.inl rfl)) qa_nil)) qint) (qw_or (qtnot (qtval (qcall O__law_whole (hr.mono (by decide)) rfl g__law_whole F__law_whole.kp b__law_whole (fun σ => L2N.passAt tk σ) (qa_cons (qix (qvar (i := 0) rfl (.inl rfl)) qint) (qa_cons qint qa_nil))))) (qw_or1 (qtcmp op_lt does_lt (qix (qvar (i := 0) rfl (.inl rfl)) qint) qint)))))) (qone (qret qbl)) qnil) (qcons (qasg (ws := [1, 2]) (qvar (i := 0) rfl (.inl rfl)) (qgt rfl (qgscons (qgn (i := 1) nd rfl (.inr rfl) (by decide)) (qgscons (qgn (i := 2) nd rfl (.inr rfl) (by decide)) qgsnil)))) (qcons (qif (QW.t (qw_or (qtnot (qtval (qisi k_tuple rfl f_isinstance rfl f_tuple boot_tuple (qvar (i := 2) rfl (.inr (.inl rfl)))))) (qw_or1 (qtcmp (op_eqD hr.units) does_eq (qvar (i := 2) rfl (.inr (.inl rfl))) (qtup qa_nil))))) (qone (qret qbl)) qnil) (qone (qret (qcmp (op_eqD hr.units) does_eq (qcomp (vs := [3]) rfl nd (qiof (qvar (i := 2) rfl (.inr (.inl rfl)))) (blkOk_by (own := [("kind", 3)]) (N := N__law_is_book) (sc := defScope s__law_is_book) (by decide +kernel)) (gok_n (by decide)) rfl (fun _ _ _ _ _ B => (qgn (i := 3) nd rfl (.inl rfl) (by decide))) (fun _ _ _ _ _ => (qtsone (QW.t (qw_or (qtnot (qtval (qcall O__law_triples (hr.mono (by decide)) rfl g__law_triples F__law_triples.kp b__law_triples (fun σ => L2N.passAt takesN0 σ) (qa_cons (qvar (i := 3) rfl (.inl rfl)) (qa_cons (qvar (i := 1) rfl (.inr (.inl rfl))) (qa_cons (qfnB call_len_seq does_len rfl f_len boot_len (qa_cons (qvar (i := 2) rfl (.inr (.inl rfl))) qa_nil)) qa_nil)))))) (qw_or1 (qtcmp (op_neD hr.units) does_ne (qfnB call_len_seq does_len rfl f_len boot_len (qa_cons (qvar (i := 3) rfl (.inl rfl)) qa_nil)) (qop op_mulW does_mul (qvar (i := 1) rfl (.inr (.inl rfl))) (qvar (i := 1) rfl (.inr (.inl rfl)))))))))) (fun _ _ _ _ _ => (qvar (i := 3) rfl (.inl rfl)))) (qlst qa_nil)))))))
abbrev N__law_is_field : List Str := ["item"]
theorem sc__law_is_field : FnScope N__law_is_field ["item"] (defScope s__law_is_field) := ⟨rfl, rfl, rfl, by decide +kernel, rfl, by decide +kernel, by decide +kernel⟩
theorem ok__law_is_field (X0 : K.In h) (G : h.Ns mainGlobals mg) (c : He.SaysD fa fn K) : ∃ fd, FunD K "_law_is_field" "_law_is_field" (defArgs s__law_is_field) (defBody s__law_is_field) (defScope s__law_is_field) [] [] (He.ga K "_law_is_field") fd ∧ FnOk P w K mg base (L2N.CX P w) 4 (He.ga K "_law_is_field") fd ["item"] (spF K 1 m__law_is_field) := by
  obtain ⟨fd__law_triples, F__law_triples, O__law_triples⟩ := ok__law_triples (P := P) (w := w) (base := base) X0 G c
  have b__law_triples : Binds K fd__law_triples ["item", "most", "many"] [] := F__law_triples.bindsN fun _ _ _ _ _ _ us hl => match us, hl with | [_, _, _], _ => rfl
  have g__law_triples : mg "_law_triples" = some (.ref (He.ga K "_law_triples")) := He.glo_ok X0 G (c.fact 33 rfl)
  obtain ⟨fd__law_is_book, F__law_is_book, O__law_is_book⟩ := ok__law_is_book (P := P) (w := w) (base := base) X0 G c
  have b__law_is_book : Binds K fd__law_is_book ["item"] [] := F__law_is_book.bindsN fun _ _ _ _ _ _ us hl => match us, hl with | [_], _ => rfl
  have g__law_is_book : mg "_law_is_book" = some (.ref (He.ga K "_law_is_book")) := He.glo_ok X0 G (c.fact 34 rfl)
  have f_isinstance : mg "isinstance" = none := He.free_ok X0 G (c.fact 43 rfl)
  have f_len : mg "len" = none := He.free_ok X0 G (c.fact 44 rfl)
  have f_tuple : mg "tuple" = none := He.free_ok X0 G (c.fact 52 rfl)
  obtain ⟨fd, F⟩ := c.def_ 35 (d := d__law_is_field) rfl
  refine ⟨fd, F, fn_ok (k := 3) F sc__law_is_field fun cdv A outer s H E hr B => ?_⟩
  have hp : PassesOwn (model P w) _ _ _ := passes_of (X := cxOf (L2N.CX P w) P w K mg base N__law_is_field "_law_is_field" (defScope s__law_is_field) (He.ga K "_law_is_field") cdv A outer s H E) (K := fun e s'' => L2N.CX P w outer H s E e s'') rfl
  have tk := L2N.takes_of (X := cxOf (L2N.CX P w) P w K mg base N__law_is_field "_law_is_field" (defScope s__law_is_field) (He.ga K "_law_is_field") cdv A outer s H E) (E := E) rfl rfl rfl rfl
  have nd := sc__law_is_field.nd
  exact (qcons (qif (QW.t (qw_or (qtnot (qtval (qisi k_tuple rfl f_isinstance rfl f_tuple boot_tuple (qvar (i := 0) rfl (.inl rfl))))) (qw_or (qtcmp (op_neD hr.units) does_ne (qfnB call_len_seq does_len rfl f_len boot_len (qa_cons (qvar (i := 0) rfl (.inl rfl)) qa_nil)) qint) (qw_or1 (qtnot (qtval (qcall O__law_is_book (hr.mono (by decide)) rfl g__law_is_book F__law_is_book.kp b__law_is_book (fun σ => L2N.passAt tk σ) (qa_cons (qix (qvar (i := 0) rfl (.inl rfl)) qint) qa_nil)))))))) (qone (qret qbl)) qnil) (qone (qret (qand (qcall O__law_triples (hr.mono (by decide)) rfl g__law_triples F__law_triples.kp b__law_triples (fun σ => L2N.passAt tk σ) (qa_cons (qix (qvar (i := 0) rfl (.inl rfl)) qint) (qa_cons (qop op_pow does_pow qint qint) (qa_cons (qfnB call_len_seq does_len rfl f_len boot_len (qa_cons (qix (qix (qvar (i := 0) rfl (.inl rfl)) qint) qint) qa_nil)) qa_nil)))) (qone_ (qcmp (op_neD hr.units) does_ne (qix (qvar (i := 0) rfl (.inl rfl)) qint) (qtup qa_nil)))))))
abbrev N__law_put : List Str := ["stock", "item", "deep", "odd", "at", "way"]
theorem sc__law_put : FnScope N__law_put ["stock", "item", "deep"] (defScope s__law_put) := ⟨rfl, rfl, rfl, by decide +kernel, rfl, by decide +kernel, by decide +kernel⟩
theorem ok__law_put (X0 : K.In h) (G : h.Ns mainGlobals mg) (c : He.SaysD fa fn K) : ∀ fuel : Nat, ∃ fd, FunD K "_law_put" "_law_put" (defArgs s__law_put) (defBody s__law_put) (defScope s__law_put) [] [] (He.ga K "_law_put") fd ∧ FnOk P w K mg base (L2N.CX P w) (2 + fuel) (He.ga K "_law_put") fd ["stock", "item", "deep"] (spF K 3 (m__law_put fuel)) := by
  obtain ⟨fd__law_pick, F__law_pick, O__law_pick⟩ := ok__law_pick (P := P) (w := w) (base := base) X0 G c
  have b__law_pick : Binds K fd__law_pick ["stock", "many"] [] := F__law_pick.bindsN fun _ _ _ _ _ _ us hl => match us, hl with | [_, _], _ => rfl
  have g__law_pick : mg "_law_pick" = some (.ref (He.ga K "_law_pick")) := He.glo_ok X0 G (c.fact 21 rfl)
  have f_isinstance : mg "isinstance" = none := He.free_ok X0 G (c.fact 43 rfl)
  have f_len : mg "len" = none := He.free_ok X0 G (c.fact 44 rfl)
  have f_list : mg "list" = none := He.free_ok X0 G (c.fact 45 rfl)
  have f_tuple : mg "tuple" = none := He.free_ok X0 G (c.fact 52 rfl)
  have g__law_put : mg "_law_put" = some (.ref (He.ga K "_law_put")) := He.glo_ok X0 G (c.fact 36 rfl)
  obtain ⟨fd, F__law_put⟩ := c.def_ 36 (d := d__law_put) rfl
  have F__law_put : FunD K "_law_put" "_law_put" (defArgs s__law_put) (defBody s__law_put) (defScope s__law_put) [] [] (He.ga K "_law_put") fd := F__law_put
  have b__law_put : Binds K fd ["stock", "item", "deep"] [] := F__law_put.bindsN fun _ _ _ _ _ _ us hl => match us, hl with | [_, _, _], _ => rfl
  intro fuel
  refine ⟨fd, F__law_put, ?_⟩
  induction fuel with
  | zero =>
    refine (fn_ok (k := 1) (b := sNever) F__law_put sc__law_put fun cdv A outer s H E hr B => qnevers).imp fun vs H Q E z => ⟨z.1, ?_⟩
    obtain ⟨e, F, R, z⟩ := z.2
    exact z.elim
  | succ fuel ih =>
    have O__law_put := ih
    refine fn_ok (k := 2 + fuel) F__law_put sc__law_put fun cdv A outer s H E hr B => ?_
    have hp : PassesOwn (model P w) _ _ _ := passes_of (X := cxOf (L2N.CX P w) P w K mg base N__law_put "_law_put" (defScope s__law_put) (He.ga K "_law_put") cdv A outer s H E) (K := fun e s'' => L2N.CX P w outer H s E e s'') rfl
    have tk := L2N.takes_of (X := cxOf (L2N.CX P w) P w K mg base N__law_put "_law_put" (defScope s__law_put) (He.ga K "_law_put") cdv A outer s H E) (E := E) rfl rfl rfl rfl
    have nd := sc__law_put.nd
    exact (qcons (qset (i := 3) nd rfl (.inl rfl) (qlst (qa_cons qnon (qa_cons qbl (qa_cons qbl (qa_cons (qneg qint) (qa_cons qint (qa_cons qint (qa_cons qint (qa_cons qint (qa_cons qint (qa_cons (qtup qa_nil) (qa_cons (qlst qa_nil) (qa_cons qstr (qa_cons (qtup (qa_cons qint (qa_cons qint (qa_cons qint qa_nil)))) (qa_cons (qtup (qa_cons qint (qa_cons qint qa_nil))) qa_nil)))))))))))))))) (qcons (qif (QW.t (qw_or (qtnot (qtval (qisi k_tuple rfl f_isinstance rfl f_tuple boot_tuple (qvar (i := 1) rfl (.inl rfl))))) (qw_or (qtcmp (op_eqD hr.units) does_eq (qvar (i := 1) rfl (.inl rfl)) (qtup qa_nil)) (qw_or1 (qtcmp (op_eqD hr.units) does_eq (qvar (i := 2) rfl (.inl rfl)) qint))))) (qone (qret (qix (qvar (i := 3) rfl (.inl rfl)) (qcall O__law_pick (hr.mono (by omega)) rfl g__law_pick F__law_pick.kp b__law_pick (fun σ => L2N.passAt tk σ) (qa_cons (qvar (i := 0) rfl (.inl rfl)) (qa_cons qint qa_nil)))))) qnil) (qcons (qpar2 (i := 4) (j := 5) rfl nd rfl rfl (by decide) rfl rfl (qa_cons (qcall O__law_pick (hr.mono (by omega)) rfl g__law_pick F__law_pick.kp b__law_pick (fun σ => L2N.passAt tk σ) (qa_cons (qvar (i := 0) rfl (.inl rfl)) (qa_cons (qfnB call_len_seq does_len rfl f_len boot_len (qa_cons (qvar (i := 1) rfl (.inl rfl)) qa_nil)) qa_nil))) (qa_cons (qcall O__law_pick (hr.mono (by omega)) rfl g__law_pick F__law_pick.kp b__law_pick (fun σ => L2N.passAt tk σ) (qa_cons (qvar (i := 0) rfl (.inl rfl)) (qa_cons qint qa_nil))) qa_nil)) (by rfl)) (qcons (qif (qtcmp (op_eqD hr.units) does_eq (qvar (i := 5) rfl (.inl rfl)) qint) (qone (qret (qop op_add4 does_add (qsl (qvar (i := 1) rfl (.inl rfl)) qpn (qps (qvar (i := 4) rfl (.inl rfl)))) (qsl (qvar (i := 1) rfl (.inl rfl)) (qps (qop op_add4 does_add (qvar (i := 4) rfl (.inl rfl)) qint)) qpn)))) qnil) (qcons (qif (qtcmp (op_eqD hr.units) does_eq (qvar (i := 5) rfl (.inl rfl)) qint) (qone (qret (qop op_add4 does_add (qop op_add4 does_add (qsl (qvar (i := 1) rfl (.inl rfl)) qpn (qps (qvar (i := 4) rfl (.inl rfl)))) (qtup (qa_cons (qix (qvar (i := 1) rfl (.inl rfl)) (qvar (i := 4) rfl (.inl rfl))) qa_nil))) (qsl (qvar (i := 1) rfl (.inl rfl)) (qps (qvar (i := 4) rfl (.inl rfl))) qpn)))) qnil) (qcons (qif (qtcmp (op_eqD hr.units) does_eq (qvar (i := 5) rfl (.inl rfl)) qint) (qone (qret (qrev (qvar (i := 1) rfl (.inl rfl))))) qnil) (qcons (qif (qtcmp (op_eqD hr.units) does_eq (qvar (i := 5) rfl (.inl rfl)) qint) (qone (qret (qfnT call_list_of does_list rfl f_list boot_list (qa_cons (qvar (i := 1) rfl (.inl rfl)) qa_nil)))) qnil) (qcons (qif (qtcmp (op_eqD hr.units) does_eq (qvar (i := 5) rfl (.inl rfl)) qint) (qone (qret (qop op_add4 does_add (qop op_add4 does_add (qsl (qvar (i := 1) rfl (.inl rfl)) qpn (qps (qvar (i := 4) rfl (.inl rfl)))) (qtup (qa_cons (qix (qvar (i := 3) rfl (.inl rfl)) (qcall O__law_pick (hr.mono (by omega)) rfl g__law_pick F__law_pick.kp b__law_pick (fun σ => L2N.passAt tk σ) (qa_cons (qvar (i := 0) rfl (.inl rfl)) (qa_cons qint qa_nil)))) qa_nil))) (qsl (qvar (i := 1) rfl (.inl rfl)) (qps (qvar (i := 4) rfl (.inl rfl))) qpn)))) qnil) (qone (qret (qop op_add4 does_add (qop op_add4 does_add (qsl (qvar (i := 1) rfl (.inl rfl)) qpn (qps (qvar (i := 4) rfl (.inl rfl)))) (qtup (qa_cons (qcall O__law_put (hr.mono (by omega)) rfl g__law_put F__law_put.kp b__law_put (fun σ => L2N.passAt tk σ) (qa_cons (qvar (i := 0) rfl (.inl rfl)) (qa_cons (qix (qvar (i := 1) rfl (.inl rfl)) (qvar (i := 4) rfl (.inl rfl))) (qa_cons (qop op_sub does_sub (qvar (i := 2) rfl (.inl rfl)) qint) qa_nil)))) qa_nil))) (qsl (qvar (i := 1) rfl (.inl rfl)) (qps (qop op_add4 does_add (qvar (i := 4) rfl (.inl rfl)) qint)) qpn))))))))))))
abbrev N_law : List Str := ["script", "spot", "stock", "field", "turn", "bent", "due", "kept", "book", "kind", "many", "d", "told", "cells", "wide", "at", "inner", "left", "low", "x"]
theorem sc_law : FnScope N_law ["script"] (defScope s_law) := ⟨rfl, rfl, rfl, by decide +kernel, rfl, by decide +kernel, by decide +kernel⟩
theorem ok_law (X0 : K.In h) (G : h.Ns mainGlobals mg) (c : He.SaysD fa fn K) : ∃ fd, FunD K "law" "law" (defArgs s_law) (defBody s_law) (defScope s_law) [] [] (He.ga K "law") fd ∧ FnG P w K mg base (L2N.CX P w) 11 (He.ga K "law") fd ["script"] (spF K 1 m_law) := by
  obtain ⟨fd__law_stock, F__law_stock, O__law_stock⟩ := ok__law_stock (P := P) (w := w) (base := base) X0 G c
  have b__law_stock : Binds K fd__law_stock ["script", "spot"] [] := F__law_stock.bindsN fun _ _ _ _ _ _ us hl => match us, hl with | [_, _], _ => rfl
  have g__law_stock : mg "_law_stock" = some (.ref (He.ga K "_law_stock")) := He.glo_ok X0 G (c.fact 20 rfl)
  obtain ⟨fd__law_field, F__law_field, O__law_field⟩ := ok__law_field (P := P) (w := w) (base := base) X0 G c
  have b__law_field : Binds K fd__law_field ["stock", "most", "kinds"] [] := F__law_field.bindsN fun _ _ _ _ _ _ us hl => match us, hl with | [_, _, _], _ => rfl
  have g__law_field : mg "_law_field" = some (.ref (He.ga K "_law_field")) := He.glo_ok X0 G (c.fact 29 rfl)
  obtain ⟨fd_row_field, F_row_field, O_row_field⟩ := ok_row_field (P := P) (w := w) (base := base) X0 G c
  have b_row_field : Binds K fd_row_field ["book", "kind", "many"] [] := F_row_field.bindsN fun _ _ _ _ _ _ us hl => match us, hl with | [_, _, _], _ => rfl
  have g_row_field : mg "row_field" = some (.ref (He.ga K "row_field")) := He.glo_ok X0 G (c.fact 19 rfl)
  obtain ⟨fd__law_put, F__law_put, O__law_put⟩ := ok__law_put (P := P) (w := w) (base := base) X0 G c 8
  have b__law_put : Binds K fd__law_put ["stock", "item", "deep"] [] := F__law_put.bindsN fun _ _ _ _ _ _ us hl => match us, hl with | [_, _, _], _ => rfl
  have g__law_put : mg "_law_put" = some (.ref (He.ga K "_law_put")) := He.glo_ok X0 G (c.fact 36 rfl)
  obtain ⟨fd_is_field, F_is_field, O_is_field⟩ := ok_is_field (P := P) (w := w) (base := base) X0 G c
  have b_is_field : Binds K fd_is_field ["told"] [] := F_is_field.bindsN fun _ _ _ _ _ _ us hl => match us, hl with | [_], _ => rfl
  have g_is_field : mg "is_field" = some (.ref (He.ga K "is_field")) := He.glo_ok X0 G (c.fact 15 rfl)
  obtain ⟨fd__law_pick, F__law_pick, O__law_pick⟩ := ok__law_pick (P := P) (w := w) (base := base) X0 G c
  have b__law_pick : Binds K fd__law_pick ["stock", "many"] [] := F__law_pick.bindsN fun _ _ _ _ _ _ us hl => match us, hl with | [_, _], _ => rfl
  have g__law_pick : mg "_law_pick" = some (.ref (He.ga K "_law_pick")) := He.glo_ok X0 G (c.fact 21 rfl)
  obtain ⟨fd__law_power, F__law_power, O__law_power⟩ := ok__law_power (P := P) (w := w) (base := base) X0 G c
  have b__law_power : Binds K fd__law_power ["b", "n"] [] := F__law_power.bindsN fun _ _ _ _ _ _ us hl => match us, hl with | [_, _], _ => rfl
  have g__law_power : mg "_law_power" = some (.ref (He.ga K "_law_power")) := He.glo_ok X0 G (c.fact 23 rfl)
  obtain ⟨fd__law_is_field, F__law_is_field, O__law_is_field⟩ := ok__law_is_field (P := P) (w := w) (base := base) X0 G c
  have b__law_is_field : Binds K fd__law_is_field ["item"] [] := F__law_is_field.bindsN fun _ _ _ _ _ _ us hl => match us, hl with | [_], _ => rfl
  have g__law_is_field : mg "_law_is_field" = some (.ref (He.ga K "_law_is_field")) := He.glo_ok X0 G (c.fact 35 rfl)
  obtain ⟨fd__law_alike, F__law_alike, O__law_alike⟩ := ok__law_alike (P := P) (w := w) (base := base) X0 G c 8
  have b__law_alike : Binds K fd__law_alike ["thing", "due"] [] := F__law_alike.bindsN fun _ _ _ _ _ _ us hl => match us, hl with | [_, _], _ => rfl
  have g__law_alike : mg "_law_alike" = some (.ref (He.ga K "_law_alike")) := He.glo_ok X0 G (c.fact 22 rfl)
  obtain ⟨fd__law_cell_at, F__law_cell_at, O__law_cell_at⟩ := ok__law_cell_at (P := P) (w := w) (base := base) X0 G c
  have b__law_cell_at : Binds K fd__law_cell_at ["book", "kind", "d", "number"] [] := F__law_cell_at.bindsN fun _ _ _ _ _ _ us hl => match us, hl with | [_, _, _, _], _ => rfl
  have g__law_cell_at : mg "_law_cell_at" = some (.ref (He.ga K "_law_cell_at")) := He.glo_ok X0 G (c.fact 31 rfl)
  obtain ⟨fd_field_cell, F_field_cell, O_field_cell⟩ := ok_field_cell (P := P) (w := w) (base := base) X0 G c
  have b_field_cell : Binds K fd_field_cell ["field", "d", "number"] [] := F_field_cell.bindsN fun _ _ _ _ _ _ us hl => match us, hl with | [_, _, _], _ => rfl
  have g_field_cell : mg "field_cell" = some (.ref (He.ga K "field_cell")) := He.glo_ok X0 G (c.fact 18 rfl)
  have f_len : mg "len" = none := He.free_ok X0 G (c.fact 44 rfl)
  have f_max : mg "max" = none := He.free_ok X0 G (c.fact 46 rfl)
  have f_min : mg "min" = none := He.free_ok X0 G (c.fact 47 rfl)
  have f_range : mg "range" = none := He.free_ok X0 G (c.fact 48 rfl)
  have f_repr : mg "repr" = none := He.free_ok X0 G (c.fact 49 rfl)
  have f_tuple : mg "tuple" = none := He.free_ok X0 G (c.fact 52 rfl)
  obtain ⟨fd, F⟩ := c.def_ 37 (d := d_law) rfl
  refine ⟨fd, F, fn_okG (k := 10) F sc_law fun cdv A outer s H E hg hr B => ?_⟩
  have hp : PassesOwn (model P w) _ _ _ := passes_of (X := cxOf (L2N.CX P w) P w K mg base N_law "law" (defScope s_law) (He.ga K "law") cdv A outer s H E) (K := fun e s'' => L2N.CX P w outer H s E e s'') rfl
  have tk := L2N.takes_of (X := cxOf (L2N.CX P w) P w K mg base N_law "law" (defScope s_law) (He.ga K "law") cdv A outer s H E) (E := E) rfl rfl rfl rfl
  have nd := sc_law.nd
  exact (qcons (qfor (ws := [1]) hp rfl (qir1 rfl f_range (qa_cons (qfnB (call_max2 rfl) does_max2 rfl f_max boot_max (qa_cons qint (qa_cons (qfnB (call_min2 rfl) does_min2 rfl f_min boot_min (qa_cons qint (qa_cons (qfnB call_len_seq does_len rfl f_len boot_len (qa_cons (qvar (i := 0) rfl (.inl rfl)) qa_nil)) qa_nil))) qa_nil))) qa_nil)) (fun B => (qgn (i := 1) nd rfl (.inl rfl) (by decide))) (fun B => (qcons (qset (i := 2) nd rfl (.inl rfl) (qcall O__law_stock (hr.mono (by decide)) rfl g__law_stock F__law_stock.kp b__law_stock (fun σ => L2N.passAt tk σ) (qa_cons (qvar (i := 0) rfl (.inl rfl)) (qa_cons (qvar (i := 1) rfl (.inl rfl)) qa_nil)))) (qcons (qset (i := 3) nd rfl (.inl rfl) (qcall O__law_field (hr.mono (by decide)) rfl g__law_field F__law_field.kp b__law_field (fun σ => L2N.passAt tk σ) (qa_cons (qvar (i := 2) rfl (.inl rfl)) (qa_cons qint (qa_cons qint qa_nil))))) (qcons (qif (QW.t (qw_or (qtcmp op_notBl does_notB (qcall O_is_field (hr.mono (by decide)) rfl g_is_field F_is_field.kp b_is_field (fun σ => L2N.passAt tk σ) (qa_cons (qvar (i := 3) rfl (.inl rfl)) qa_nil)) qbl) (qw_or1 (qtcmp op_notBl does_notB (qcallk (ks := ["told"]) (perm := [0]) O_is_field (hr.mono (by decide)) rfl g_is_field F_is_field.kp (kwBinds_of (ks := ["told"]) F_is_field fun _ _ _ _ _ _ ws hl => match ws, hl with | [_], _ => rfl) (fun σ => L2N.passAt tk σ) (qk_cons (qvar (i := 3) rfl (.inl rfl)) qk_nil)) qbl)))) (qone (qret qbl)) qnil) (qcons (qfor (ws := [4]) hp rfl (qir1 rfl f_range (qa_cons qint qa_nil)) (fun B => (qgn (i := 4) nd rfl (.inl rfl) (by decide))) (fun B => (qcons (qset (i := 5) nd rfl (.inl rfl) (qcall O__law_put (hr.mono (by decide)) rfl g__law_put F__law_put.kp b__law_put (fun σ => L2N.passAt tk σ) (qa_cons (qvar (i := 2) rfl (.inl rfl)) (qa_cons (qvar (i := 3) rfl (.inl rfl)) (qa_cons (qop op_add4 does_add qint (qcall O__law_pick (hr.mono (by decide)) rfl g__law_pick F__law_pick.kp b__law_pick (fun σ => L2N.passAt tk σ) (qa_cons (qvar (i := 2) rfl (.inl rfl)) (qa_cons qint qa_nil)))) qa_nil))))) (qcons (qset (i := 5) nd rfl (.inl rfl) (qifx (qtcmp op_lt does_lt (qvar (i := 4) rfl (.inl rfl)) qint) (qvar (i := 5) rfl (.inl rfl)) (qcall O__law_put (hr.mono (by decide)) rfl g__law_put F__law_put.kp b__law_put (fun σ => L2N.passAt tk σ) (qa_cons (qvar (i := 2) rfl (.inl rfl)) (qa_cons (qvar (i := 5) rfl (.inl rfl)) (qa_cons qint qa_nil)))))) (qcons (qpar2 (i := 6) (j := 7) rfl nd rfl rfl (by decide) rfl rfl (qa_cons (qcall O__law_is_field (hr.mono (by decide)) rfl g__law_is_field F__law_is_field.kp b__law_is_field (fun σ => L2N.passAt tk σ) (qa_cons (qvar (i := 5) rfl (.inl rfl)) qa_nil)) (qa_cons (qfnB (cr_repr hr hg) does_repr rfl f_repr boot_repr (qa_cons (qvar (i := 5) rfl (.inl rfl)) qa_nil)) qa_nil)) (by rfl)) (qone (qif (QW.t (qw_or (qtnot (qtval (qcall O__law_alike (hr.mono (by decide)) rfl g__law_alike F__law_alike.kp b__law_alike (fun σ => L2N.passAt tk σ) (qa_cons (qlst (qa_cons (qcall O_is_field (hr.mono (by decide)) rfl g_is_field F_is_field.kp b_is_field (fun σ => L2N.passAt tk σ) (qa_cons (qvar (i := 5) rfl (.inl rfl)) qa_nil)) (qa_cons (qcallk (ks := ["told"]) (perm := [0]) O_is_field (hr.mono (by decide)) rfl g_is_field F_is_field.kp (kwBinds_of (ks := ["told"]) F_is_field fun _ _ _ _ _ _ ws hl => match ws, hl with | [_], _ => rfl) (fun σ => L2N.passAt tk σ) (qk_cons (qvar (i := 5) rfl (.inl rfl)) qk_nil)) qa_nil))) (qa_cons (qlst (qa_cons (qvar (i := 6) rfl (.inl rfl)) (qa_cons (qvar (i := 6) rfl (.inl rfl)) qa_nil))) qa_nil))))) (qw_or1 (qtcmp (op_neD hr.units) does_ne (qfnB (cr_repr hr hg) does_repr rfl f_repr boot_repr (qa_cons (qvar (i := 5) rfl (.inl rfl)) qa_nil)) (qvar (i := 7) rfl (.inl rfl)))))) (qone (qret qbl)) qnil))))))) (qcons (qset (i := 3) nd rfl (.inl rfl) (qcall O__law_field (hr.mono (by decide)) rfl g__law_field F__law_field.kp b__law_field (fun σ => L2N.passAt tk σ) (qa_cons (qvar (i := 2) rfl (.inl rfl)) (qa_cons qint (qa_cons qint qa_nil))))) (qcons (qif (qtcmp op_notBl does_notB (qcall O_is_field (hr.mono (by decide)) rfl g_is_field F_is_field.kp b_is_field (fun σ => L2N.passAt tk σ) (qa_cons (qvar (i := 3) rfl (.inl rfl)) qa_nil)) qbl) (qone (qret qbl)) qnil) (qcons (qparT (is := [8, 9, 10]) (gs := gsNames [8, 9, 10]) rfl (qa_cons (qix (qvar (i := 3) rfl (.inl rfl)) qint) (qa_cons (qix (qix (qix (qvar (i := 3) rfl (.inl rfl)) qint) qint) qint) (qa_cons (qop op_add4 does_add qint (qcall O__law_pick (hr.mono (by decide)) rfl g__law_pick F__law_pick.kp b__law_pick (fun σ => L2N.passAt tk σ) (qa_cons (qvar (i := 2) rfl (.inl rfl)) (qa_cons qint qa_nil)))) qa_nil))) (pgs_cons (pg_name (i := 8) nd rfl (.inl rfl)) (pgs_cons (pg_name (i := 9) nd rfl (.inr rfl)) (pgs_cons (pg_name (i := 10) nd rfl (.inl rfl)) pgs_nil))) (gsNames_ok [8, 9, 10]) (by decide)) (qcons (qpar2 (i := 6) (j := 11) rfl nd rfl rfl (by decide) rfl rfl (qa_cons (qtup (qa_cons (qvar (i := 8) rfl (.inl rfl)) (qa_cons (qfnT call_tuple_of does_tuple rfl f_tuple boot_tuple (qa_cons (qcomp (vs := [19]) rfl nd (qir1 rfl f_range (qa_cons (qvar (i := 10) rfl (.inl rfl)) qa_nil)) (blkOk_by (own := [("x", 19)]) (N := N_law) (sc := defScope s_law) (by decide +kernel)) (gok_n (by decide)) rfl (fun _ _ _ _ _ B => (qgn (i := 19) nd rfl (.inl rfl) (by decide))) (fun _ _ _ _ _ => qtsnil) (fun _ _ _ _ _ => (qtup (qa_cons (qvar (i := 19) rfl (.inl rfl)) (qa_cons qint (qa_cons (qvar (i := 9) rfl (.inr (.inl rfl))) qa_nil)))))) qa_nil)) qa_nil))) (qa_cons (qcall O__law_pick (hr.mono (by decide)) rfl g__law_pick F__law_pick.kp b__law_pick (fun σ => L2N.passAt tk σ) (qa_cons (qvar (i := 2) rfl (.inl rfl)) (qa_cons qint qa_nil))) qa_nil)) (by rfl)) (qcons (qset (i := 12) nd rfl (.inl rfl) (qcall O_row_field (hr.mono (by decide)) rfl g_row_field F_row_field.kp b_row_field (fun σ => L2N.passAt tk σ) (qa_cons (qvar (i := 8) rfl (.inl rfl)) (qa_cons (qvar (i := 9) rfl (.inr (.inl rfl))) (qa_cons (qvar (i := 10) rfl (.inl rfl)) qa_nil))))) (qcons (qif (QW.t (qw_or (qtnot (qtval (qcall O__law_alike (hr.mono (by decide)) rfl g__law_alike F__law_alike.kp b__law_alike (fun σ => L2N.passAt tk σ) (qa_cons (qlst (qa_cons (qvar (i := 12) rfl (.inl rfl)) (qa_cons (qcallk (ks := ["many", "kind", "book"]) (perm := [2, 1, 0]) O_row_field (hr.mono (by decide)) rfl g_row_field F_row_field.kp (kwBinds_of (ks := ["many", "kind", "book"]) F_row_field fun _ _ _ _ _ _ ws hl => match ws, hl with | [_, _, _], _ => rfl) (fun σ => L2N.passAt tk σ) (qk_cons (qvar (i := 10) rfl (.inl rfl)) (qk_cons (qvar (i := 9) rfl (.inr (.inl rfl))) (qk_cons (qvar (i := 8) rfl (.inl rfl)) qk_nil)))) qa_nil))) (qa_cons (qlst (qa_cons (qvar (i := 6) rfl (.inl rfl)) (qa_cons (qvar (i := 6) rfl (.inl rfl)) qa_nil))) qa_nil))))) (qw_or1 (qtcmp op_notBl does_notB (qcall O_is_field (hr.mono (by decide)) rfl g_is_field F_is_field.kp b_is_field (fun σ => L2N.passAt tk σ) (qa_cons (qvar (i := 12) rfl (.inl rfl)) qa_nil)) qbl)))) (qone (qret qbl)) qnil) (qcons (qpar2 (i := 13) (j := 14) rfl nd rfl rfl (by decide) rfl rfl (qa_cons (qcall O__law_power (hr.mono (by decide)) rfl g__law_power F__law_power.kp b__law_power (fun σ => L2N.passAt tk σ) (qa_cons (qop op_mulW does_mul (qix (qvar (i := 8) rfl (.inl rfl)) qint) (qix (qvar (i := 8) rfl (.inl rfl)) qint)) (qa_cons (qvar (i := 11) rfl (.inl rfl)) qa_nil))) (qa_cons (qcall O__law_power (hr.mono (by decide)) rfl g__law_power F__law_power.kp b__law_power (fun σ => L2N.passAt tk σ) (qa_cons (qix (qvar (i := 8) rfl (.inl rfl)) qint) (qa_cons (qvar (i := 11) rfl (.inl rfl)) qa_nil))) qa_nil)) (by rfl)) (qone (qfor (ws := [15]) hp rfl (qiof (qlst (qa_cons qint (qa_cons (qop op_sub does_sub (qvar (i := 10) rfl (.inl rfl)) qint) qa_nil)))) (fun B => (qgn (i := 15) nd rfl (.inl rfl) (by decide))) (fun B => (qone (qfor (ws := [16]) hp rfl (qiof (qlst (qa_cons qint (qa_cons (qop op_sub does_sub (qvar (i := 13) rfl (.inl rfl)) qint) qa_nil)))) (fun B => (qgn (i := 16) nd rfl (.inl rfl) (by decide))) (fun B => (qcons (qasg (ws := [17, 18]) (qcall O__law_cell_at (hr.mono (by decide)) rfl g__law_cell_at F__law_cell_at.kp b__law_cell_at (fun σ => L2N.passAt tk σ) (qa_cons (qvar (i := 8) rfl (.inl rfl)) (qa_cons (qvar (i := 9) rfl (.inr (.inl rfl))) (qa_cons (qvar (i := 11) rfl (.inl rfl)) (qa_cons (qvar (i := 16) rfl (.inl rfl)) qa_nil))))) (qgt rfl (qgscons (qgn (i := 17) nd rfl (.inl rfl) (by decide)) (qgscons (qgn (i := 18) nd rfl (.inl rfl) (by decide)) qgsnil)))) (qone (qif (qtnot (qtval (qcall O__law_alike (hr.mono (by decide)) rfl g__law_alike F__law_alike.kp b__law_alike (fun σ => L2N.passAt tk σ) (qa_cons (qcall O_field_cell (hr.mono (by decide)) rfl g_field_cell F_field_cell.kp b_field_cell (fun σ => L2N.passAt tk σ) (qa_cons (qvar (i := 12) rfl (.inl rfl)) (qa_cons (qvar (i := 11) rfl (.inl rfl)) (qa_cons (qop op_add4 does_add (qop op_mulW does_mul (qvar (i := 15) rfl (.inl rfl)) (qvar (i := 13) rfl (.inl rfl))) (qvar (i := 16) rfl (.inl rfl))) qa_nil)))) (qa_cons (qtup (qa_cons (qop op_add4 does_add (qop op_mulW does_mul (qvar (i := 15) rfl (.inl rfl)) (qvar (i := 14) rfl (.inl rfl))) (qvar (i := 17) rfl (.inl rfl))) (qa_cons (qvar (i := 18) rfl (.inl rfl)) qa_nil))) qa_nil))))) (qone (qret qbl)) qnil)))))))))))))))))))))) (qone (qret qbl)))
end
end Lw
set_option linter.all false
set_option maxRecDepth 100000
namespace Pu
open PySem PySem.Spec Ev
inductive F2 {α β : Type} (P : α → β → Prop) : List α → List β → Prop
  | nil : F2 P [] []
  | cons {a b as bs} : P a b → F2 P as bs → F2 P (a :: as) (b :: bs)
theorem F2.len {α β : Type} {P : α → β → Prop} : ∀ {as : List α} {bs : List β}, F2 P as bs → as.length = bs.length
  | _, _, .nil => rfl
  | _, _, .cons _ h => by rw [List.length_cons, List.length_cons, h.len]
theorem F2.get {α β : Type} {P : α → β → Prop} : ∀ {as : List α} {bs : List β} {i : Nat} {a : α} {b : β}, F2 P as bs → as[i]? = some a → bs[i]? = some b → P a b
  | _, _, i, a, b, .nil, h, _ => by simp at h
  | _, _, 0, a, b, .cons p _, h, h' => by simp at h h'; rw [← h, ← h']; exact p
  | _, _, i + 1, a, b, .cons _ q, h, h' => q.get (by simpa using h) (by simpa using h')
theorem F2.right {α β : Type} {P : α → β → Prop} : ∀ {as : List α} {bs : List β}, F2 P as bs → ∀ b ∈ bs, ∃ a ∈ as, P a b
  | _, _, .nil, b, h => by simp at h
  | _, _, .cons p q, b, h => by
    rcases List.mem_cons.mp h with rfl | h
    · exact ⟨_, List.mem_cons_self, p⟩
    · obtain ⟨a, m, z⟩ := q.right b h; exact ⟨a, List.mem_cons_of_mem _ m, z⟩
/-! ### pure: what loops and comprehensions do -/
/-- a loop over what things of a type look like; what is done so far -/
theorem for_on {α : Type} {g : SemG} {b : SemS} (inn : α → T) (I : List α → En → Prop) (n : Nat) : ∀ (xs don : List α) (e : En), I don e → don.length + xs.length ≤ n →
    (∀ x ∈ xs, ∀ (don : List α) (e : En), don.length < n → I don e → ∃ e1, g (inn x) e = some e1 ∧ ∃ e2, (b e1 = .ok .nx e2 ∨ b e1 = .ok .ct e2) ∧ I (don ++ [x]) e2) →
    ∃ e', forS g b (xs.map inn) e = .ok .nx e' ∧ I (don ++ xs) e'
  | [], don, e, h, _, _ => ⟨e, rfl, by rw [List.append_nil]; exact h⟩
  | x :: xs, don, e, h, hl, s => by
    rw [List.length_cons] at hl
    obtain ⟨e1, h1, e2, h2, h3⟩ := s x List.mem_cons_self don e (by omega) h
    obtain ⟨e', h4, h5⟩ := for_on (g := g) (b := b) inn I n xs (don ++ [x]) e2 h3 (by rw [List.length_append, List.length_singleton]; omega) fun x hx => s x (List.mem_cons_of_mem _ hx)
    refine ⟨e', ?_, by rw [List.append_assoc] at h5; exact h5⟩
    rw [List.map_cons, forS, h1]
    rcases h2 with h2 | h2 <;> (simp only [h2]; exact h4)
/-- a comprehension: each element is wanted -/
theorem comp_inv {g : SemG} {c : SemT} {m : SemE} {vs : List Nat} (I : En → Prop) (P : T → T → Prop) : ∀ (ts acc : List T) (e : En), I e → acc.length + ts.length ≤ sizeLine →
    (∀ t ∈ ts, ∀ e, I e → ∃ e1, g t (wipeE e vs) = some e1 ∧ ∃ e2, c e1 = .ok true e2 ∧ ∃ r e3, m e2 = .ok r e3 ∧ ∃ u e4, esc r e3 = some (u, e4) ∧ P t u ∧ I (restE e e4 vs)) →
    ∃ us e', compS g c m vs ts acc e = .ok (.b (.l (acc ++ us))) e' ∧ I e' ∧ F2 P ts us
  | [], acc, e, h, _, _ => ⟨[], e, by rw [compS, List.append_nil], h, .nil⟩
  | t :: ts, acc, e, h, hl, s => by
    obtain ⟨e1, h1, e2, h2, r, e3, h3, u, e4, h4, p, i⟩ := s t List.mem_cons_self e h
    rw [List.length_cons] at hl
    obtain ⟨us, e', h5, h6, h7⟩ := comp_inv (g := g) (c := c) (m := m) (vs := vs) I P ts (acc ++ [u]) (restE e e4 vs) i (by rw [List.length_append, List.length_singleton]; omega) fun t ht => s t (List.mem_cons_of_mem _ ht)
    refine ⟨u :: us, e', ?_, h6, .cons p h7⟩
    rw [compS, h1]
    simp only [h2, h3, h4, Out.nx, Out.bind]
    rw [if_pos trivial, if_pos (by omega), h5, List.append_assoc]
    rfl
/-- a comprehension of a function -/
theorem comp_map {g : SemG} {c : SemT} {m : SemE} {vs : List Nat} (f : T → T) (ts acc : List T) (e : En) (hl : acc.length + ts.length ≤ sizeLine)
    (s : ∀ t ∈ ts, ∃ e1, g t (wipeE e vs) = some e1 ∧ ∃ e2, c e1 = .ok true e2 ∧ ∃ r e3, m e2 = .ok r e3 ∧ ∃ e4, esc r e3 = some (f t, e4) ∧ restE e e4 vs = e) :
    compS g c m vs ts acc e = .ok (.b (.l (acc ++ ts.map f))) e := by
  obtain ⟨us, e', h1, rfl, h3⟩ := comp_inv (g := g) (c := c) (m := m) (vs := vs) (fun x => x = e) (fun t u => u = f t) ts acc e rfl hl fun t ht e' h => by
    subst h
    obtain ⟨e1, h1, e2, h2, r, e3, h3, e4, h4, h5⟩ := s t ht
    exact ⟨e1, h1, e2, h2, r, e3, h3, _, e4, h4, rfl, h5⟩
  have : us = ts.map f := by
    clear h1 s hl
    induction h3 with
    | nil => rfl
    | cons h _ ih => rw [h, ih]; rfl
  rw [h1, this]
/-! ### ranges -/
theorem iR1_nat {m : SemA} {e e1 : En} {rs : List Od} {n : Nat} (h : m e = .ok rs e1) (hv : vals e1 rs = some [.int (n : Int)]) (hn : n < 16777216) : iR1 m e = .ok ((List.range n).map fun (k : Nat) => .int (0 + (k : Int))) e1 := by
  have a : -(2 ^ 62) ≤ (n : Int) := by omega
  have b : (n : Int) < 2 ^ 62 := by omega
  unfold iR1
  rw [h]
  simp only [Out.bind, hv]
  rw [if_pos ⟨a, b⟩]
  rfl
theorem sFor_eq {mi : SemI} {g : SemG} {b : SemS} {e e1 : En} {ts : List T} (h : mi e = .ok ts e1) : sFor mi g b e = forS g b ts e1 := by
  unfold sFor
  rw [h]
  rfl
/-! ### numerals -/
theorem c0 : ((0 : Nat) : Int) = 0 := rfl
theorem c1 : ((1 : Nat) : Int) = 1 := rfl
theorem c2 : ((2 : Nat) : Int) = 2 := rfl
theorem c3 : ((3 : Nat) : Int) = 3 := rfl
theorem c4 : ((4 : Nat) : Int) = 4 := rfl
theorem c5 : ((5 : Nat) : Int) = 5 := rfl
theorem c6 : ((6 : Nat) : Int) = 6 := rfl
theorem c7 : ((7 : Nat) : Int) = 7 := rfl
theorem c8 : ((8 : Nat) : Int) = 8 := rfl
theorem c9 : ((9 : Nat) : Int) = 9 := rfl
theorem s1 : (1 ≤ sizeLine) = True := eq_true (by unfold sizeLine; omega)
theorem s2 : (2 ≤ sizeLine) = True := eq_true (by unfold sizeLine; omega)
theorem s3 : (3 ≤ sizeLine) = True := eq_true (by unfold sizeLine; omega)
theorem s4 : (4 ≤ sizeLine) = True := eq_true (by unfold sizeLine; omega)
theorem s5 : (5 ≤ sizeLine) = True := eq_true (by unfold sizeLine; omega)
theorem s6 : (6 ≤ sizeLine) = True := eq_true (by unfold sizeLine; omega)
theorem s7 : (7 ≤ sizeLine) = True := eq_true (by unfold sizeLine; omega)
theorem s8 : (8 ≤ sizeLine) = True := eq_true (by unfold sizeLine; omega)
theorem s9 : (9 ≤ sizeLine) = True := eq_true (by unfold sizeLine; omega)
/-! ### equality -/
theorem gEq_int (k : Bool → Bool) (i j : Int) : gEq k (.int i) (.int j) = some (.r (.bool (k (decide (i = j))))) := rfl
def lentS : Sl → Bool
  | .ow true _ => true
  | .fz _ => true
  | _ => false
theorem lentS_v (t : T) : lentS (.v t) = false := rfl
theorem lentS_un : lentS .un = false := rfl
theorem lentS_f (b : Bx) : lentS (.ow false b) = false := rfl
theorem lentS_t (b : Bx) : lentS (.ow true b) = true := rfl
theorem lentS_z (b : Bx) : lentS (.fz b) = true := rfl
def lentO : Option Sl → Bool
  | some s => lentS s
  | none => false
theorem isLent_eq (e : En) (i : Nat) : isLent e i = lentO e[i]? := by
  unfold isLent
  cases e[i]? with
  | none => rfl
  | some s => cases s with
    | ow l b => cases l <;> rfl
    | _ => rfl
theorem gAll_bools (bs : List Bool) : gAll [.list (bs.map .bool)] = some (.r (.bool (bs.all id))) := by
  have : bools (bs.map .bool) = some bs := by
    induction bs with
    | nil => rfl
    | cons b bs ih => rw [List.map_cons, bools, ih]; try rfl
  show Option.map _ (bools _) = _
  rw [this]
  rfl
end Pu

set_option Elab.async false
set_option linter.all false
set_option maxRecDepth 100000
namespace Wp
open PySem PySem.Spec Ev Pu
/-! ### what a run yields, and what is wanted of it -/
def W {α : Type} (o : Out α) (Q : α → En → Prop) : Prop := ∃ a e, o = .ok a e ∧ Q a e
theorem w_of {α : Type} {o : Out α} {a : α} {e : En} {Q : α → En → Prop} (h : o = .ok a e) (q : Q a e) : W o Q := ⟨a, e, h, q⟩
theorem w_imp {α : Type} {o : Out α} {P Q : α → En → Prop} (h : W o P) (q : ∀ a e, P a e → Q a e) : W o Q := by
  obtain ⟨a, e, h, p⟩ := h
  exact ⟨a, e, h, q a e p⟩
theorem w_bind {α β : Type} {o : Out α} {f : α → En → Out β} {Q : β → En → Prop} (h : W o fun a e => W (f a e) Q) : W (o.bind f) Q := by
  obtain ⟨a, e, h, b, e2, h2, q⟩ := h
  exact ⟨b, e2, by rw [h]; exact h2, q⟩
/-! ### statements -/
def KSeq (b : SemS) (Q : Fl → En → Prop) : Fl → En → Prop := fun fl e => match fl with
  | .nx => W (b e) Q
  | fl => Q fl e
theorem kseq_nx {b : SemS} {Q : Fl → En → Prop} {e : En} (h : W (b e) Q) : KSeq b Q .nx e := h
theorem kseq_rt {b : SemS} {Q : Fl → En → Prop} {e : En} {r : Od} (h : Q (.rt r) e) : KSeq b Q (.rt r) e := h
theorem kseq_bk {b : SemS} {Q : Fl → En → Prop} {e : En} (h : Q .bk e) : KSeq b Q .bk e := h
theorem kseq_ct {b : SemS} {Q : Fl → En → Prop} {e : En} (h : Q .ct e) : KSeq b Q .ct e := h
theorem w_seq {a b : SemS} {Q : Fl → En → Prop} {e : En} (h : W (a e) (KSeq b Q)) : W (sSeq a b e) Q := by
  obtain ⟨fl, e1, h, k⟩ := h
  unfold sSeq
  rw [h]
  cases fl with
  | nx => exact k
  | rt r => exact ⟨_, _, rfl, k⟩
  | bk => exact ⟨_, _, rfl, k⟩
  | ct => exact ⟨_, _, rfl, k⟩
theorem w_nil {Q : Fl → En → Prop} {e : En} (h : Q .nx e) : W (sNil e) Q := ⟨_, _, rfl, h⟩
theorem w_brk {Q : Fl → En → Prop} {e : En} (h : Q .bk e) : W (sBrk e) Q := ⟨_, _, rfl, h⟩
theorem w_cnt {Q : Fl → En → Prop} {e : En} (h : Q .ct e) : W (sCnt e) Q := ⟨_, _, rfl, h⟩
theorem w_drop {m : SemE} {Q : Fl → En → Prop} {e : En} (h : W (m e) fun _ e1 => Q .nx e1) : W (sDrop m e) Q :=
  w_bind (w_imp h fun _ _ q => ⟨_, _, rfl, q⟩)
def KIf (m1 m2 : SemS) (Q : Fl → En → Prop) : Bool → En → Prop := fun k e => (k = true → W (m1 e) Q) ∧ (k = false → W (m2 e) Q)
theorem w_if {c : SemT} {m1 m2 : SemS} {Q : Fl → En → Prop} {e : En} (h : W (c e) (KIf m1 m2 Q)) : W (sIf c m1 m2 e) Q :=
  w_bind (w_imp h fun k e1 q => by
    cases k with
    | true => exact q.1 rfl
    | false => exact q.2 rfl)
theorem kif_t {m1 m2 : SemS} {Q : Fl → En → Prop} {k : Bool} {e : En} (hk : k = true) (h : W (m1 e) Q) : KIf m1 m2 Q k e := ⟨fun _ => h, fun z => (by rw [hk] at z; cases z)⟩
theorem kif_f {m1 m2 : SemS} {Q : Fl → En → Prop} {k : Bool} {e : En} (hk : k = false) (h : W (m2 e) Q) : KIf m1 m2 Q k e := ⟨fun z => (by rw [hk] at z; cases z), fun _ => h⟩
theorem kif_d {m1 m2 : SemS} {Q : Fl → En → Prop} {p : Prop} [Decidable p] {e : En} (h1 : p → W (m1 e) Q) (h2 : ¬ p → W (m2 e) Q) : KIf m1 m2 Q (decide p) e := ⟨fun h => h1 (of_decide_eq_true h), fun h => h2 (of_decide_eq_false h)⟩
def KSet (i : Nat) (Q : Fl → En → Prop) : Od → En → Prop := fun r e => W (setO i r e) Q
theorem w_set {i : Nat} {m : SemE} {Q : Fl → En → Prop} {e : En} (h : W (m e) (KSet i Q)) : W (sSet i m e) Q := w_bind h
theorem isLent_of {e : En} {i : Nat} {l : Sl} (h : e[i]? = some l) (h2 : lentS l = false) : isLent e i = false := by rw [isLent_eq, h]; exact h2
theorem kset_r {i : Nat} {Q : Fl → En → Prop} {t : T} {e : En} (hl : isLent e i = false) (h : Q .nx (e.set i (.v t))) : KSet i Q (.r t) e := ⟨_, _, by unfold setO; rw [hl]; rfl, h⟩
theorem kset_b {i : Nat} {Q : Fl → En → Prop} {z : Bx} {e : En} (hl : isLent e i = false) (h : Q .nx (e.set i (.ow false z))) : KSet i Q (.b z) e := ⟨_, _, by unfold setO; rw [hl]; rfl, h⟩
theorem kset_s {i j : Nat} {Q : Fl → En → Prop} {t : T} {e e' : En} (hl : isLent e i = false) (he : esc (.s j) e = some (t, e')) (h : Q .nx (e'.set i (.v t))) : KSet i Q (.s j) e := ⟨_, _, by
  unfold setO; rw [hl]; simp only [he]; rfl, h⟩
def KRet (Q : Fl → En → Prop) : Od → En → Prop := fun r e => W (retO r e) Q
theorem w_ret {m : SemE} {Q : Fl → En → Prop} {e : En} (h : W (m e) (KRet Q)) : W (sRet m e) Q := w_bind h
theorem w_retN {Q : Fl → En → Prop} {e : En} (h : Q (.rt (.r .none)) e) : W (sRetN e) Q := ⟨_, _, rfl, h⟩
theorem kret_r {Q : Fl → En → Prop} {t : T} {e : En} (h : Q (.rt (.r t)) e) : KRet Q (.r t) e := ⟨_, _, rfl, h⟩
theorem kret_b {Q : Fl → En → Prop} {z : Bx} {e : En} (h : Q (.rt (.b z)) e) : KRet Q (.b z) e := ⟨_, _, rfl, h⟩
theorem kret_so {Q : Fl → En → Prop} {i : Nat} {z : Bx} {e : En} (hi : e[i]? = some (.ow false z)) (h : Q (.rt (.b z)) (e.set i .un)) : KRet Q (.s i) e := ⟨_, _, by unfold retO; simp only [hi], h⟩
def KAsg (g : SemG) (Q : Fl → En → Prop) : Od → En → Prop := fun r e => ∃ t e2, esc r e = some (t, e2) ∧ ∃ e3, g t e2 = some e3 ∧ Q .nx e3
theorem w_asg {g : SemG} {m : SemE} {Q : Fl → En → Prop} {e : En} (h : W (m e) (KAsg g Q)) : W (sAsg g m e) Q :=
  w_bind (w_imp h fun r e1 ⟨t, e2, h1, e3, h2, q⟩ => ⟨_, _, by simp only [h1, h2], q⟩)
theorem kasg {g : SemG} {Q : Fl → En → Prop} {r : Od} {e e2 e3 : En} {t : T} (h1 : esc r e = some (t, e2)) (h2 : g t e2 = some e3) (q : Q .nx e3) : KAsg g Q r e := ⟨t, e2, h1, e3, h2, q⟩
def KPar (is : List Nat) (Q : Fl → En → Prop) : List Od → En → Prop := fun rs e => ∃ rs' e2, presc rs e = some (rs', e2) ∧ ∃ e3, setOs is rs' e2 = some e3 ∧ Q .nx e3
theorem w_par {is : List Nat} {m : SemA} {Q : Fl → En → Prop} {e : En} (h : W (m e) (KPar is Q)) : W (sPar is m e) Q :=
  w_bind (w_imp h fun rs e1 ⟨rs', e2, h1, e3, h2, q⟩ => ⟨_, _, by simp only [h1, h2], q⟩)
theorem kpar {is : List Nat} {Q : Fl → En → Prop} {rs rs' : List Od} {e e2 e3 : En} (h1 : presc rs e = some (rs', e2)) (h2 : setOs is rs' e2 = some e3) (q : Q .nx e3) : KPar is Q rs e := ⟨rs', e2, h1, e3, h2, q⟩
theorem setOs_nil {e e' : En} (h : e' = e) : setOs [] [] e = some e' := by rw [h]; rfl
theorem setOs_r {i : Nat} {is : List Nat} {t : T} {rs : List Od} {e e' : En} (hl : isLent e i = false) (h : setOs is rs (e.set i (.v t)) = some e') : setOs (i :: is) (.r t :: rs) e = some e' := by
  unfold setOs setO; rw [hl]; exact h
theorem setOs_b {i : Nat} {is : List Nat} {z : Bx} {rs : List Od} {e e' : En} (hl : isLent e i = false) (h : setOs is rs (e.set i (.ow false z)) = some e') : setOs (i :: is) (.b z :: rs) e = some e' := by
  unfold setOs setO; rw [hl]; exact h
theorem gN_ok {i : Nat} {t : T} {e e' : En} (hl : isLent e i = false) (h : e' = e.set i (.v t)) : gN i t e = some e' := by unfold gN; rw [hl, h]; rfl
theorem gsNil_ok {e e' : En} (h : e' = e) : gsNil [] e = some e' := by rw [h]; rfl
theorem gsCons_ok {g : SemG} {gs : SemGs} {t : T} {ts : List T} {e e1 e' : En} (h1 : g t e = some e1) (h2 : gs ts e1 = some e') : gsCons g gs (t :: ts) e = some e' := by unfold gsCons; simp only [h1, h2]
theorem gT_ok {n : Nat} {gs : SemGs} {ts : List T} {e e' : En} (hn : ts.length = n) (h : gs ts e = some e') : gT n gs (.tuple ts) e = some e' := by unfold gT; simp only [hn, h, if_true]
def KAug (i : Nat) (t : T) (g : T → T → Option Od) (Q : Fl → En → Prop) : Od → En → Prop := fun r e => ∃ u k, r.val e = some u ∧ g t u = some (.r (.int k)) ∧ isLent e i = false ∧ Q .nx (e.set i (.v (.int k)))
theorem w_aug {i : Nat} {g : T → T → Option Od} {m : SemE} {Q : Fl → En → Prop} {e : En} {t : T} (hi : e[i]? = some (.v t)) (h : W (m e) (KAug i t g Q)) : W (sAug i g m e) Q := by
  unfold sAug
  simp only [hi]
  exact w_bind (w_imp h fun r e1 ⟨u, k, h1, h2, h3, q⟩ => ⟨_, _, by simp only [h1, h2, setO, h3]; rfl, q⟩)
theorem kaug {i : Nat} {t u : T} {g : T → T → Option Od} {Q : Fl → En → Prop} {r : Od} {e : En} {k : Int} (h1 : r.val e = some u) (h2 : g t u = some (.r (.int k))) (h3 : isLent e i = false) (q : Q .nx (e.set i (.v (.int k)))) : KAug i t g Q r e := ⟨u, k, h1, h2, h3, q⟩
def KSetIx2 (i : Nat) (r : Od) (Q : Fl → En → Prop) : Od → En → Prop := fun ri e2 => ∃ k t e3 l ts j, ri.val e2 = some (.int k) ∧ esc r e2 = some (t, e3) ∧ e3[i]? = some (.ow l (.l ts)) ∧ L2.ixN ts.length k = some j ∧ Q .nx (e3.set i (.ow l (.l (ts.set j t))))
def KSetIx1 (i : Nat) (mi : SemE) (Q : Fl → En → Prop) : Od → En → Prop := fun r e1 => ∃ l ts, e1[i]? = some (.ow l (.l ts)) ∧ W (mi e1) (KSetIx2 i r Q)
theorem w_setix {i : Nat} {mi mv : SemE} {Q : Fl → En → Prop} {e : En} (h : W (mv e) (KSetIx1 i mi Q)) : W (sSetIx i mi mv e) Q := by
  refine w_bind (w_imp h fun r e1 ⟨l, ts, h1, h2⟩ => ?_)
  simp only [h1]
  exact w_bind (w_imp h2 fun ri e2 ⟨k, t, e3, l, ts, j, q1, q2, q3, q4, q⟩ => ⟨_, _, by simp only [q1, q2, q3, q4], q⟩)
theorem ksetix1 {i : Nat} {mi : SemE} {Q : Fl → En → Prop} {r : Od} {e1 : En} {l : Bool} {ts : List T} (h1 : e1[i]? = some (.ow l (.l ts))) (h : W (mi e1) (KSetIx2 i r Q)) : KSetIx1 i mi Q r e1 := ⟨l, ts, h1, h⟩
theorem ksetix2 {i : Nat} {Q : Fl → En → Prop} {r ri : Od} {e2 e3 : En} {k : Int} {t : T} {l : Bool} {ts : List T} {j : Nat} (q1 : ri.val e2 = some (.int k)) (q2 : esc r e2 = some (t, e3)) (q3 : e3[i]? = some (.ow l (.l ts))) (q4 : L2.ixN ts.length k = some j) (q : Q .nx (e3.set i (.ow l (.l (ts.set j t))))) :
    KSetIx2 i r Q ri e2 := ⟨k, t, e3, l, ts, j, q1, q2, q3, q4, q⟩
theorem ixN_nat {n k : Nat} (h : k < n) : L2.ixN n (k : Int) = some k := by unfold L2.ixN; simp [h]
/-! ### tests -/
def KTb (Q : Bool → En → Prop) : Od → En → Prop := fun r e => ∃ k, r.val e = some (.bool k) ∧ Q k e
theorem w_tb {m : SemE} {Q : Bool → En → Prop} {e : En} (h : W (m e) (KTb Q)) : W (tb m e) Q := w_bind (w_imp h fun r e1 ⟨k, h1, q⟩ => ⟨_, _, by simp only [h1], q⟩)
theorem ktb {Q : Bool → En → Prop} {k : Bool} {e : En} (q : Q k e) : KTb Q (.r (.bool k)) e := ⟨k, rfl, q⟩
theorem ktb_s {Q : Bool → En → Prop} {r : Od} {k : Bool} {e : En} (h : r.val e = some (.bool k)) (q : Q k e) : KTb Q r e := ⟨k, h, q⟩
theorem w_tnot {t : SemT} {Q : Bool → En → Prop} {e : En} (h : W (t e) fun k e1 => Q (!k) e1) : W (Ev.tNot t e) Q := w_bind (w_imp h fun k e1 q => ⟨_, _, rfl, q⟩)
def KAnd (t : SemT) (Q : Bool → En → Prop) : Bool → En → Prop := fun k e => (k = true → W (t e) Q) ∧ (k = false → Q false e)
theorem w_tand {t1 t2 : SemT} {Q : Bool → En → Prop} {e : En} (h : W (t1 e) (KAnd t2 Q)) : W (Ev.tAnd t1 t2 e) Q := w_bind (w_imp h fun k e1 q => by
  cases k with
  | true => exact q.1 rfl
  | false => exact ⟨_, _, rfl, q.2 rfl⟩)
theorem kand_t {t : SemT} {Q : Bool → En → Prop} {k : Bool} {e : En} (hk : k = true) (h : W (t e) Q) : KAnd t Q k e := ⟨fun _ => h, fun z => (by rw [hk] at z; cases z)⟩
theorem kand_f {t : SemT} {Q : Bool → En → Prop} {k : Bool} {e : En} (hk : k = false) (h : Q false e) : KAnd t Q k e := ⟨fun z => (by rw [hk] at z; cases z), fun _ => h⟩
def KOr (t : SemT) (Q : Bool → En → Prop) : Bool → En → Prop := fun k e => (k = true → Q true e) ∧ (k = false → W (t e) Q)
theorem w_tor {t1 t2 : SemT} {Q : Bool → En → Prop} {e : En} (h : W (t1 e) (KOr t2 Q)) : W (Ev.tOr t1 t2 e) Q := w_bind (w_imp h fun k e1 q => by
  cases k with
  | true => exact ⟨_, _, rfl, q.1 rfl⟩
  | false => exact q.2 rfl)
theorem kor_t {t : SemT} {Q : Bool → En → Prop} {k : Bool} {e : En} (hk : k = true) (h : Q true e) : KOr t Q k e := ⟨fun _ => h, fun z => (by rw [hk] at z; cases z)⟩
theorem kor_f {t : SemT} {Q : Bool → En → Prop} {k : Bool} {e : En} (hk : k = false) (h : W (t e) Q) : KOr t Q k e := ⟨fun z => (by rw [hk] at z; cases z), fun _ => h⟩
theorem w_true {Q : Bool → En → Prop} {e : En} (h : Q true e) : W (tTrue e) Q := ⟨_, _, rfl, h⟩
/-! ### expressions -/
theorem w_var_v {i : Nat} {t : T} {e : En} {Q : Od → En → Prop} (hi : e[i]? = some (.v t)) (q : Q (.r t) e) : W (eVar i e) Q := ⟨_, _, by unfold eVar; rw [hi], q⟩
theorem w_var_f {i : Nat} {z : Bx} {e : En} {Q : Od → En → Prop} (hi : e[i]? = some (.fz z)) (q : Q (.r z.t) e) : W (eVar i e) Q := ⟨_, _, by unfold eVar; rw [hi], q⟩
theorem w_var_o {i : Nat} {l : Bool} {z : Bx} {e : En} {Q : Od → En → Prop} (hi : e[i]? = some (.ow l z)) (q : Q (.s i) e) : W (eVar i e) Q := ⟨_, _, by unfold eVar; rw [hi], q⟩
theorem w_k {t : T} {e : En} {Q : Od → En → Prop} (q : Q (.r t) e) : W (eK t e) Q := ⟨_, _, rfl, q⟩
def KTwo1 (mb : SemE) (g : T → T → Option Od) (Q : Od → En → Prop) : Od → En → Prop := fun r e1 => W (mb e1) fun r2 e2 => ∃ t u w, r.val e2 = some t ∧ r2.val e2 = some u ∧ g t u = some w ∧ Q w e2
def KTwo2 (r : Od) (g : T → T → Option Od) (Q : Od → En → Prop) : Od → En → Prop := fun r2 e2 => ∃ t u w, r.val e2 = some t ∧ r2.val e2 = some u ∧ g t u = some w ∧ Q w e2
theorem w_op2 {g : T → T → Option Od} {ma mb : SemE} {Q : Od → En → Prop} {e : En} (h : W (ma e) (KTwo1 mb g Q)) : W (eOp2 g ma mb e) Q :=
  w_bind (w_imp h fun r e1 h1 => w_bind (w_imp h1 fun r2 e2 ⟨t, u, w, q1, q2, q3, q⟩ => ⟨_, _, by unfold v2; simp only [q1, q2, q3], q⟩))
theorem ktwo1 {mb : SemE} {g : T → T → Option Od} {Q : Od → En → Prop} {r : Od} {e1 : En} (h : W (mb e1) (KTwo2 r g Q)) : KTwo1 mb g Q r e1 := h
theorem ktwo2 {r r2 : Od} {g : T → T → Option Od} {Q : Od → En → Prop} {e2 : En} {t u : T} {w : Od} (h1 : r.val e2 = some t) (h2 : r2.val e2 = some u) (h3 : g t u = some w) (q : Q w e2) : KTwo2 r g Q r2 e2 := ⟨t, u, w, h1, h2, h3, q⟩
theorem w_anil {e : En} {Q : List Od → En → Prop} (q : Q [] e) : W (aNil e) Q := ⟨_, _, rfl, q⟩
def KCons1 (r : SemA) (Q : List Od → En → Prop) : Od → En → Prop := fun x e1 => W (r e1) fun xs e2 => Q (x :: xs) e2
theorem w_acons {m : SemE} {r : SemA} {Q : List Od → En → Prop} {e : En} (h : W (m e) (KCons1 r Q)) : W (aCons m r e) Q :=
  w_bind (w_imp h fun x e1 h1 => w_bind (w_imp h1 fun xs e2 q => ⟨_, _, rfl, q⟩))
theorem kcons1 {r : SemA} {Q : List Od → En → Prop} {x : Od} {e1 : En} (h : W (r e1) fun xs e2 => Q (x :: xs) e2) : KCons1 r Q x e1 := h
def KFnG (g : List T → Option Od) (Q : Od → En → Prop) : List Od → En → Prop := fun rs e1 => ∃ ts w, vals e1 rs = some ts ∧ g ts = some w ∧ Q w e1
theorem w_fng {g : List T → Option Od} {ma : SemA} {Q : Od → En → Prop} {e : En} (h : W (ma e) (KFnG g Q)) : W (eFn g ma e) Q :=
  w_bind (w_imp h fun rs e1 ⟨ts, w, h1, h2, q⟩ => ⟨_, _, by simp only [h1, h2], q⟩)
theorem kfng {g : List T → Option Od} {Q : Od → En → Prop} {rs : List Od} {e1 : En} {ts : List T} {w : Od} (h1 : vals e1 rs = some ts) (h2 : g ts = some w) (q : Q w e1) : KFnG g Q rs e1 := ⟨ts, w, h1, h2, q⟩
def KDisp (k : List T → Od) (Q : Od → En → Prop) : List Od → En → Prop := fun rs e1 => ∃ ts e2, escs rs e1 = some (ts, e2) ∧ ts.length ≤ sizeLine ∧ Q (k ts) e2
theorem w_tup {m : SemA} {Q : Od → En → Prop} {e : En} (h : W (m e) (KDisp (fun ts => .r (.tuple ts)) Q)) : W (eTup m e) Q :=
  w_bind (w_imp h fun rs e1 ⟨ts, e2, h1, h2, q⟩ => ⟨_, _, by simp only [h1, h2, if_true], q⟩)
theorem w_lst {m : SemA} {Q : Od → En → Prop} {e : En} (h : W (m e) (KDisp (fun ts => .b (.l ts)) Q)) : W (eLst m e) Q :=
  w_bind (w_imp h fun rs e1 ⟨ts, e2, h1, h2, q⟩ => ⟨_, _, by simp only [h1, h2, if_true], q⟩)
theorem kdisp_t {Q : Od → En → Prop} {rs : List Od} {e1 e2 : En} {ts : List T} (h1 : escs rs e1 = some (ts, e2)) (h2 : Nat.ble ts.length 64 = true) (q : Q (.r (.tuple ts)) e2) : KDisp (fun ts => .r (.tuple ts)) Q rs e1 := ⟨ts, e2, h1, Nat.le_trans (Nat.le_of_ble_eq_true h2) (by unfold sizeLine; omega), q⟩
theorem kdisp_l {Q : Od → En → Prop} {rs : List Od} {e1 e2 : En} {ts : List T} (h1 : escs rs e1 = some (ts, e2)) (h2 : Nat.ble ts.length 64 = true) (q : Q (.b (.l ts)) e2) : KDisp (fun ts => .b (.l ts)) Q rs e1 := ⟨ts, e2, h1, Nat.le_trans (Nat.le_of_ble_eq_true h2) (by unfold sizeLine; omega), q⟩
def KCall (n : Nat) (m : FSem) (Q : Od → En → Prop) : List Od → En → Prop := fun rs e1 => rs.length = n ∧ ∃ ss, toSls e1 rs = some ss ∧ (sIdx rs).Nodup ∧ W (m ss) fun r ss' => (∀ i, r ≠ .s i) ∧ Q r (wb rs ss' e1)
theorem callR_w {m : FSem} {rs : List Od} {e1 : En} {ss : List Sl} {Q : Od → En → Prop} (h1 : toSls e1 rs = some ss) (h2 : (sIdx rs).Nodup) (h : W (m ss) fun r ss' => (∀ i, r ≠ .s i) ∧ Q r (wb rs ss' e1)) : W (eCallR m rs e1) Q := by
  obtain ⟨r, ss', h3, h4, q⟩ := h
  unfold eCallR
  simp only [h1, h2, h3, if_true]
  cases r with
  | s i => exact absurd rfl (h4 i)
  | r t => exact ⟨_, _, rfl, q⟩
  | b z => exact ⟨_, _, rfl, q⟩
theorem w_call {n : Nat} {m : FSem} {ma : SemA} {Q : Od → En → Prop} {e : En} (h : W (ma e) (KCall n m Q)) : W (eCall n m ma e) Q :=
  w_bind (w_imp h fun rs e1 ⟨h1, ss, h2, h3, h4⟩ => by rw [if_pos h1]; exact callR_w h2 h3 h4)
/-- what comes back of a call -/
def KBack (rs : List Od) (e1 : En) (Q : Od → En → Prop) : Od → En → Prop := fun r ss' => (∀ i, r ≠ .s i) ∧ Q r (wb rs ss' e1)
theorem kcall {n : Nat} {m : FSem} {Q : Od → En → Prop} {rs : List Od} {e1 : En} {ss : List Sl} (h1 : rs.length = n) (h2 : toSls e1 rs = some ss) (h3 : (sIdx rs).Nodup) (h : W (m ss) (KBack rs e1 Q)) : KCall n m Q rs e1 := ⟨h1, ss, h2, h3, h⟩
def KCallK (n : Nat) (perm : List Nat) (m : FSem) (Q : Od → En → Prop) : List Od → En → Prop := fun rs e1 => ((pick perm rs).length = n ∧ rs.length = n ∧ perm.Nodup) ∧ ∃ ss, toSls e1 (pick perm rs) = some ss ∧ (sIdx (pick perm rs)).Nodup ∧ W (m ss) (KBack (pick perm rs) e1 Q)
theorem w_callk {n : Nat} {perm : List Nat} {m : FSem} {ma : SemA} {Q : Od → En → Prop} {e : En} (h : W (ma e) (KCallK n perm m Q)) : W (eCallK n perm m ma e) Q :=
  w_bind (w_imp h fun rs e1 ⟨h1, ss, h2, h3, h4⟩ => by rw [if_pos h1]; exact callR_w h2 h3 h4)
theorem kcallk {n : Nat} {perm : List Nat} {m : FSem} {Q : Od → En → Prop} {rs : List Od} {e1 : En} {ss : List Sl} (h0 : perm.Nodup) (h1 : (pick perm rs).length = n ∧ rs.length = n) (h2 : toSls e1 (pick perm rs) = some ss) (h3 : (sIdx (pick perm rs)).Nodup) (h : W (m ss) (KBack (pick perm rs) e1 Q)) : KCallK n perm m Q rs e1 := ⟨⟨h1.1, h1.2, h0⟩, ss, h2, h3, h⟩
def KMut2 (i : Nat) (g : List T → List T → Option (List T × T)) (Q : Od → En → Prop) : List Od → En → Prop := fun rs e1 => ∃ us e2 l ts ts' w, escs rs e1 = some (us, e2) ∧ e2[i]? = some (.ow l (.l ts)) ∧ g ts us = some (ts', w) ∧ Q (.r w) (e2.set i (.ow l (.l ts')))
theorem w_mut {i : Nat} {g : List T → List T → Option (List T × T)} {ma : SemA} {Q : Od → En → Prop} {e : En} {l : Bool} {ts : List T} (hi : e[i]? = some (.ow l (.l ts))) (h : W (ma e) (KMut2 i g Q)) : W (eMut i g ma e) Q := by
  unfold eMut
  simp only [hi]
  exact w_bind (w_imp h fun rs e1 ⟨us, e2, l, ts, ts', w, h1, h2, h3, q⟩ => ⟨_, _, by simp only [h1, h2, h3], q⟩)
theorem kmut2 {i : Nat} {g : List T → List T → Option (List T × T)} {Q : Od → En → Prop} {rs : List Od} {e1 e2 : En} {us ts ts' : List T} {w : T} {l : Bool} (h1 : escs rs e1 = some (us, e2)) (h2 : e2[i]? = some (.ow l (.l ts))) (h3 : g ts us = some (ts', w)) (q : Q (.r w) (e2.set i (.ow l (.l ts')))) : KMut2 i g Q rs e1 := ⟨us, e2, l, ts, ts', w, h1, h2, h3, q⟩
theorem gAppend_ok {ts : List T} {u : T} (h : ts.length < sizeLine) : gAppend ts [u] = some (ts ++ [u], .none) := by unfold gAppend; simp only [h, if_true]
def KAndE (mb : SemE) (Q : Od → En → Prop) : Bool → En → Prop := fun k e => (k = true → W (mb e) Q) ∧ (k = false → Q (.r (.bool false)) e)
theorem w_eand {ma mb : SemE} {Q : Od → En → Prop} {e : En} (h : W (tb ma e) (KAndE mb Q)) : W (eAnd ma mb e) Q := w_bind (w_imp h fun k e1 q => by
  cases k with
  | true => exact q.1 rfl
  | false => exact ⟨_, _, rfl, q.2 rfl⟩)
theorem kande_t {mb : SemE} {Q : Od → En → Prop} {k : Bool} {e : En} (hk : k = true) (h : W (mb e) Q) : KAndE mb Q k e := ⟨fun _ => h, fun z => (by rw [hk] at z; cases z)⟩
theorem kande_f {mb : SemE} {Q : Od → En → Prop} {k : Bool} {e : En} (hk : k = false) (h : Q (.r (.bool false)) e) : KAndE mb Q k e := ⟨fun z => (by rw [hk] at z; cases z), fun _ => h⟩
def KOrE (mb : SemE) (Q : Od → En → Prop) : Bool → En → Prop := fun k e => (k = true → Q (.r (.bool true)) e) ∧ (k = false → W (mb e) Q)
theorem w_eor {ma mb : SemE} {Q : Od → En → Prop} {e : En} (h : W (tb ma e) (KOrE mb Q)) : W (eOr ma mb e) Q := w_bind (w_imp h fun k e1 q => by
  cases k with
  | true => exact ⟨_, _, rfl, q.1 rfl⟩
  | false => exact q.2 rfl)
theorem kore_t {mb : SemE} {Q : Od → En → Prop} {k : Bool} {e : En} (hk : k = true) (h : Q (.r (.bool true)) e) : KOrE mb Q k e := ⟨fun _ => h, fun z => (by rw [hk] at z; cases z)⟩
theorem kore_f {mb : SemE} {Q : Od → En → Prop} {k : Bool} {e : En} (hk : k = false) (h : W (mb e) Q) : KOrE mb Q k e := ⟨fun z => (by rw [hk] at z; cases z), fun _ => h⟩
theorem w_enot {ma : SemE} {Q : Od → En → Prop} {e : En} (h : W (tb ma e) fun k e1 => Q (.r (.bool !k)) e1) : W (eNot ma e) Q := w_bind (w_imp h fun k e1 q => ⟨_, _, rfl, q⟩)
def KIfE (ma mb : SemE) (Q : Od → En → Prop) : Bool → En → Prop := fun k e => (k = true → W (ma e) Q) ∧ (k = false → W (mb e) Q)
theorem w_eif {t : SemT} {ma mb : SemE} {Q : Od → En → Prop} {e : En} (h : W (t e) (KIfE ma mb Q)) : W (eIf t ma mb e) Q := w_bind (w_imp h fun k e1 q => by
  cases k with
  | true => exact q.1 rfl
  | false => exact q.2 rfl)
theorem kife_t {ma mb : SemE} {Q : Od → En → Prop} {k : Bool} {e : En} (hk : k = true) (h : W (ma e) Q) : KIfE ma mb Q k e := ⟨fun _ => h, fun z => (by rw [hk] at z; cases z)⟩
theorem kife_f {ma mb : SemE} {Q : Od → En → Prop} {k : Bool} {e : En} (hk : k = false) (h : W (mb e) Q) : KIfE ma mb Q k e := ⟨fun z => (by rw [hk] at z; cases z), fun _ => h⟩
theorem kife_d {ma mb : SemE} {Q : Od → En → Prop} {p : Prop} [Decidable p] {e : En} (h1 : p → W (ma e) Q) (h2 : ¬ p → W (mb e) Q) : KIfE ma mb Q (decide p) e := ⟨fun h => h1 (of_decide_eq_true h), fun h => h2 (of_decide_eq_false h)⟩
def KNeg (Q : Od → En → Prop) : Od → En → Prop := fun r e => ∃ i, r.val e = some (.int i) ∧ Q (.r (.int (-i))) e
theorem w_neg {m : SemE} {Q : Od → En → Prop} {e : En} (h : W (m e) (KNeg Q)) : W (eNeg m e) Q := w_bind (w_imp h fun r e1 ⟨i, h1, q⟩ => ⟨_, _, by simp only [h1], q⟩)
theorem kneg {Q : Od → En → Prop} {r : Od} {e : En} {i : Int} (h : r.val e = some (.int i)) (q : Q (.r (.int (-i))) e) : KNeg Q r e := ⟨i, h, q⟩
def KIsi (f : T → Bool) (Q : Od → En → Prop) : Od → En → Prop := fun r e => ∃ t, r.val e = some t ∧ Q (.r (.bool (f t))) e
theorem w_isi {f : T → Bool} {m : SemE} {Q : Od → En → Prop} {e : En} (h : W (m e) (KIsi f Q)) : W (eIsi f m e) Q := w_bind (w_imp h fun r e1 ⟨t, h1, q⟩ => ⟨_, _, by simp only [h1], q⟩)
theorem kisi {f : T → Bool} {Q : Od → En → Prop} {r : Od} {e : En} {t : T} (h : r.val e = some t) (q : Q (.r (.bool (f t))) e) : KIsi f Q r e := ⟨t, h, q⟩
/-- slices -/
def KSl (lo hi : SemP) (Q : Od → En → Prop) : Od → En → Prop := fun r e1 => W (lo e1) fun l e2 => W (hi e2) fun h e3 => (∃ ts, r.val e3 = some (.list ts) ∧ Q (.b (.l (cutT ts l h))) e3) ∨ (∃ ts, r.val e3 = some (.tuple ts) ∧ Q (.r (.tuple (cutT ts l h))) e3)
theorem w_sl {m : SemE} {lo hi : SemP} {Q : Od → En → Prop} {e : En} (h : W (m e) (KSl lo hi Q)) : W (eSl m lo hi e) Q :=
  w_bind (w_imp h fun r e1 h1 => w_bind (w_imp h1 fun l e2 h2 => w_bind (w_imp h2 fun x e3 h3 => by
    rcases h3 with ⟨ts, h4, q⟩ | ⟨ts, h4, q⟩
    · exact ⟨_, _, by simp only [h4], q⟩
    · exact ⟨_, _, by simp only [h4], q⟩)))
theorem w_pno {Q : Option Int → En → Prop} {e : En} (q : Q none e) : W (pNo e) Q := ⟨_, _, rfl, q⟩
def KPso (Q : Option Int → En → Prop) : Od → En → Prop := fun r e => ∃ i, r.val e = some (.int i) ∧ Q (some i) e
theorem w_pso {m : SemE} {Q : Option Int → En → Prop} {e : En} (h : W (m e) (KPso Q)) : W (pSo m e) Q := w_bind (w_imp h fun r e1 ⟨i, h1, q⟩ => ⟨_, _, by simp only [h1], q⟩)
theorem kpso {Q : Option Int → En → Prop} {r : Od} {e : En} {i : Int} (h : r.val e = some (.int i)) (q : Q (some i) e) : KPso Q r e := ⟨i, h, q⟩
def KRev (Q : Od → En → Prop) : Od → En → Prop := fun r e3 => (∃ ts, r.val e3 = some (.list ts) ∧ Q (.b (.l ts.reverse)) e3) ∨ (∃ ts, r.val e3 = some (.tuple ts) ∧ Q (.r (.tuple ts.reverse)) e3)
theorem w_rev {m : SemE} {Q : Od → En → Prop} {e : En} (h : W (m e) (KRev Q)) : W (eRev m e) Q :=
  w_bind (w_imp h fun r e1 h1 => by
    rcases h1 with ⟨ts, h4, q⟩ | ⟨ts, h4, q⟩
    · exact ⟨_, _, by simp only [h4], q⟩
    · exact ⟨_, _, by simp only [h4], q⟩)
theorem krev_l {Q : Od → En → Prop} {r : Od} {e : En} {ts : List T} (h : r.val e = some (.list ts)) (q : Q (.b (.l ts.reverse)) e) : KRev Q r e := .inl ⟨ts, h, q⟩
theorem krev_t {Q : Od → En → Prop} {r : Od} {e : En} {ts : List T} (h : r.val e = some (.tuple ts)) (q : Q (.r (.tuple ts.reverse)) e) : KRev Q r e := .inr ⟨ts, h, q⟩
def KIndex1 (ma : SemA) (Q : Od → En → Prop) : Od → En → Prop := fun r e1 => ∃ ts0, r.val e1 = some (.list ts0) ∧ W (ma e1) fun rs e2 => ∃ ts u j, r.val e2 = some (.list ts) ∧ vals e2 rs = some [u] ∧ SeqAt.shaped (.list ts) = true ∧ SeqAt.shaped u = true ∧ findT ts u = some j ∧ Q (.r (.int (j : Nat))) e2
theorem w_index {mo : SemE} {ma : SemA} {Q : Od → En → Prop} {e : En} (h : W (mo e) (KIndex1 ma Q)) : W (eIndex mo ma e) Q :=
  w_bind (w_imp h fun r e1 ⟨ts0, h1, h2⟩ => by
    simp only [h1]
    exact w_bind (w_imp h2 fun rs e2 ⟨ts, u, j, q1, q2, q3, q4, q5, q⟩ => ⟨_, _, by simp only [q1, q2, q3, q4, q5, Bool.and_self, if_true], q⟩))
/-! ### functions -/
def KFun (ss : List Sl) (Q : Od → En → Prop) : Fl → En → Prop := fun fl e' => match fl with
  | .nx => Q (.r .none) (finE ss e')
  | .rt r => Q r (finE ss e')
  | _ => False
theorem w_fun {n : Nat} {b : SemS} {ss : List Sl} {e0 : En} {Q : Od → En → Prop} (h0 : ss.all okArg = true) (he : e0 = ss ++ List.replicate (n - ss.length) .un) (h : W (b e0) (KFun ss Q)) : W (runFn n b ss) Q := by
  obtain ⟨fl, e', h1, q⟩ := h
  unfold runFn
  rw [if_pos h0, ← he, h1]
  cases fl with
  | nx => exact ⟨_, _, rfl, q⟩
  | rt r => exact ⟨_, _, rfl, q⟩
  | bk => exact q.elim
  | ct => exact q.elim
theorem kfun_rt {ss : List Sl} {Q : Od → En → Prop} {r : Od} {e' : En} (q : Q r (finE ss e')) : KFun ss Q (.rt r) e' := q
theorem kfun_nx {ss : List Sl} {Q : Od → En → Prop} {e' : En} (q : Q (.r .none) (finE ss e')) : KFun ss Q .nx e' := q
/-! ### loops -/
def KFor (g : SemG) (b : SemS) (Q : Fl → En → Prop) : List T → En → Prop := fun ts e => W (forS g b ts e) Q
theorem w_for {mi : SemI} {g : SemG} {b : SemS} {Q : Fl → En → Prop} {e : En} (h : W (mi e) (KFor g b Q)) : W (sFor mi g b e) Q := w_bind h
def KOf (Q : List T → En → Prop) : Od → En → Prop := fun r e => ∃ ts e2, (esc r e = some (.list ts, e2) ∨ esc r e = some (.tuple ts, e2)) ∧ Q ts e2
theorem w_iof {m : SemE} {Q : List T → En → Prop} {e : En} (h : W (m e) (KOf Q)) : W (iOf m e) Q := w_bind (w_imp h fun r e1 ⟨ts, e2, h1, q⟩ => by
  rcases h1 with h1 | h1 <;> exact ⟨_, _, by simp only [h1], q⟩)
theorem kof_l {Q : List T → En → Prop} {r : Od} {e e2 : En} {ts : List T} (h : esc r e = some (.list ts, e2)) (q : Q ts e2) : KOf Q r e := ⟨ts, e2, .inl h, q⟩
theorem kof_t {Q : List T → En → Prop} {r : Od} {e e2 : En} {ts : List T} (h : esc r e = some (.tuple ts, e2)) (q : Q ts e2) : KOf Q r e := ⟨ts, e2, .inr h, q⟩
/-- the numbers below n -/
def below (n : Nat) : List T := (List.range n).map fun (k : Nat) => PyData.int (k : Int)
theorem below_is (n : Nat) : intsT 0 n = below n := by
  unfold intsT below
  exact List.map_congr_left fun k _ => by rw [Int.zero_add]
def KR1 (Q : List T → En → Prop) : List Od → En → Prop := fun rs e => ∃ n : Nat, vals e rs = some [.int (n : Int)] ∧ n < 16777216 ∧ Q (below n) e
theorem w_r1 {m : SemA} {Q : List T → En → Prop} {e : En} (h : W (m e) (KR1 Q)) : W (iR1 m e) Q := w_bind (w_imp h fun rs e1 ⟨n, h1, h2, q⟩ => by
  simp only [h1]
  rw [if_pos ⟨by omega, by omega⟩]
  refine ⟨_, _, rfl, ?_⟩
  rw [Int.toNat_natCast, below_is]
  exact q)
theorem kr1 {Q : List T → En → Prop} {rs : List Od} {e : En} {n : Nat} (h1 : vals e rs = some [.int (n : Int)]) (h2 : n < 16777216) (q : Q (below n) e) : KR1 Q rs e := ⟨n, h1, h2, q⟩
theorem kr1_eq {Q : List T → En → Prop} {rs : List Od} {e : En} {j : Int} (n : Nat) (h1 : vals e rs = some [.int j]) (hj : j = (n : Int)) (h2 : n < 16777216) (q : Q (below n) e) : KR1 Q rs e := ⟨n, by rw [h1, hj], h2, q⟩
/-- the numbers from lo on -/
def above (lo : Int) (n : Nat) : List T := (List.range n).map fun (k : Nat) => PyData.int (lo + (k : Int))
def KR2 (Q : List T → En → Prop) : List Od → En → Prop := fun rs e => ∃ i j : Int, vals e rs = some [.int i, .int j] ∧ (-(2 ^ 62) ≤ i ∧ i < 2 ^ 62 ∧ -(2 ^ 62) ≤ j ∧ j < 2 ^ 62) ∧ Q (above i (j - i).toNat) e
theorem w_r2 {m : SemA} {Q : List T → En → Prop} {e : En} (h : W (m e) (KR2 Q)) : W (iR2 m e) Q := w_bind (w_imp h fun rs e1 ⟨i, j, h1, h2, q⟩ => by
  simp only [h1]
  rw [if_pos h2]
  exact ⟨_, _, rfl, q⟩)
def KZip (Q : List T → En → Prop) : List Od → En → Prop := fun rs e => ∃ ts us e2, escs rs e = some ([.list ts, .list us], e2) ∧ Q (pairs ts us) e2
theorem w_izip {m : SemA} {Q : List T → En → Prop} {e : En} (h : W (m e) (KZip Q)) : W (iZip m e) Q := w_bind (w_imp h fun rs e1 ⟨ts, us, e2, h1, q⟩ => ⟨_, _, by simp only [h1], q⟩)
def KEnu (Q : List T → En → Prop) : List Od → En → Prop := fun rs e => ∃ ts e2, escs rs e = some ([.list ts], e2) ∧ Q (enumT ts) e2
theorem w_ienu {m : SemA} {Q : List T → En → Prop} {e : En} (h : W (m e) (KEnu Q)) : W (iEnu m e) Q := w_bind (w_imp h fun rs e1 ⟨ts, e2, h1, q⟩ => ⟨_, _, by simp only [h1], q⟩)
/-- what a turn of a loop leaves -/
def KTurn (I : En → Prop) (R : Od → En → Prop) (X : En → Prop) : Fl → En → Prop := fun fl e => match fl with
  | .nx => I e
  | .ct => I e
  | .rt r => R r e
  | .bk => X e
theorem kturn_nx {I : En → Prop} {R : Od → En → Prop} {X : En → Prop} {e : En} (h : I e) : KTurn I R X .nx e := h
theorem kturn_ct {I : En → Prop} {R : Od → En → Prop} {X : En → Prop} {e : En} (h : I e) : KTurn I R X .ct e := h
theorem kturn_rt {I : En → Prop} {R : Od → En → Prop} {X : En → Prop} {r : Od} {e : En} (h : R r e) : KTurn I R X (.rt r) e := h
theorem kturn_bk {I : En → Prop} {R : Od → En → Prop} {X : En → Prop} {e : En} (h : X e) : KTurn I R X .bk e := h
/-- a loop by what is done -/
theorem for_w {α : Type} (inn : α → T) (I : List α → En → Prop) {g : SemG} {b : SemS} {Q : Fl → En → Prop} : ∀ (xs don : List α) (e : En), I don e →
    (∀ (d2 : List α) (x : α) (rest : List α), xs = d2 ++ x :: rest → ∀ e, I (don ++ d2) e → ∃ e1, g (inn x) e = some e1 ∧ W (b e1) (KTurn (I (don ++ d2 ++ [x])) (fun r e => Q (.rt r) e) (fun e => Q .nx e))) →
    (∀ e, I (don ++ xs) e → Q .nx e) → W (forS g b (xs.map inn) e) Q
  | [], don, e, h, _, q => ⟨_, _, rfl, q e (by rw [List.append_nil]; exact h)⟩
  | x :: xs, don, e, h, s, q => by
    obtain ⟨e1, h1, fl, e2, h2, h3⟩ := s [] x xs rfl e (by rw [List.append_nil]; exact h)
    rw [List.append_nil] at h3
    rw [List.map_cons, forS, h1]
    simp only [h2]
    have go : I (don ++ [x]) e2 → W (forS g b (xs.map inn) e2) Q := fun h3 =>
      for_w inn I xs (don ++ [x]) e2 h3 (fun d2 y rest hx e hi => by
        have := s (x :: d2) y rest (by rw [hx]; rfl) e (by rw [List.append_assoc] at hi; exact hi)
        rw [show don ++ x :: d2 = don ++ [x] ++ d2 by rw [List.append_assoc]; rfl] at this
        exact this) fun e hi => q e (by rw [List.append_assoc] at hi; exact hi)
    cases fl with
    | nx => exact go h3
    | ct => exact go h3
    | rt r => exact ⟨_, _, rfl, h3⟩
    | bk => exact ⟨_, _, rfl, h3⟩
theorem for_on_w {α : Type} (inn : α → T) (xs : List α) (I : List α → En → Prop) {g : SemG} {b : SemS} {Q : Fl → En → Prop} {e : En} (h0 : I [] e)
    (hs : ∀ (don : List α) (x : α) (rest : List α), xs = don ++ x :: rest → ∀ e, I don e → ∃ e1, g (inn x) e = some e1 ∧ W (b e1) (KTurn (I (don ++ [x])) (fun r e => Q (.rt r) e) (fun e => Q .nx e)))
    (hq : ∀ e, I xs e → Q .nx e) : W (forS g b (xs.map inn) e) Q :=
  for_w inn I xs [] e h0 (fun d2 x rest hx e hi => by rw [List.nil_append] at hi ⊢; exact hs d2 x rest hx e hi) hq
theorem range_cut {n : Nat} {don rest : List Nat} {k : Nat} (h : List.range n = don ++ k :: rest) : don = List.range k ∧ k < n := by
  have hk : don.length < n := by
    have := congrArg List.length h
    rw [List.length_range, List.length_append, List.length_cons] at this
    omega
  have e : (List.range n)[don.length]? = some k := by rw [h]; simp
  rw [List.getElem?_range hk] at e
  have e : don.length = k := by simpa using e
  subst e
  refine ⟨?_, hk⟩
  have := congrArg (List.take don.length) h
  rw [List.take_range, List.take_left, Nat.min_eq_left (Nat.le_of_lt hk)] at this
  exact this.symm
/-- a loop over the numbers below n -/
theorem for_below {n : Nat} (I : Nat → En → Prop) {g : SemG} {b : SemS} {Q : Fl → En → Prop} {e : En} (h0 : I 0 e)
    (hs : ∀ k, k < n → ∀ e, I k e → ∃ e1, g (.int (k : Int)) e = some e1 ∧ W (b e1) (KTurn (I (k + 1)) (fun r e => Q (.rt r) e) (fun e => Q .nx e)))
    (hq : ∀ e, I n e → Q .nx e) : W (forS g b (below n) e) Q :=
  for_on_w (fun (k : Nat) => PyData.int (k : Int)) (List.range n) (fun don e => I don.length e) h0 (fun don k rest hx e hi => by
    obtain ⟨h1, h2⟩ := range_cut hx
    have hl : don.length = k := by rw [h1, List.length_range]
    rw [hl] at hi
    obtain ⟨e1, q1, q2⟩ := hs k h2 e hi
    exact ⟨e1, q1, by rw [List.length_append, hl]; exact q2⟩) fun e hi => hq e (by rw [List.length_range] at hi; exact hi)
/-- a comprehension by what is done: each one wanted, some left out -/
theorem comp_w {α : Type} (inn : α → T) (I : List α → List T → En → Prop) {g : SemG} {c : SemT} {m : SemE} {vs : List Nat} {Q : Od → En → Prop} : ∀ (xs don : List α) (acc : List T) (e : En), I don acc e → acc.length + xs.length ≤ sizeLine →
    (∀ (d2 : List α) (x : α) (rest : List α), xs = d2 ++ x :: rest → ∀ acc e, I (don ++ d2) acc e → ∃ e1, g (inn x) (wipeE e vs) = some e1 ∧ W (c e1) fun k e2 => if k then W (m e2) fun r e3 => ∃ u e4, esc r e3 = some (u, e4) ∧ I (don ++ d2 ++ [x]) (acc ++ [u]) (restE e e4 vs) else I (don ++ d2 ++ [x]) acc (restE e e2 vs)) →
    (∀ acc e, I (don ++ xs) acc e → Q (.b (.l acc)) e) → W (compS g c m vs (xs.map inn) acc e) Q
  | [], don, acc, e, h, _, _, q => ⟨_, _, rfl, q acc e (by rw [List.append_nil]; exact h)⟩
  | x :: xs, don, acc, e, h, hl, s, q => by
    obtain ⟨e1, h1, k, e2, h2, h3⟩ := s [] x xs rfl acc e (by rw [List.append_nil]; exact h)
    rw [List.append_nil] at h3
    rw [List.length_cons] at hl
    have go : ∀ acc' e', acc'.length + xs.length ≤ sizeLine → I (don ++ [x]) acc' e' → W (compS g c m vs (xs.map inn) acc' e') Q := fun acc' e' hl' h3 =>
      comp_w inn I xs (don ++ [x]) acc' e' h3 hl' (fun d2 y rest hx acc e hi => by
        have := s (x :: d2) y rest (by rw [hx]; rfl) acc e (by rw [List.append_assoc] at hi; exact hi)
        rw [show don ++ x :: d2 = don ++ [x] ++ d2 by rw [List.append_assoc]; rfl] at this
        exact this) fun acc e hi => q acc e (by rw [List.append_assoc] at hi; exact hi)
    rw [List.map_cons, compS, h1]
    simp only [h2, Out.nx, Out.bind]
    cases k with
    | true =>
      rw [if_pos rfl] at h3
      obtain ⟨r, e3, q1, u, e4, q2, q3⟩ := h3
      simp only [q1, q2, if_true]
      rw [if_pos (show acc.length < sizeLine by omega)]
      exact go _ _ (by rw [List.length_append, List.length_singleton]; omega) q3
    | false =>
      rw [if_neg (by decide)] at h3 ⊢
      exact go _ _ (by omega) h3
def KComp (g : SemG) (c : SemT) (m : SemE) (vs : List Nat) (Q : Od → En → Prop) : List T → En → Prop := fun ts e => W (compS g c m vs ts [] e) Q
theorem w_comp {mi : SemI} {g : SemG} {c : SemT} {m : SemE} {vs : List Nat} {Q : Od → En → Prop} {e : En} (h : W (mi e) (KComp g c m vs Q)) : W (eComp mi g c m vs e) Q := w_bind h
/-- what an element of a comprehension leaves -/
def KElt (I : T → En → Prop) : Od → En → Prop := fun r e3 => ∃ u e4, esc r e3 = some (u, e4) ∧ I u e4
theorem kelt {I : T → En → Prop} {r : Od} {e3 e4 : En} {u : T} (h : esc r e3 = some (u, e4)) (q : I u e4) : KElt I r e3 := ⟨u, e4, h, q⟩
/-- all elements, each by a relation, with a state -/
theorem comp_all {α : Type} (inn : α → T) (xs : List α) (I : List α → List T → En → Prop) {g : SemG} {m : SemE} {vs : List Nat} {Q : Od → En → Prop} {e : En} (h0 : I [] [] e) (hl : xs.length ≤ sizeLine)
    (hs : ∀ (don : List α) (x : α) (rest : List α), xs = don ++ x :: rest → ∀ acc e, I don acc e → ∃ e1, g (inn x) (wipeE e vs) = some e1 ∧ W (m e1) (KElt fun u e4 => I (don ++ [x]) (acc ++ [u]) (restE e e4 vs)))
    (hq : ∀ acc e, I xs acc e → Q (.b (.l acc)) e) : KComp g tTrue m vs Q (xs.map inn) e :=
  comp_w inn I xs [] [] e h0 (by rw [List.length_nil]; omega) (fun d2 x rest hx acc e hi => by
    rw [List.nil_append] at hi ⊢
    obtain ⟨e1, h1, h2⟩ := hs d2 x rest hx acc e hi
    exact ⟨e1, h1, ⟨true, e1, rfl, h2⟩⟩) hq
/-- a comprehension of a function, the state stays -/
theorem comp_map_w {α : Type} (inn out : α → T) (xs : List α) {g : SemG} {m : SemE} {vs : List Nat} {Q : Od → En → Prop} {e : En} (hl : xs.length ≤ sizeLine)
    (hs : ∀ x ∈ xs, ∃ e1, g (inn x) (wipeE e vs) = some e1 ∧ W (m e1) (KElt fun u e4 => u = out x ∧ restE e e4 vs = e))
    (q : Q (.b (.l (xs.map out))) e) : KComp g tTrue m vs Q (xs.map inn) e :=
  comp_all inn xs (fun don acc e' => acc = don.map out ∧ e' = e) ⟨rfl, rfl⟩ hl (fun don x rest hx acc e' ⟨h1, h2⟩ => by
    subst h2
    obtain ⟨e1, q1, q2⟩ := hs x (by rw [hx]; simp)
    refine ⟨e1, q1, w_imp q2 fun r e3 ⟨u, e4, z1, z2, z3⟩ => ⟨u, e4, z1, ?_, z3⟩⟩
    rw [h1, z2, List.map_append]; rfl) fun acc e' ⟨h1, h2⟩ => by rw [h1, h2]; exact q
/-- a comprehension with an if, the state stays -/
theorem comp_filter_w {α : Type} (inn out : α → T) (p : α → Bool) (xs : List α) {g : SemG} {c : SemT} {m : SemE} {vs : List Nat} {Q : Od → En → Prop} {e : En} (hl : xs.length ≤ sizeLine)
    (hs : ∀ x ∈ xs, ∃ e1, g (inn x) (wipeE e vs) = some e1 ∧ W (c e1) fun k e2 => k = p x ∧ (p x = false → restE e e2 vs = e) ∧ (p x = true → W (m e2) (KElt fun u e4 => u = out x ∧ restE e e4 vs = e)))
    (q : Q (.b (.l ((xs.filter p).map out))) e) : KComp g c m vs Q (xs.map inn) e :=
  comp_w inn (fun don acc e' => acc = (don.filter p).map out ∧ e' = e) xs [] [] e ⟨rfl, rfl⟩ (by rw [List.length_nil]; omega) (fun d2 x rest hx acc e' ⟨h1, h2⟩ => by
    subst h2
    rw [List.nil_append] at h1 ⊢
    obtain ⟨e1, q1, k, e2, q2, rfl, q3, q4⟩ := hs x (by rw [hx]; simp)
    refine ⟨e1, q1, _, _, q2, ?_⟩
    cases hp : p x with
    | true =>
      rw [if_pos rfl]
      refine w_imp (q4 hp) fun r e3 ⟨u, e4, z1, z2, z3⟩ => ⟨u, e4, z1, ?_, z3⟩
      rw [h1, z2, List.filter_append, List.map_append, List.filter_cons_of_pos hp]; rfl
    | false =>
      rw [if_neg (by decide)]
      refine ⟨?_, q3 hp⟩
      rw [h1, List.filter_append, List.filter_cons_of_neg (by rw [hp]; decide), List.filter_nil, List.append_nil]) fun acc e' ⟨h1, h2⟩ => by rw [h1, h2]; exact q
/-! ### whiles -/
theorem whileN_w {c : SemT} {b : SemS} {Q : Fl → En → Prop} (I : Nat → En → Prop) (hs : ∀ n e, I n e → W (c e) fun k e1 => if k then 0 < n ∧ W (b e1) (KTurn (fun e2 => ∃ m, m < n ∧ I m e2) (fun r e => Q (.rt r) e) (fun e => Q .nx e)) else Q .nx e1) : ∀ (n : Nat) (e : En), I n e → W (whileN c b (n + 1) e) Q := by
  intro n
  induction n using Nat.strongRecOn with
  | ind n ih =>
    intro e hi
    obtain ⟨k, e1, h1, h2⟩ := hs n e hi
    rw [whileN, h1]
    simp only [Out.bind]
    cases k with
    | false => exact ⟨_, _, rfl, h2⟩
    | true =>
      rw [if_pos rfl] at h2 ⊢
      obtain ⟨hn, fl, e2, h3, h4⟩ := h2
      rw [h3]
      have up : (∃ m, m < n ∧ I m e2) → W (whileN c b n e2) Q := fun ⟨m, hm, hi2⟩ => by
        obtain ⟨fl, e3, h5, q⟩ := ih m hm e2 hi2
        refine ⟨fl, e3, ?_, q⟩
        have h6 := whileN_mono (c := c) (b := b) (n := m + 1) (e := e2) (n - (m + 1)) (by rw [h5]; intro z; cases z)
        rw [show m + 1 + (n - (m + 1)) = n by omega] at h6
        rw [h6, h5]
      cases fl with
      | nx => exact up h4
      | ct => exact up h4
      | rt r => exact ⟨_, _, rfl, h4⟩
      | bk => exact ⟨_, _, rfl, h4⟩
theorem w_while {c : SemT} {b : SemS} {Q : Fl → En → Prop} (I : Nat → En → Prop) (n : Nat) {e : En} (h0 : I n e) (hs : ∀ n e, I n e → W (c e) fun k e1 => if k then 0 < n ∧ W (b e1) (KTurn (fun e2 => ∃ m, m < n ∧ I m e2) (fun r e => Q (.rt r) e) (fun e => Q .nx e)) else Q .nx e1) : W (sWhile c b e) Q := by
  obtain ⟨fl, e2, h, q⟩ := whileN_w I hs n e h0
  exact ⟨fl, e2, sWhile_eq h (by intro z; cases z), q⟩
def KWh (n : Nat) (b : SemS) (J : En → Prop) (R : Od → En → Prop) (X : En → Prop) (D : En → Prop) : Bool → En → Prop := fun k e1 => if k then 0 < n ∧ W (b e1) (KTurn J R X) else D e1
theorem w_while2 {c : SemT} {b : SemS} {Q : Fl → En → Prop} (I : Nat → En → Prop) (n : Nat) {e : En} (h0 : I n e) (hs : ∀ n e, I n e → W (c e) (KWh n b (fun e2 => ∃ m, m < n ∧ I m e2) (fun r e => Q (.rt r) e) (fun e => Q .nx e) (fun e => Q .nx e))) : W (sWhile c b e) Q := w_while I n h0 hs
theorem kwh_t {n : Nat} {b : SemS} {J : En → Prop} {R : Od → En → Prop} {X : En → Prop} {D : En → Prop} {k : Bool} {e : En} (hk : k = true) (hn : 0 < n) (h : W (b e) (KTurn J R X)) : KWh n b J R X D k e := by subst hk; exact ⟨hn, h⟩
theorem kwh_f {n : Nat} {b : SemS} {J : En → Prop} {R : Od → En → Prop} {X : En → Prop} {D : En → Prop} {k : Bool} {e : En} (hk : k = false) (h : D e) : KWh n b J R X D k e := by subst hk; exact h
/-! ### operations -/
theorem gMul_ok {i j : Int} (h : mulOk i j = true) : gMul (.int i) (.int j) = some (.r (.int (i * j))) := by simp only [gMul, h, if_true]
theorem gMod_ok {i j : Int} (h : 0 < j) : gMod (.int i) (.int j) = some (.r (.int (i % j))) := by unfold gMod gII; simp only [h, decide_true, if_true]
theorem gDiv_ok {i j : Int} (h : 0 < j) (h2 : j.natAbs.log2 < 9000) : gDiv (.int i) (.int j) = some (.r (.int (i / j))) := by unfold gDiv gII; simp only [h, h2, and_self, decide_true, if_true]
theorem gIx_l {ts : List T} {k : Nat} {x : T} (h : ts[k]? = some x) : gIx (.list ts) (.int (k : Int)) = some (.r x) := by
  have := (List.getElem?_eq_some_iff.mp h)
  unfold gIx L2.atI
  simp [ixN_nat this.1, h]
theorem gIx_t {ts : List T} {k : Nat} {x : T} (h : ts[k]? = some x) : gIx (.tuple ts) (.int (k : Int)) = some (.r x) := by
  have := (List.getElem?_eq_some_iff.mp h)
  unfold gIx L2.atI
  simp [ixN_nat this.1, h]
theorem gAdd_tt {xs ys : List T} (h : xs.length + ys.length ≤ sizeLine) : gAdd (.tuple xs) (.tuple ys) = some (.r (.tuple (xs ++ ys))) := by simp only [gAdd, h, if_true]
theorem gAdd_ll {xs ys : List T} (h : xs.length + ys.length ≤ sizeLine) : gAdd (.list xs) (.list ys) = some (.b (.l (xs ++ ys))) := by simp only [gAdd, h, if_true]
theorem gEq_i (k : Bool → Bool) (i j : Int) : gEq k (.int i) (.int j) = some (.r (.bool (k (decide (i = j))))) := rfl
theorem gEq_n (i j : Int) : gEq not (.int i) (.int j) = some (.r (.bool (decide (i ≠ j)))) := by
  show some (Od.r (.bool (!decide (i = j)))) = _
  congr 3
  by_cases h : i = j <;> simp [h]
theorem gEq_e (i j : Int) : gEq id (.int i) (.int j) = some (.r (.bool (decide (i = j)))) := rfl
theorem gAll_b (bs : List Bool) : gAll [.list (bs.map .bool)] = some (.r (.bool (bs.all id))) := gAll_bools bs
/-! ### repeating, slices again -/
def KRep1 (mb : SemE) (Q : Od → En → Prop) : Od → En → Prop := fun ra e1 => W (mb e1) fun rb e2 => ∃ (us : List T) (n : Nat), ra = .b (.l us) ∧ rb.val e2 = some (.int (n : Int)) ∧ (n ≤ 65536 ∧ us.length ≤ 16) ∧ Q (.b (.l (List.replicate n us).flatten)) e2
def KRep2 (ra : Od) (Q : Od → En → Prop) : Od → En → Prop := fun rb e2 => ∃ (us : List T) (n : Nat), ra = .b (.l us) ∧ rb.val e2 = some (.int (n : Int)) ∧ (n ≤ 65536 ∧ us.length ≤ 16) ∧ Q (.b (.l (List.replicate n us).flatten)) e2
theorem w_rep {ma mb : SemE} {Q : Od → En → Prop} {e : En} (h : W (ma e) (KRep1 mb Q)) : W (eRep ma mb e) Q :=
  w_bind (w_imp h fun ra e1 h1 => w_bind (w_imp h1 fun rb e2 ⟨us, n, q1, q2, ⟨q3, q4⟩, q⟩ => by
    subst q1
    simp only [q2]
    rw [if_pos ⟨by omega, by omega, q4⟩, Int.toNat_natCast]
    exact ⟨_, _, rfl, q⟩))
theorem krep1 {mb : SemE} {Q : Od → En → Prop} {ra : Od} {e1 : En} (h : W (mb e1) (KRep2 ra Q)) : KRep1 mb Q ra e1 := h
theorem krep2 {us : List T} {Q : Od → En → Prop} {rb : Od} {e2 : En} (n : Nat) (h1 : rb.val e2 = some (.int (n : Int))) (h2 : n ≤ 65536) (h3 : us.length ≤ 16) (q : Q (.b (.l (List.replicate n us).flatten)) e2) : KRep2 (.b (.l us)) Q rb e2 := ⟨us, n, rfl, h1, ⟨h2, h3⟩, q⟩
def KSl2 (r : Od) (l : Option Int) (Q : Od → En → Prop) : Option Int → En → Prop := fun h e3 => (∃ ts, r.val e3 = some (.list ts) ∧ Q (.b (.l (cutT ts l h))) e3) ∨ (∃ ts, r.val e3 = some (.tuple ts) ∧ Q (.r (.tuple (cutT ts l h))) e3)
def KSl1 (hi : SemP) (r : Od) (Q : Od → En → Prop) : Option Int → En → Prop := fun l e2 => W (hi e2) (KSl2 r l Q)
theorem ksl_ {lo hi : SemP} {Q : Od → En → Prop} {r : Od} {e1 : En} (h : W (lo e1) (KSl1 hi r Q)) : KSl lo hi Q r e1 := h
theorem ksl1 {hi : SemP} {Q : Od → En → Prop} {r : Od} {l : Option Int} {e2 : En} (h : W (hi e2) (KSl2 r l Q)) : KSl1 hi r Q l e2 := h
theorem ksl2_l {Q : Od → En → Prop} {r : Od} {l h : Option Int} {e3 : En} {ts : List T} (h1 : r.val e3 = some (.list ts)) (q : Q (.b (.l (cutT ts l h))) e3) : KSl2 r l Q h e3 := .inl ⟨ts, h1, q⟩
theorem ksl2_t {Q : Od → En → Prop} {r : Od} {l h : Option Int} {e3 : En} {ts : List T} (h1 : r.val e3 = some (.tuple ts)) (q : Q (.r (.tuple (cutT ts l h))) e3) : KSl2 r l Q h e3 := .inr ⟨ts, h1, q⟩
/-! ### index -/
def KIndex2 (r : Od) (Q : Od → En → Prop) : List Od → En → Prop := fun rs e2 => ∃ ts u j, r.val e2 = some (.list ts) ∧ vals e2 rs = some [u] ∧ SeqAt.shaped (.list ts) = true ∧ SeqAt.shaped u = true ∧ findT ts u = some j ∧ Q (.r (.int (j : Nat))) e2
theorem kindex1_ {ma : SemA} {Q : Od → En → Prop} {r : Od} {e1 : En} {ts0 : List T} (h0 : r.val e1 = some (.list ts0)) (h : W (ma e1) (KIndex2 r Q)) : KIndex1 ma Q r e1 := ⟨ts0, h0, h⟩
/-! ### dicts whose keys are tuples -/
def KMGet (i : Nat) (Q : Od → En → Prop) : Od → En → Prop := fun r e1 => ∃ t l kvs kk u, r.val e1 = some t ∧ e1[i]? = some (.ow l (.m kvs)) ∧ keyM t = some kk ∧ mLook kvs t = some u ∧ Q (.r u) e1
theorem w_mget {i : Nat} {mk : SemE} {Q : Od → En → Prop} {e : En} {l : Bool} {kvs : List (T × T)} (hi : e[i]? = some (.ow l (.m kvs))) (h : W (mk e) (KMGet i Q)) : W (eMGet i mk e) Q := by
  unfold eMGet
  simp only [hi]
  exact w_bind (w_imp h fun r e1 ⟨t, l, kvs, kk, u, q1, q2, q3, q4, q⟩ => ⟨_, _, by simp only [q1, q2, q3, q4], q⟩)
theorem kmget {i : Nat} {Q : Od → En → Prop} {r : Od} {e1 : En} {t : T} {l : Bool} {kvs : List (T × T)} {kk : List L2.Key} {u : T} (q1 : r.val e1 = some t) (q2 : e1[i]? = some (.ow l (.m kvs))) (q3 : keyM t = some kk) (q4 : mLook kvs t = some u) (q : Q (.r u) e1) : KMGet i Q r e1 := ⟨t, l, kvs, kk, u, q1, q2, q3, q4, q⟩
def KMIn (neg : Bool) (i : Nat) (Q : Od → En → Prop) : Od → En → Prop := fun r e1 => ∃ t l kvs kk c, r.val e1 = some t ∧ e1[i]? = some (.ow l (.m kvs)) ∧ keyM t = some kk ∧ (mLook kvs t).isSome = c ∧ Q (.r (.bool (if neg then !c else c))) e1
theorem w_min {neg : Bool} {i : Nat} {mk : SemE} {Q : Od → En → Prop} {e : En} (h : W (mk e) (KMIn neg i Q)) : W (eMIn neg i mk e) Q :=
  w_bind (w_imp h fun r e1 ⟨t, l, kvs, kk, c, q1, q2, q3, q4, q⟩ => ⟨_, _, by simp only [q1, q2, q3, q4], q⟩)
theorem kmin {neg : Bool} {i : Nat} {Q : Od → En → Prop} {r : Od} {e1 : En} {t : T} {l : Bool} {kvs : List (T × T)} {kk : List L2.Key} {c : Bool} (q1 : r.val e1 = some t) (q2 : e1[i]? = some (.ow l (.m kvs))) (q3 : keyM t = some kk) (q4 : (mLook kvs t).isSome = c) (q : Q (.r (.bool (if neg then !c else c))) e1) : KMIn neg i Q r e1 := ⟨t, l, kvs, kk, c, q1, q2, q3, q4, q⟩
def KMPut2 (i : Nat) (r : Od) (Q : Fl → En → Prop) : Od → En → Prop := fun rk e2 => ∃ t u e3 l kvs kk, rk.val e2 = some t ∧ esc r e2 = some (u, e3) ∧ e3[i]? = some (.ow l (.m kvs)) ∧ keyM t = some kk ∧ kvs.length < sizeLine ∧ Q .nx (e3.set i (.ow l (.m (mPut kvs t u))))
def KMPut1 (i : Nat) (mk : SemE) (Q : Fl → En → Prop) : Od → En → Prop := fun r e1 => ∃ l kvs, e1[i]? = some (.ow l (.m kvs)) ∧ W (mk e1) (KMPut2 i r Q)
theorem w_mput {i : Nat} {mk mv : SemE} {Q : Fl → En → Prop} {e : En} (h : W (mv e) (KMPut1 i mk Q)) : W (sMPut i mk mv e) Q := by
  refine w_bind (w_imp h fun r e1 ⟨l, kvs, h1, h2⟩ => ?_)
  simp only [h1]
  exact w_bind (w_imp h2 fun rk e2 ⟨t, u, e3, l, kvs, kk, q1, q2, q3, q4, q5, q⟩ => ⟨_, _, by simp only [q1, q2, q3, q4]; rw [if_pos q5], q⟩)
theorem kmput1 {i : Nat} {mk : SemE} {Q : Fl → En → Prop} {r : Od} {e1 : En} {l : Bool} {kvs : List (T × T)} (h1 : e1[i]? = some (.ow l (.m kvs))) (h : W (mk e1) (KMPut2 i r Q)) : KMPut1 i mk Q r e1 := ⟨l, kvs, h1, h⟩
theorem kmput2 {i : Nat} {r : Od} {Q : Fl → En → Prop} {rk : Od} {e2 e3 : En} {t u : T} {l : Bool} {kvs : List (T × T)} {kk : List L2.Key} (q1 : rk.val e2 = some t) (q2 : esc r e2 = some (u, e3)) (q3 : e3[i]? = some (.ow l (.m kvs))) (q4 : keyM t = some kk) (q5 : kvs.length < sizeLine) (q : Q .nx (e3.set i (.ow l (.m (mPut kvs t u))))) : KMPut2 i r Q rk e2 := ⟨t, u, e3, l, kvs, kk, q1, q2, q3, q4, q5, q⟩
theorem w_mnew {Q : Od → En → Prop} {e : En} (q : Q (.b (.m [])) e) : W (eMNew e) Q := ⟨_, _, rfl, q⟩
def KMD2 (rk : Od) (Q : Od → En → Prop) : Od → En → Prop := fun rv e2 => ∃ t u kk, rk.val e2 = some t ∧ rv = .r u ∧ keyM t = some kk ∧ Q (.b (.m [(t, u)])) e2
def KMD1 (mv : SemE) (Q : Od → En → Prop) : Od → En → Prop := fun rk e1 => W (mv e1) (KMD2 rk Q)
theorem w_mdict1 {mk mv : SemE} {Q : Od → En → Prop} {e : En} (h : W (mk e) (KMD1 mv Q)) : W (eMDict1 mk mv e) Q :=
  w_bind (w_imp h fun rk e1 h1 => w_bind (w_imp h1 fun rv e2 ⟨t, u, kk, q1, q2, q3, q⟩ => by subst q2; exact ⟨_, _, by simp only [q1, q3], q⟩))
theorem kmd1 {mv : SemE} {Q : Od → En → Prop} {rk : Od} {e1 : En} (h : W (mv e1) (KMD2 rk Q)) : KMD1 mv Q rk e1 := h
theorem kmd2 {rk : Od} {Q : Od → En → Prop} {u : T} {e2 : En} {t : T} {kk : List L2.Key} (q1 : rk.val e2 = some t) (q3 : keyM t = some kk) (q : Q (.b (.m [(t, u)])) e2) : KMD2 rk Q (.r u) e2 := ⟨t, u, kk, q1, rfl, q3, q⟩
/-! ### dicts whose keys are ints -/
def KDGet (i : Nat) (Q : Od → En → Prop) : Od → En → Prop := fun r e1 => ∃ t l kvs kk u, r.val e1 = some t ∧ e1[i]? = some (.ow l (.d kvs)) ∧ keyOf t = some kk ∧ dLook kvs t = some u ∧ Q (.r u) e1
theorem w_dget {i : Nat} {mk : SemE} {Q : Od → En → Prop} {e : En} {l : Bool} {kvs : List (T × T)} (hi : e[i]? = some (.ow l (.d kvs))) (h : W (mk e) (KDGet i Q)) : W (eDGet i mk e) Q := by
  unfold eDGet
  simp only [hi]
  exact w_bind (w_imp h fun r e1 ⟨t, l, kvs, kk, u, q1, q2, q3, q4, q⟩ => ⟨_, _, by simp only [q1, q2, q3, q4], q⟩)
theorem kdget {i : Nat} {Q : Od → En → Prop} {r : Od} {e1 : En} {t : T} {l : Bool} {kvs : List (T × T)} {kk : L2.Key} {u : T} (q1 : r.val e1 = some t) (q2 : e1[i]? = some (.ow l (.d kvs))) (q3 : keyOf t = some kk) (q4 : dLook kvs t = some u) (q : Q (.r u) e1) : KDGet i Q r e1 := ⟨t, l, kvs, kk, u, q1, q2, q3, q4, q⟩
def KDPut2 (i : Nat) (r : Od) (Q : Fl → En → Prop) : Od → En → Prop := fun rk e2 => ∃ t u e3 l kvs kk, rk.val e2 = some t ∧ esc r e2 = some (u, e3) ∧ e3[i]? = some (.ow l (.d kvs)) ∧ keyOf t = some kk ∧ kvs.length < sizeLine ∧ Q .nx (e3.set i (.ow l (.d (dPut kvs t u))))
def KDPut1 (i : Nat) (mk : SemE) (Q : Fl → En → Prop) : Od → En → Prop := fun r e1 => ∃ l kvs, e1[i]? = some (.ow l (.d kvs)) ∧ W (mk e1) (KDPut2 i r Q)
theorem w_dput {i : Nat} {mk mv : SemE} {Q : Fl → En → Prop} {e : En} (h : W (mv e) (KDPut1 i mk Q)) : W (sDPutV i mk mv e) Q := by
  refine w_bind (w_imp h fun r e1 ⟨l, kvs, h1, h2⟩ => ?_)
  simp only [h1]
  exact w_bind (w_imp h2 fun rk e2 ⟨t, u, e3, l, kvs, kk, q1, q2, q3, q4, q5, q⟩ => ⟨_, _, by simp only [q1, q2, q3, q4]; rw [if_pos q5], q⟩)
theorem kdput1 {i : Nat} {mk : SemE} {Q : Fl → En → Prop} {r : Od} {e1 : En} {l : Bool} {kvs : List (T × T)} (h1 : e1[i]? = some (.ow l (.d kvs))) (h : W (mk e1) (KDPut2 i r Q)) : KDPut1 i mk Q r e1 := ⟨l, kvs, h1, h⟩
theorem kdput2 {i : Nat} {r : Od} {Q : Fl → En → Prop} {rk : Od} {e2 e3 : En} {t u : T} {l : Bool} {kvs : List (T × T)} {kk : L2.Key} (q1 : rk.val e2 = some t) (q2 : esc r e2 = some (u, e3)) (q3 : e3[i]? = some (.ow l (.d kvs))) (q4 : keyOf t = some kk) (q5 : kvs.length < sizeLine) (q : Q .nx (e3.set i (.ow l (.d (dPut kvs t u))))) : KDPut2 i r Q rk e2 := ⟨t, u, e3, l, kvs, kk, q1, q2, q3, q4, q5, q⟩
theorem w_eq {α : Type} {o : Out α} {a : α} {b : En} (h : W o fun r e => r = a ∧ e = b) : o = .ok a b := by
  obtain ⟨r, e, h, rfl, rfl⟩ := h
  exact h
/-! ### dict(xs), xs[i], xs[j] = v, w -/
def KDictP (Q : Od → En → Prop) : List Od → En → Prop := fun rs e1 => ∃ ts e2 kvs, escs rs e1 = some ([.list ts], e2) ∧ pairsOf ts = some kvs ∧ Q (.b (.d (mergeT [] kvs))) e2
theorem w_dictp {m : SemA} {Q : Od → En → Prop} {e : En} (h : W (m e) (KDictP Q)) : W (eDictP m e) Q :=
  w_bind (w_imp h fun rs e1 ⟨ts, e2, kvs, h1, h2, q⟩ => ⟨_, _, by simp only [h1, h2], q⟩)
theorem kdictp {Q : Od → En → Prop} {rs : List Od} {e1 e2 : En} {ts : List T} {kvs : List (T × T)} (h1 : escs rs e1 = some ([.list ts], e2)) (h2 : pairsOf ts = some kvs) (q : Q (.b (.d (mergeT [] kvs))) e2) : KDictP Q rs e1 := ⟨ts, e2, kvs, h1, h2, q⟩
def KPutS (tgs : List (Nat × SemE)) (Q : Fl → En → Prop) : List Od → En → Prop := fun rs e1 => ∃ ts e2, escs rs e1 = some (ts, e2) ∧ (ts.length = tgs.length ∧ ts.length ≤ sizeLine) ∧ W (putS tgs ts e2) Q
theorem w_putS {tgs : List (Nat × SemE)} {m : SemA} {Q : Fl → En → Prop} {e : En} (h : W (m e) (KPutS tgs Q)) : W (sPutS tgs m e) Q :=
  w_bind (w_imp h fun rs e1 ⟨ts, e2, h1, h2, q⟩ => by simp only [h1]; rw [if_pos h2]; exact q)
theorem kputS {tgs : List (Nat × SemE)} {Q : Fl → En → Prop} {rs : List Od} {e1 e2 : En} {ts : List T} (h1 : escs rs e1 = some (ts, e2)) (h2 : ts.length = tgs.length) (h3 : Nat.ble ts.length 64 = true) (q : W (putS tgs ts e2) Q) : KPutS tgs Q rs e1 := ⟨ts, e2, h1, ⟨h2, Nat.le_trans (Nat.le_of_ble_eq_true h3) (by unfold sizeLine; omega)⟩, q⟩
theorem putS_nil {Q : Fl → En → Prop} {e : En} (q : Q .nx e) : W (putS [] [] e) Q := ⟨_, _, by unfold putS; rfl, q⟩
def KPutL (i : Nat) (t : T) (tgs : List (Nat × SemE)) (ts : List T) (Q : Fl → En → Prop) : Od → En → Prop := fun ri e2 => ∃ k l us j, ri.val e2 = some (.int k) ∧ e2[i]? = some (.ow l (.l us)) ∧ L2.ixN us.length k = some j ∧ W (putS tgs ts (e2.set i (.ow l (.l (us.set j t))))) Q
theorem putS_l {i : Nat} {mk : SemE} {tgs : List (Nat × SemE)} {t : T} {ts : List T} {Q : Fl → En → Prop} {e : En} {l : Bool} {us : List T} (hi : e[i]? = some (.ow l (.l us))) (h : W (mk e) (KPutL i t tgs ts Q)) : W (putS ((i, mk) :: tgs) (t :: ts) e) Q := by
  unfold putS
  simp only [hi]
  exact w_bind (w_imp h fun ri e2 ⟨k, l, us, j, q1, q2, q3, q⟩ => by simp only [q1, q2, q3]; exact q)
theorem kputL {i : Nat} {t : T} {tgs : List (Nat × SemE)} {ts : List T} {Q : Fl → En → Prop} {ri : Od} {e2 : En} {k : Int} {l : Bool} {us : List T} {j : Nat} (q1 : ri.val e2 = some (.int k)) (q2 : e2[i]? = some (.ow l (.l us))) (q3 : L2.ixN us.length k = some j) (q : W (putS tgs ts (e2.set i (.ow l (.l (us.set j t))))) Q) : KPutL i t tgs ts Q ri e2 := ⟨k, l, us, j, q1, q2, q3, q⟩
def KPutD (i : Nat) (t : T) (tgs : List (Nat × SemE)) (ts : List T) (Q : Fl → En → Prop) : Od → En → Prop := fun ri e2 => ∃ u l kvs kk, ri.val e2 = some u ∧ e2[i]? = some (.ow l (.d kvs)) ∧ keyOf u = some kk ∧ kvs.length < sizeLine ∧ W (putS tgs ts (e2.set i (.ow l (.d (dPut kvs u t))))) Q
theorem putS_d {i : Nat} {mk : SemE} {tgs : List (Nat × SemE)} {t : T} {ts : List T} {Q : Fl → En → Prop} {e : En} {l : Bool} {kvs : List (T × T)} (hi : e[i]? = some (.ow l (.d kvs))) (h : W (mk e) (KPutD i t tgs ts Q)) : W (putS ((i, mk) :: tgs) (t :: ts) e) Q := by
  unfold putS
  simp only [hi]
  exact w_bind (w_imp h fun ri e2 ⟨u, l, kvs, kk, q1, q2, q3, q4, q⟩ => by simp only [q1, q2, q3]; rw [if_pos q4]; exact q)
theorem kputD {i : Nat} {t : T} {tgs : List (Nat × SemE)} {ts : List T} {Q : Fl → En → Prop} {ri : Od} {e2 : En} {u : T} {l : Bool} {kvs : List (T × T)} {kk : L2.Key} (q1 : ri.val e2 = some u) (q2 : e2[i]? = some (.ow l (.d kvs))) (q3 : keyOf u = some kk) (q4 : kvs.length < sizeLine) (q : W (putS tgs ts (e2.set i (.ow l (.d (dPut kvs u t))))) Q) : KPutD i t tgs ts Q ri e2 := ⟨u, l, kvs, kk, q1, q2, q3, q4, q⟩
/-! ### range from, zip, enumerate, max -/
def KR2w (Q : List T → En → Prop) : List Od → En → Prop := fun rs e => ∃ i j : Int, vals e rs = some [.int i, .int j] ∧ Q (above i (j - i).toNat) e
theorem w_r2w {m : SemA} {Q : List T → En → Prop} {e : En} (h : W (m e) (KR2w Q)) : W (iR2w m e) Q := w_bind (w_imp h fun rs e1 ⟨i, j, h1, q⟩ => ⟨_, _, by simp only [h1]; rfl, q⟩)
theorem kr2w {Q : List T → En → Prop} {rs : List Od} {e : En} {i j : Int} (h1 : vals e rs = some [.int i, .int j]) (q : Q (above i (j - i).toNat) e) : KR2w Q rs e := ⟨i, j, h1, q⟩
theorem kzip {Q : List T → En → Prop} {rs : List Od} {e e2 : En} {ts us : List T} (h1 : escs rs e = some ([.list ts, .list us], e2)) (q : Q (pairs ts us) e2) : KZip Q rs e := ⟨ts, us, e2, h1, q⟩
theorem kenu {Q : List T → En → Prop} {rs : List Od} {e e2 : En} {ts : List T} (h1 : escs rs e = some ([.list ts], e2)) (q : Q (enumT ts) e2) : KEnu Q rs e := ⟨ts, e2, h1, q⟩
/-! ### the same, the state written out -/
theorem kseq_nx_n {b : SemS} {Q : Fl → En → Prop} {e e2 : En} (he : e2 = e) (h : W (b e2) Q) : KSeq b Q .nx e := by subst he; exact h
theorem kback_r_n {rs : List Od} {e1 e2 : En} {Q : Od → En → Prop} {t : T} {ss' : En} (he : e2 = wb rs ss' e1) (q : Q (.r t) e2) : KBack rs e1 Q (.r t) ss' := by subst he; exact ⟨fun _ z => (by cases z), q⟩
theorem kback_b_n {rs : List Od} {e1 e2 : En} {Q : Od → En → Prop} {z : Bx} {ss' : En} (he : e2 = wb rs ss' e1) (q : Q (.b z) e2) : KBack rs e1 Q (.b z) ss' := by subst he; exact ⟨fun _ z => (by cases z), q⟩
def KZip2 (Q : List T → En → Prop) : List Od → En → Prop := fun rs e => ∃ ts us e2, (escs rs e = some ([.list ts, .list us], e2) ∨ escs rs e = some ([.tuple ts, .tuple us], e2)) ∧ Q (pairs ts us) e2
theorem w_izip2 {m : SemA} {Q : List T → En → Prop} {e : En} (h : W (m e) (KZip2 Q)) : W (iZip2 m e) Q := w_bind (w_imp h fun rs e1 ⟨ts, us, e2, h1, q⟩ => by
  rcases h1 with h1 | h1 <;> exact ⟨_, _, by simp only [h1], q⟩)
theorem kzip2_l {Q : List T → En → Prop} {rs : List Od} {e e2 : En} {ts us : List T} (h1 : escs rs e = some ([.list ts, .list us], e2)) (q : Q (pairs ts us) e2) : KZip2 Q rs e := ⟨ts, us, e2, .inl h1, q⟩
theorem kzip2_t {Q : List T → En → Prop} {rs : List Od} {e e2 : En} {ts us : List T} (h1 : escs rs e = some ([.tuple ts, .tuple us], e2)) (q : Q (pairs ts us) e2) : KZip2 Q rs e := ⟨ts, us, e2, .inr h1, q⟩
/-! ### a walk over two names -/
def KCompG (g : SemG) (c : SemT) (m : SemE) (vs : List Nat) (Q : Od → En → Prop) : List T × (En → Prop) → En → Prop := fun p e => W (compSG p.2 g c m vs p.1 [] e) Q
theorem w_compG {mi : SemIG} {g : SemG} {c : SemT} {m : SemE} {vs : List Nat} {Q : Od → En → Prop} {e : En} (h : W (mi e) (KCompG g c m vs Q)) : W (eCompG mi g c m vs e) Q := w_bind h
theorem w_izipV_l {i j : Nat} {e : En} {Q : List T × (En → Prop) → En → Prop} {si sj : Sl} {ts us : List T} (h1 : e[i]? = some si) (h2 : e[j]? = some sj) (h3 : seqOf si = some (.inl ts)) (h4 : seqOf sj = some (.inl us)) (q : Q (pairs ts us, fun e' => e'[i]? = some si ∧ e'[j]? = some sj) e) : W (iZipV i j e) Q :=
  ⟨_, _, by unfold iZipV; simp only [h1, h2, h3, h4], q⟩
theorem w_izipV_r {i j : Nat} {e : En} {Q : List T × (En → Prop) → En → Prop} {si sj : Sl} {ts us : List T} (h1 : e[i]? = some si) (h2 : e[j]? = some sj) (h3 : seqOf si = some (.inr ts)) (h4 : seqOf sj = some (.inr us)) (q : Q (pairs ts us, fun e' => e'[i]? = some si ∧ e'[j]? = some sj) e) : W (iZipV i j e) Q :=
  ⟨_, _, by unfold iZipV; simp only [h1, h2, h3, h4], q⟩
theorem compSG_map {α : Type} (inn out : α → T) {gd : En → Prop} {g : SemG} {m : SemE} {vs : List Nat} {e : En} (hgd : gd e) : ∀ (xs : List α) (acc : List T), acc.length + xs.length ≤ sizeLine →
    (∀ x ∈ xs, ∃ e1, g (inn x) (wipeE e vs) = some e1 ∧ W (m e1) (KElt fun u e4 => u = out x ∧ restE e e4 vs = e)) → compSG gd g tTrue m vs (xs.map inn) acc e = .ok (.b (.l (acc ++ xs.map out))) e
  | [], acc, _, _ => by rw [List.map_nil, List.map_nil, List.append_nil]; exact if_pos hgd
  | x :: xs, acc, hl, s => by
    obtain ⟨e1, h1, r, e3, h2, u, e4, h3, h4, h5⟩ := s x List.mem_cons_self
    rw [List.length_cons] at hl
    rw [List.map_cons, compSG, if_pos hgd, h1]
    simp only [h2, h3, Out.nx, Out.bind]
    rw [if_pos trivial, if_pos (by omega), h5, compSG_map inn out hgd xs (acc ++ [u]) (by rw [List.length_append, List.length_singleton]; omega) fun t ht => s t (List.mem_cons_of_mem _ ht), h4, List.map_cons, List.append_assoc]
    rfl
theorem compG_map_w {α : Type} (inn out : α → T) (xs : List α) {gd : En → Prop} {g : SemG} {m : SemE} {vs : List Nat} {Q : Od → En → Prop} {e : En} (hgd : gd e) (hl : xs.length ≤ sizeLine)
    (hs : ∀ x ∈ xs, ∃ e1, g (inn x) (wipeE e vs) = some e1 ∧ W (m e1) (KElt fun u e4 => u = out x ∧ restE e e4 vs = e)) (q : Q (.b (.l (xs.map out))) e) : KCompG g tTrue m vs Q (xs.map inn, gd) e :=
  ⟨_, _, compSG_map inn out hgd xs [] (by rw [List.length_nil]; omega) hs, q⟩
/-! ### texts -/
theorem gStr_ok {i : Int} (h : i.natAbs.log2 < 1920) : gStr [.int i] = some (.r (.str (toString i))) := if_pos h
def KJoin1 (m : SemE) (Q : Od → En → Prop) : Od → En → Prop := fun ro e0 => ∃ sep, ro = .r (.str sep) ∧ W (m e0) fun r e1 => ∃ ts ys, (r.val e1 = some (.list ts) ∨ r.val e1 = some (.tuple ts)) ∧ strsOf ts = some ys ∧ (ys.map (·.length)).sum + ys.length * sep.length ≤ 16777216 ∧ Q (.r (.str (Txt.join sep ys))) e1
def KJoin2 (sep : Str) (Q : Od → En → Prop) : Od → En → Prop := fun r e1 => ∃ ts ys, (r.val e1 = some (.list ts) ∨ r.val e1 = some (.tuple ts)) ∧ strsOf ts = some ys ∧ (ys.map (·.length)).sum + ys.length * sep.length ≤ 16777216 ∧ Q (.r (.str (Txt.join sep ys))) e1
theorem w_join {mo m : SemE} {Q : Od → En → Prop} {e : En} (h : W (mo e) (KJoin1 m Q)) : W (eJoin mo m e) Q :=
  w_bind (w_imp h fun ro e0 ⟨sep, h0, h1⟩ => by
    subst h0
    exact w_bind (w_imp h1 fun r e1 ⟨ts, ys, q1, q2, q3, q⟩ => by
      rcases q1 with q1 | q1 <;> exact ⟨_, _, by simp only [q1, q2]; rw [if_pos q3], q⟩))
theorem kjoin1 {m : SemE} {Q : Od → En → Prop} {sep : Str} {e0 : En} (h : W (m e0) (KJoin2 sep Q)) : KJoin1 m Q (.r (.str sep)) e0 := ⟨sep, rfl, h⟩
theorem kjoin2 {sep : Str} {Q : Od → En → Prop} {r : Od} {e1 : En} {ts : List T} {ys : List Str} (q1 : r.val e1 = some (.list ts)) (q2 : strsOf ts = some ys) (q3 : (ys.map (·.length)).sum + ys.length * sep.length ≤ 16777216) (q : Q (.r (.str (Txt.join sep ys))) e1) : KJoin2 sep Q r e1 := ⟨ts, ys, .inl q1, q2, q3, q⟩
def KFmt (Q : Od → En → Prop) : Od → En → Prop := fun r e1 => (∃ y, r.val e1 = some (.str y) ∧ y.length ≤ sizeLine ∧ Q (.r (.str y)) e1) ∨ ∃ i, r.val e1 = some (.int i) ∧ i.natAbs.log2 < 1920 ∧ Q (.r (.str (toString i))) e1
theorem w_fmt {m : SemE} {Q : Od → En → Prop} {e : En} (h : W (m e) (KFmt Q)) : W (eFmt m e) Q :=
  w_bind (w_imp h fun r e1 h1 => by
    rcases h1 with ⟨y, q1, q2, q⟩ | ⟨i, q1, q2, q⟩
    · exact ⟨_, _, by simp only [q1]; rw [if_pos q2], q⟩
    · exact ⟨_, _, by simp only [q1]; rw [if_pos q2], q⟩)
theorem kfmt_s {Q : Od → En → Prop} {r : Od} {e1 : En} {y : Str} (q1 : r.val e1 = some (.str y)) (q2 : y.length ≤ sizeLine) (q : Q (.r (.str y)) e1) : KFmt Q r e1 := .inl ⟨y, q1, q2, q⟩
theorem kfmt_i {Q : Od → En → Prop} {r : Od} {e1 : En} {i : Int} (q1 : r.val e1 = some (.int i)) (q2 : i.natAbs.log2 < 1920) (q : Q (.r (.str (toString i))) e1) : KFmt Q r e1 := .inr ⟨i, q1, q2, q⟩
theorem w_js_nil {acc : Str} {Q : Od → En → Prop} {e : En} (q : Q (.r (.str acc)) e) : W (eJs [] acc e) Q := ⟨_, _, rfl, q⟩
def KJs (ms : List SemE) (acc : Str) (Q : Od → En → Prop) : Od → En → Prop := fun r e1 => ∃ y, r = .r (.str y) ∧ (acc ++ y).length ≤ sizeLine ∧ W (eJs ms (acc ++ y) e1) Q
theorem w_js {m : SemE} {ms : List SemE} {acc : Str} {Q : Od → En → Prop} {e : En} (h : W (m e) (KJs ms acc Q)) : W (eJs (m :: ms) acc e) Q :=
  w_bind (w_imp h fun r e1 ⟨y, q1, q2, q⟩ => by subst q1; simp only []; rw [if_pos q2]; exact q)
theorem kjs {ms : List SemE} {acc y : Str} {Q : Od → En → Prop} {e1 : En} (q2 : (acc ++ y).length ≤ sizeLine) (q : W (eJs ms (acc ++ y) e1) Q) : KJs ms acc Q (.r (.str y)) e1 := ⟨y, rfl, q2, q⟩
theorem gAdd_ss {x y : Str} (h : x.length + y.length ≤ sizeLine) : gAdd (.str x) (.str y) = some (.r (.str (x ++ y))) := by simp only [gAdd, h, if_true]
theorem w_inmG {i : Nat} {e : En} {Q : List T × (En → Prop) → En → Prop} {si : Sl} {ts : List T} (h1 : e[i]? = some si) (h3 : seqOf si = some (.inl ts)) (q : Q (ts, fun e' => e'[i]? = some si) e) : W (iNmG i e) Q :=
  ⟨_, _, by unfold iNmG; simp only [h1, h3], q⟩
end Wp

set_option linter.all false
namespace Mt
abbrev Pt := Int × Int × Nat
def part (ks : List (List Pt)) (k j : Nat) : Pt := (((ks[k]?).getD [])[j]?).getD (0, 0, 0)
structure Good (B : Nat) (ks : List (List Pt)) : Prop where
  hb : B = 2 ∨ B = 3
  pos : 0 < ks.length
  few : ks.length ≤ 20
  len : ∀ ps ∈ ks, ps.length = B * B
  rng : ∀ ps ∈ ks, ∀ p ∈ ps, (0 ≤ p.1 ∧ p.1 < (B : Int)) ∧ (0 ≤ p.2.1 ∧ p.2.1 < (B : Int)) ∧ p.2.2 < ks.length
  nod : ∀ ps ∈ ks, (ps.map fun p => (p.1, p.2.1)).Nodup
theorem Good.row {B : Nat} {ks : List (List Pt)} (g : Good B ks) {k : Nat} (hk : k < ks.length) : ∃ ps, ks[k]? = some ps ∧ ps ∈ ks ∧ ps.length = B * B :=
  ⟨ks[k], List.getElem?_eq_getElem hk, List.getElem_mem hk, g.len _ (List.getElem_mem hk)⟩
theorem Good.at_ {B : Nat} {ks : List (List Pt)} (g : Good B ks) {k j : Nat} (hk : k < ks.length) (hj : j < B * B) : ∃ ps, ks[k]? = some ps ∧ ps[j]? = some (part ks k j) ∧ part ks k j ∈ ps ∧ ps ∈ ks := by
  obtain ⟨ps, h1, h2, h3⟩ := g.row hk
  have h4 : ps[j]? = some (ps[j]'(by omega)) := List.getElem?_eq_getElem (by omega)
  have h5 : part ks k j = ps[j]'(by omega) := by unfold part; rw [h1, Option.getD_some, h4, Option.getD_some]
  exact ⟨ps, h1, by rw [h5]; exact h4, by rw [h5]; exact List.getElem_mem _, h2⟩
theorem Good.prng {B : Nat} {ks : List (List Pt)} (g : Good B ks) {k j : Nat} (hk : k < ks.length) (hj : j < B * B) : (0 ≤ (part ks k j).1 ∧ (part ks k j).1 < (B : Int)) ∧ (0 ≤ (part ks k j).2.1 ∧ (part ks k j).2.1 < (B : Int)) ∧ (part ks k j).2.2 < ks.length := by
  obtain ⟨ps, _, _, h3, h4⟩ := g.at_ hk hj
  exact g.rng ps h4 _ h3
/-- figures, the greatest first -/
def digs (N n : Nat) : Nat → List Nat
  | 0 => []
  | d + 1 => (n / N ^ d % N) :: digs N n d
theorem digs_len (N n : Nat) : ∀ d, (digs N n d).length = d
  | 0 => rfl
  | d + 1 => by rw [digs, List.length_cons, digs_len]
theorem digs_lt {N : Nat} (n : Nat) (h : 0 < N) : ∀ d, ∀ x ∈ digs N n d, x < N
  | 0, x, hx => by cases hx
  | d + 1, x, hx => by
    rw [digs] at hx
    rcases List.mem_cons.mp hx with rfl | hx
    · exact Nat.mod_lt _ h
    · exact digs_lt n h d x hx
abbrev S3 := Nat × Int × Int
def stp (B : Nat) (ks : List (List Pt)) (s : S3) (j : Nat) : S3 := ((part ks s.1 j).2.2, s.2.1 * (B : Int) + (part ks s.1 j).1, s.2.2 * (B : Int) + (part ks s.1 j).2.1)
def run (B : Nat) (ks : List (List Pt)) (s : S3) (ds : List Nat) : S3 := ds.foldl (stp B ks) s
theorem run_cons (B : Nat) (ks : List (List Pt)) (s : S3) (j : Nat) (ds : List Nat) : run B ks s (j :: ds) = run B ks (stp B ks s j) ds := rfl
theorem run_app (B : Nat) (ks : List (List Pt)) (s : S3) (ds es : List Nat) : run B ks s (ds ++ es) = run B ks (run B ks s ds) es := List.foldl_append ..
theorem run_kind {B : Nat} {ks : List (List Pt)} (g : Good B ks) : ∀ (ds : List Nat) (s : S3), s.1 < ks.length → (∀ x ∈ ds, x < B * B) → (run B ks s ds).1 < ks.length
  | [], s, h, _ => h
  | j :: ds, s, h, hd => by
    rw [run_cons]
    exact run_kind g ds _ (g.prng h (hd j List.mem_cons_self)).2.2 fun x hx => hd x (List.mem_cons_of_mem _ hx)
/-- the cell of a number -/
def cellF (B : Nat) (ks : List (List Pt)) (k d n : Nat) : Int × Int := (run B ks (k, 0, 0) (digs (B * B) n d)).2
def mv (B d : Nat) (p : Pt) (c : Int × Int) : Int × Int := (p.1 * (B : Int) ^ d + c.1, p.2.1 * (B : Int) ^ d + c.2)
/-- the digits still to come -/
theorem dig_get {N : Nat} (n : Nat) : ∀ d t, t < d → (digs N n d)[t]? = some (n / N ^ (d - t - 1) % N)
  | 0, t, h => by omega
  | d + 1, 0, _ => by rw [digs]; simp
  | d + 1, t + 1, h => by rw [digs, List.getElem?_cons_succ, dig_get n d t (by omega)]; congr 4; omega
theorem take_succ_digs {N : Nat} (n d t : Nat) (h : t < d) : (digs N n d).take (t + 1) = (digs N n d).take t ++ [n / N ^ (d - t - 1) % N] := by
  rw [List.take_succ, dig_get n d t h]; rfl
/-- what the law reckons: the rest by the size -/
theorem rest_div {N : Nat} (hN : 0 < N) (n d t : Nat) (h : t < d) : n % N ^ (d - t) / N ^ (d - t - 1) = n / N ^ (d - t - 1) % N := by
  have e : N ^ (d - t) = N ^ (d - t - 1) * N := by rw [← Nat.pow_succ]; congr 1; omega
  rw [e, Nat.mod_mul_right_div_self]
theorem rest_mod {N : Nat} (n d t : Nat) (h : t < d) : n % N ^ (d - t) % N ^ (d - t - 1) = n % N ^ (d - t - 1) := by
  have e : N ^ (d - t) = N ^ (d - t - 1) * N := by rw [← Nat.pow_succ]; congr 1; omega
  rw [e]; exact Nat.mod_mul_right_mod ..
end Mt

set_option linter.all false
namespace Mt
/-! ### from the cell back to the number -/
/-- a number of figures -/
def num (N : Nat) (ds : List Nat) : Nat := ds.foldl (fun a j => a * N + j) 0
/-! ### a book begun elsewhere -/
end Mt
namespace Mt
end Mt

set_option linter.all false
namespace Mt
/-! ### postures, and backward, at all depths -/
def qz1 (w : Int) (c : Int × Int) : Int × Int := (w - 1 - c.2, c.1)
def qz (w : Int) (way mir : Nat) (c : Int × Int) : Int × Int :=
  let d := (match way with | 0 => c | 1 => qz1 w c | 2 => qz1 w (qz1 w c) | _ => qz1 w (qz1 w (qz1 w c)))
  match mir with | 0 => d | _ => (d.2, d.1)
/-! #### backward -/
end Mt

set_option linter.all false
namespace Mt
/-! ### threads that are the same at all depths -/
/-! ### postures of a thread -/
def rvn (N b d n : Nat) : Nat := if b = 1 then N ^ d - 1 - n else n
/-- the thread of kind 0 is the same in a posture, gone so -/
def Pos (B : Nat) (ks : List (List Pt)) (p : Nat × Nat) (b : Nat) : Prop := ∀ d n, n < (B * B) ^ d → qz ((B : Int) ^ d) p.1 p.2 (cellF B ks 0 d (rvn (B * B) b d n)) = cellF B ks 0 d n
end Mt

namespace Lw
set_option linter.all false
set_option maxRecDepth 100000
set_option maxHeartbeats 4000000
open PySem PySem.Spec Ev Pu Mt Wp
def isW : T → Bool
  | .int _ => true
  | _ => false
def isC : T → Bool
  | .int i => decide (0 ≤ i)
  | _ => false
def isI (n : Int) : T → Bool
  | .int i => decide (0 ≤ i ∧ i < n)
  | _ => false
theorem is_whole_ok (t : T) : m_is_whole [.v t] = .ok (.r (.bool (isW t))) [.v t] := by
  cases t <;> rfl
theorem is_count_ok (t : T) : m_is_count [.v t] = .ok (.r (.bool (isC t))) [.v t] := by
  cases t with
  | int i => simp only [m_is_count, b_is_count, is_whole_ok, eMLenE, eRep, eDLen, eNNew, eNLen, eListRng, gMax1, gSum, eMIn, eMInE, sMPut, eMNew, eMDict1, eMLen, eListZip, Option.isSome_none, Option.isSome_some, eMut, gAppend, gInsert, eRev, eIndex, eLenSet, gInt, gLen, gTuple, gList, gAbs, gMax2, gMin2, gDivmod, gEq_int, runFn, sSeq, sIf, sSet, sSetIx, sRet, sRetN, sNil, sDrop, sAsg, sFor, sPar, sNever, setO, retO, setOs, presc, eVar, eK, eTwo, v2, eFn, eDisp, eTup, eLst, eCall, eCallR, eCallK, pick, toSl, toSls, sIdx, wb, bk, esc, escs, vals, aNil, aCons, tb, Ev.tNot, Ev.tAnd, Ev.tOr, gGt, gLt, gGe, gLe, gSub, gMod, gDiv, gPow, gAdd, gMul, gInt, mulOk, g1, g2, fInt, fLen, fTuple, fList, fAbs, eAnd, eOr, eNot, eIf, eNeg, eIsi, gII, gIx, gIsN, gN, gT, gsNil, gsCons, isLent_eq, lentO, lentS_v, lentS_un, lentS_f, lentS_t, lentS_z, finE, okArg, Out.bind, Od.val, slVal, Bx.tr, Bx.t, isN, L2.ixN, L2.atI, isInt, isBool, isTuple, isList, isStr, isDict, isTL, Nat.zero_le, id_eq, eq_self, Pu.c0, Pu.c1, Pu.c2, Pu.c3, Pu.c4, Pu.c5, Pu.c6, Pu.c7, Pu.c8, Pu.c9, Pu.s1, Pu.s2, Pu.s3, Pu.s4, Pu.s5, Pu.s6, Pu.s7, Pu.s8, Pu.s9, Int.reduceEq, Nat.reduceMul, Int.ofNat_eq_natCast, wipeE, restE, exists_eq_left', Option.some.injEq, Out.ok.injEq, Prod.mk.injEq, Option.bind_some, Option.bind_none, Option.bind_eq_bind, List.getElem?_cons_zero, List.getElem?_cons_succ, List.getElem?_nil, List.set_cons_zero, List.set_cons_succ, List.set_nil, List.length_cons, List.length_nil, List.replicate_succ, List.replicate_zero, List.cons_append, List.nil_append, List.append_nil, List.all_cons, List.all_nil, Bool.and_true, Bool.true_and, Bool.and_false, Bool.false_and, if_true, if_false, ite_true, ite_false, List.nodup_cons, List.nodup_nil, List.not_mem_nil, List.mem_cons, not_false_eq_true, and_true, true_and, reduceIte, Nat.reduceAdd, Nat.reduceSub, Nat.reduceEqDiff, Nat.reduceLT, Nat.reduceLeDiff, Option.map_some, Option.map_none, Option.getD_some, reduceCtorEq, or_self, or_false, false_or, not_true_eq_false, decide_true, decide_false, Bool.not_true, Bool.not_false, Bool.false_eq_true, Nat.zero_add, Nat.add_zero, forall_const, Int.reduceLT, Int.reduceLE, Int.reduceNeg, Int.reduceToNat, Int.toNat_natCast, and_self, isW, isC]
  | _ => simp only [m_is_count, b_is_count, is_whole_ok, eMLenE, eRep, eDLen, eNNew, eNLen, eListRng, gMax1, gSum, eMIn, eMInE, sMPut, eMNew, eMDict1, eMLen, eListZip, Option.isSome_none, Option.isSome_some, eMut, gAppend, gInsert, eRev, eIndex, eLenSet, gInt, gLen, gTuple, gList, gAbs, gMax2, gMin2, gDivmod, gEq_int, runFn, sSeq, sIf, sSet, sSetIx, sRet, sRetN, sNil, sDrop, sAsg, sFor, sPar, sNever, setO, retO, setOs, presc, eVar, eK, eTwo, v2, eFn, eDisp, eTup, eLst, eCall, eCallR, eCallK, pick, toSl, toSls, sIdx, wb, bk, esc, escs, vals, aNil, aCons, tb, Ev.tNot, Ev.tAnd, Ev.tOr, gGt, gLt, gGe, gLe, gSub, gMod, gDiv, gPow, gAdd, gMul, gInt, mulOk, g1, g2, fInt, fLen, fTuple, fList, fAbs, eAnd, eOr, eNot, eIf, eNeg, eIsi, gII, gIx, gIsN, gN, gT, gsNil, gsCons, isLent_eq, lentO, lentS_v, lentS_un, lentS_f, lentS_t, lentS_z, finE, okArg, Out.bind, Od.val, slVal, Bx.tr, Bx.t, isN, L2.ixN, L2.atI, isInt, isBool, isTuple, isList, isStr, isDict, isTL, Nat.zero_le, id_eq, eq_self, Pu.c0, Pu.c1, Pu.c2, Pu.c3, Pu.c4, Pu.c5, Pu.c6, Pu.c7, Pu.c8, Pu.c9, Pu.s1, Pu.s2, Pu.s3, Pu.s4, Pu.s5, Pu.s6, Pu.s7, Pu.s8, Pu.s9, Int.reduceEq, Nat.reduceMul, Int.ofNat_eq_natCast, wipeE, restE, exists_eq_left', Option.some.injEq, Out.ok.injEq, Prod.mk.injEq, Option.bind_some, Option.bind_none, Option.bind_eq_bind, List.getElem?_cons_zero, List.getElem?_cons_succ, List.getElem?_nil, List.set_cons_zero, List.set_cons_succ, List.set_nil, List.length_cons, List.length_nil, List.replicate_succ, List.replicate_zero, List.cons_append, List.nil_append, List.append_nil, List.all_cons, List.all_nil, Bool.and_true, Bool.true_and, Bool.and_false, Bool.false_and, if_true, if_false, ite_true, ite_false, List.nodup_cons, List.nodup_nil, List.not_mem_nil, List.mem_cons, not_false_eq_true, and_true, true_and, reduceIte, Nat.reduceAdd, Nat.reduceSub, Nat.reduceEqDiff, Nat.reduceLT, Nat.reduceLeDiff, Option.map_some, Option.map_none, Option.getD_some, reduceCtorEq, or_self, or_false, false_or, not_true_eq_false, decide_true, decide_false, Bool.not_true, Bool.not_false, Bool.false_eq_true, Nat.zero_add, Nat.add_zero, forall_const, Int.reduceLT, Int.reduceLE, Int.reduceNeg, Int.reduceToNat, Int.toNat_natCast, and_self, isW, isC]
theorem is_index_ok (t : T) (n : Int) : m_is_index [.v t, .v (.int n)] = .ok (.r (.bool (isI n t))) [.v t, .v (.int n)] := by
  cases t with
  | int i => 
    by_cases h : 0 ≤ i
    · simp only [m_is_index, b_is_index, is_count_ok, eMLenE, eRep, eDLen, eNNew, eNLen, eListRng, gMax1, gSum, eMIn, eMInE, sMPut, eMNew, eMDict1, eMLen, eListZip, Option.isSome_none, Option.isSome_some, eMut, gAppend, gInsert, eRev, eIndex, eLenSet, gInt, gLen, gTuple, gList, gAbs, gMax2, gMin2, gDivmod, gEq_int, runFn, sSeq, sIf, sSet, sSetIx, sRet, sRetN, sNil, sDrop, sAsg, sFor, sPar, sNever, setO, retO, setOs, presc, eVar, eK, eTwo, v2, eFn, eDisp, eTup, eLst, eCall, eCallR, eCallK, pick, toSl, toSls, sIdx, wb, bk, esc, escs, vals, aNil, aCons, tb, Ev.tNot, Ev.tAnd, Ev.tOr, gGt, gLt, gGe, gLe, gSub, gMod, gDiv, gPow, gAdd, gMul, gInt, mulOk, g1, g2, fInt, fLen, fTuple, fList, fAbs, eAnd, eOr, eNot, eIf, eNeg, eIsi, gII, gIx, gIsN, gN, gT, gsNil, gsCons, isLent_eq, lentO, lentS_v, lentS_un, lentS_f, lentS_t, lentS_z, finE, okArg, Out.bind, Od.val, slVal, Bx.tr, Bx.t, isN, L2.ixN, L2.atI, isInt, isBool, isTuple, isList, isStr, isDict, isTL, Nat.zero_le, id_eq, eq_self, Pu.c0, Pu.c1, Pu.c2, Pu.c3, Pu.c4, Pu.c5, Pu.c6, Pu.c7, Pu.c8, Pu.c9, Pu.s1, Pu.s2, Pu.s3, Pu.s4, Pu.s5, Pu.s6, Pu.s7, Pu.s8, Pu.s9, Int.reduceEq, Nat.reduceMul, Int.ofNat_eq_natCast, wipeE, restE, exists_eq_left', Option.some.injEq, Out.ok.injEq, Prod.mk.injEq, Option.bind_some, Option.bind_none, Option.bind_eq_bind, List.getElem?_cons_zero, List.getElem?_cons_succ, List.getElem?_nil, List.set_cons_zero, List.set_cons_succ, List.set_nil, List.length_cons, List.length_nil, List.replicate_succ, List.replicate_zero, List.cons_append, List.nil_append, List.append_nil, List.all_cons, List.all_nil, Bool.and_true, Bool.true_and, Bool.and_false, Bool.false_and, if_true, if_false, ite_true, ite_false, List.nodup_cons, List.nodup_nil, List.not_mem_nil, List.mem_cons, not_false_eq_true, and_true, true_and, reduceIte, Nat.reduceAdd, Nat.reduceSub, Nat.reduceEqDiff, Nat.reduceLT, Nat.reduceLeDiff, Option.map_some, Option.map_none, Option.getD_some, reduceCtorEq, or_self, or_false, false_or, not_true_eq_false, decide_true, decide_false, Bool.not_true, Bool.not_false, Bool.false_eq_true, Nat.zero_add, Nat.add_zero, forall_const, Int.reduceLT, Int.reduceLE, Int.reduceNeg, Int.reduceToNat, Int.toNat_natCast, and_self, isC, isI, h]
    · simp only [m_is_index, b_is_index, is_count_ok, eMLenE, eRep, eDLen, eNNew, eNLen, eListRng, gMax1, gSum, eMIn, eMInE, sMPut, eMNew, eMDict1, eMLen, eListZip, Option.isSome_none, Option.isSome_some, eMut, gAppend, gInsert, eRev, eIndex, eLenSet, gInt, gLen, gTuple, gList, gAbs, gMax2, gMin2, gDivmod, gEq_int, runFn, sSeq, sIf, sSet, sSetIx, sRet, sRetN, sNil, sDrop, sAsg, sFor, sPar, sNever, setO, retO, setOs, presc, eVar, eK, eTwo, v2, eFn, eDisp, eTup, eLst, eCall, eCallR, eCallK, pick, toSl, toSls, sIdx, wb, bk, esc, escs, vals, aNil, aCons, tb, Ev.tNot, Ev.tAnd, Ev.tOr, gGt, gLt, gGe, gLe, gSub, gMod, gDiv, gPow, gAdd, gMul, gInt, mulOk, g1, g2, fInt, fLen, fTuple, fList, fAbs, eAnd, eOr, eNot, eIf, eNeg, eIsi, gII, gIx, gIsN, gN, gT, gsNil, gsCons, isLent_eq, lentO, lentS_v, lentS_un, lentS_f, lentS_t, lentS_z, finE, okArg, Out.bind, Od.val, slVal, Bx.tr, Bx.t, isN, L2.ixN, L2.atI, isInt, isBool, isTuple, isList, isStr, isDict, isTL, Nat.zero_le, id_eq, eq_self, Pu.c0, Pu.c1, Pu.c2, Pu.c3, Pu.c4, Pu.c5, Pu.c6, Pu.c7, Pu.c8, Pu.c9, Pu.s1, Pu.s2, Pu.s3, Pu.s4, Pu.s5, Pu.s6, Pu.s7, Pu.s8, Pu.s9, Int.reduceEq, Nat.reduceMul, Int.ofNat_eq_natCast, wipeE, restE, exists_eq_left', Option.some.injEq, Out.ok.injEq, Prod.mk.injEq, Option.bind_some, Option.bind_none, Option.bind_eq_bind, List.getElem?_cons_zero, List.getElem?_cons_succ, List.getElem?_nil, List.set_cons_zero, List.set_cons_succ, List.set_nil, List.length_cons, List.length_nil, List.replicate_succ, List.replicate_zero, List.cons_append, List.nil_append, List.append_nil, List.all_cons, List.all_nil, Bool.and_true, Bool.true_and, Bool.and_false, Bool.false_and, if_true, if_false, ite_true, ite_false, List.nodup_cons, List.nodup_nil, List.not_mem_nil, List.mem_cons, not_false_eq_true, and_true, true_and, reduceIte, Nat.reduceAdd, Nat.reduceSub, Nat.reduceEqDiff, Nat.reduceLT, Nat.reduceLeDiff, Option.map_some, Option.map_none, Option.getD_some, reduceCtorEq, or_self, or_false, false_or, not_true_eq_false, decide_true, decide_false, Bool.not_true, Bool.not_false, Bool.false_eq_true, Nat.zero_add, Nat.add_zero, forall_const, Int.reduceLT, Int.reduceLE, Int.reduceNeg, Int.reduceToNat, Int.toNat_natCast, and_self, isC, isI, h, false_and]
  | _ => simp only [m_is_index, b_is_index, is_count_ok, eMLenE, eRep, eDLen, eNNew, eNLen, eListRng, gMax1, gSum, eMIn, eMInE, sMPut, eMNew, eMDict1, eMLen, eListZip, Option.isSome_none, Option.isSome_some, eMut, gAppend, gInsert, eRev, eIndex, eLenSet, gInt, gLen, gTuple, gList, gAbs, gMax2, gMin2, gDivmod, gEq_int, runFn, sSeq, sIf, sSet, sSetIx, sRet, sRetN, sNil, sDrop, sAsg, sFor, sPar, sNever, setO, retO, setOs, presc, eVar, eK, eTwo, v2, eFn, eDisp, eTup, eLst, eCall, eCallR, eCallK, pick, toSl, toSls, sIdx, wb, bk, esc, escs, vals, aNil, aCons, tb, Ev.tNot, Ev.tAnd, Ev.tOr, gGt, gLt, gGe, gLe, gSub, gMod, gDiv, gPow, gAdd, gMul, gInt, mulOk, g1, g2, fInt, fLen, fTuple, fList, fAbs, eAnd, eOr, eNot, eIf, eNeg, eIsi, gII, gIx, gIsN, gN, gT, gsNil, gsCons, isLent_eq, lentO, lentS_v, lentS_un, lentS_f, lentS_t, lentS_z, finE, okArg, Out.bind, Od.val, slVal, Bx.tr, Bx.t, isN, L2.ixN, L2.atI, isInt, isBool, isTuple, isList, isStr, isDict, isTL, Nat.zero_le, id_eq, eq_self, Pu.c0, Pu.c1, Pu.c2, Pu.c3, Pu.c4, Pu.c5, Pu.c6, Pu.c7, Pu.c8, Pu.c9, Pu.s1, Pu.s2, Pu.s3, Pu.s4, Pu.s5, Pu.s6, Pu.s7, Pu.s8, Pu.s9, Int.reduceEq, Nat.reduceMul, Int.ofNat_eq_natCast, wipeE, restE, exists_eq_left', Option.some.injEq, Out.ok.injEq, Prod.mk.injEq, Option.bind_some, Option.bind_none, Option.bind_eq_bind, List.getElem?_cons_zero, List.getElem?_cons_succ, List.getElem?_nil, List.set_cons_zero, List.set_cons_succ, List.set_nil, List.length_cons, List.length_nil, List.replicate_succ, List.replicate_zero, List.cons_append, List.nil_append, List.append_nil, List.all_cons, List.all_nil, Bool.and_true, Bool.true_and, Bool.and_false, Bool.false_and, if_true, if_false, ite_true, ite_false, List.nodup_cons, List.nodup_nil, List.not_mem_nil, List.mem_cons, not_false_eq_true, and_true, true_and, reduceIte, Nat.reduceAdd, Nat.reduceSub, Nat.reduceEqDiff, Nat.reduceLT, Nat.reduceLeDiff, Option.map_some, Option.map_none, Option.getD_some, reduceCtorEq, or_self, or_false, false_or, not_true_eq_false, decide_true, decide_false, Bool.not_true, Bool.not_false, Bool.false_eq_true, Nat.zero_add, Nat.add_zero, forall_const, Int.reduceLT, Int.reduceLE, Int.reduceNeg, Int.reduceToNat, Int.toNat_natCast, and_self, isC, isI]
def isP (b n : Int) : T → Bool
  | .tuple [x, y, k] => isI b x && (isI b y && isI n k)
  | _ => false
theorem is_part_ok (b n : Int) (t : T) : m__is_part [.v (.int b), .v (.int n), .v t] = .ok (.r (.bool (isP b n t))) [.v (.int b), .v (.int n), .v t] := by
  cases t with
  | tuple ts =>
    match ts with
    | [x, y, k] =>
      cases hx : isI b x <;> cases hy : isI b y <;> simp only [m__is_part, b__is_part, is_index_ok, eMLenE, eRep, eDLen, eNNew, eNLen, eListRng, gMax1, gSum, eMIn, eMInE, sMPut, eMNew, eMDict1, eMLen, eListZip, Option.isSome_none, Option.isSome_some, eMut, gAppend, gInsert, eRev, eIndex, eLenSet, gInt, gLen, gTuple, gList, gAbs, gMax2, gMin2, gDivmod, gEq_int, runFn, sSeq, sIf, sSet, sSetIx, sRet, sRetN, sNil, sDrop, sAsg, sFor, sPar, sNever, setO, retO, setOs, presc, eVar, eK, eTwo, v2, eFn, eDisp, eTup, eLst, eCall, eCallR, eCallK, pick, toSl, toSls, sIdx, wb, bk, esc, escs, vals, aNil, aCons, tb, Ev.tNot, Ev.tAnd, Ev.tOr, gGt, gLt, gGe, gLe, gSub, gMod, gDiv, gPow, gAdd, gMul, gInt, mulOk, g1, g2, fInt, fLen, fTuple, fList, fAbs, eAnd, eOr, eNot, eIf, eNeg, eIsi, gII, gIx, gIsN, gN, gT, gsNil, gsCons, isLent_eq, lentO, lentS_v, lentS_un, lentS_f, lentS_t, lentS_z, finE, okArg, Out.bind, Od.val, slVal, Bx.tr, Bx.t, isN, L2.ixN, L2.atI, isInt, isBool, isTuple, isList, isStr, isDict, isTL, Nat.zero_le, id_eq, eq_self, Pu.c0, Pu.c1, Pu.c2, Pu.c3, Pu.c4, Pu.c5, Pu.c6, Pu.c7, Pu.c8, Pu.c9, Pu.s1, Pu.s2, Pu.s3, Pu.s4, Pu.s5, Pu.s6, Pu.s7, Pu.s8, Pu.s9, Int.reduceEq, Nat.reduceMul, Int.ofNat_eq_natCast, wipeE, restE, exists_eq_left', Option.some.injEq, Out.ok.injEq, Prod.mk.injEq, Option.bind_some, Option.bind_none, Option.bind_eq_bind, List.getElem?_cons_zero, List.getElem?_cons_succ, List.getElem?_nil, List.set_cons_zero, List.set_cons_succ, List.set_nil, List.length_cons, List.length_nil, List.replicate_succ, List.replicate_zero, List.cons_append, List.nil_append, List.append_nil, List.all_cons, List.all_nil, Bool.and_true, Bool.true_and, Bool.and_false, Bool.false_and, if_true, if_false, ite_true, ite_false, List.nodup_cons, List.nodup_nil, List.not_mem_nil, List.mem_cons, not_false_eq_true, and_true, true_and, reduceIte, Nat.reduceAdd, Nat.reduceSub, Nat.reduceEqDiff, Nat.reduceLT, Nat.reduceLeDiff, Option.map_some, Option.map_none, Option.getD_some, reduceCtorEq, or_self, or_false, false_or, not_true_eq_false, decide_true, decide_false, Bool.not_true, Bool.not_false, Bool.false_eq_true, Nat.zero_add, Nat.add_zero, forall_const, Int.reduceLT, Int.reduceLE, Int.reduceNeg, Int.reduceToNat, Int.toNat_natCast, and_self, isP, hx, hy]
    | [] => rfl
    | [_] => rfl
    | [_, _] => rfl
    | x :: y :: k :: z :: ts =>
      have h : decide (((ts.length + 1 + 1 + 1 + 1 : Nat) : Int) = 3) = false := by simp; omega
      simp only [m__is_part, b__is_part, is_index_ok, eMLenE, eRep, eDLen, eNNew, eNLen, eListRng, gMax1, gSum, eMIn, eMInE, sMPut, eMNew, eMDict1, eMLen, eListZip, Option.isSome_none, Option.isSome_some, eMut, gAppend, gInsert, eRev, eIndex, eLenSet, gInt, gLen, gTuple, gList, gAbs, gMax2, gMin2, gDivmod, gEq_int, runFn, sSeq, sIf, sSet, sSetIx, sRet, sRetN, sNil, sDrop, sAsg, sFor, sPar, sNever, setO, retO, setOs, presc, eVar, eK, eTwo, v2, eFn, eDisp, eTup, eLst, eCall, eCallR, eCallK, pick, toSl, toSls, sIdx, wb, bk, esc, escs, vals, aNil, aCons, tb, Ev.tNot, Ev.tAnd, Ev.tOr, gGt, gLt, gGe, gLe, gSub, gMod, gDiv, gPow, gAdd, gMul, gInt, mulOk, g1, g2, fInt, fLen, fTuple, fList, fAbs, eAnd, eOr, eNot, eIf, eNeg, eIsi, gII, gIx, gIsN, gN, gT, gsNil, gsCons, isLent_eq, lentO, lentS_v, lentS_un, lentS_f, lentS_t, lentS_z, finE, okArg, Out.bind, Od.val, slVal, Bx.tr, Bx.t, isN, L2.ixN, L2.atI, isInt, isBool, isTuple, isList, isStr, isDict, isTL, Nat.zero_le, id_eq, eq_self, Pu.c0, Pu.c1, Pu.c2, Pu.c3, Pu.c4, Pu.c5, Pu.c6, Pu.c7, Pu.c8, Pu.c9, Pu.s1, Pu.s2, Pu.s3, Pu.s4, Pu.s5, Pu.s6, Pu.s7, Pu.s8, Pu.s9, Int.reduceEq, Nat.reduceMul, Int.ofNat_eq_natCast, wipeE, restE, exists_eq_left', Option.some.injEq, Out.ok.injEq, Prod.mk.injEq, Option.bind_some, Option.bind_none, Option.bind_eq_bind, List.getElem?_cons_zero, List.getElem?_cons_succ, List.getElem?_nil, List.set_cons_zero, List.set_cons_succ, List.set_nil, List.length_cons, List.length_nil, List.replicate_succ, List.replicate_zero, List.cons_append, List.nil_append, List.append_nil, List.all_cons, List.all_nil, Bool.and_true, Bool.true_and, Bool.and_false, Bool.false_and, if_true, if_false, ite_true, ite_false, List.nodup_cons, List.nodup_nil, List.not_mem_nil, List.mem_cons, not_false_eq_true, and_true, true_and, reduceIte, Nat.reduceAdd, Nat.reduceSub, Nat.reduceEqDiff, Nat.reduceLT, Nat.reduceLeDiff, Option.map_some, Option.map_none, Option.getD_some, reduceCtorEq, or_self, or_false, false_or, not_true_eq_false, decide_true, decide_false, Bool.not_true, Bool.not_false, Bool.false_eq_true, Nat.zero_add, Nat.add_zero, forall_const, Int.reduceLT, Int.reduceLE, Int.reduceNeg, Int.reduceToNat, Int.toNat_natCast, and_self, isP, h]
  | _ => rfl
theorem isP_form {b n : Int} {t : T} (h : isP b n t = true) : ∃ x y k : Int, t = .tuple [.int x, .int y, .int k] ∧ (0 ≤ x ∧ x < b) ∧ (0 ≤ y ∧ y < b) ∧ 0 ≤ k ∧ k < n := by
  unfold isP at h
  split at h
  · rename_i x y k
    rw [Bool.and_eq_true, Bool.and_eq_true] at h
    obtain ⟨h1, h2, h3⟩ := h
    cases x <;> simp only [isI, Bool.false_eq_true] at h1
    cases y <;> simp only [isI, Bool.false_eq_true] at h2
    cases k <;> simp only [isI, Bool.false_eq_true] at h3
    exact ⟨_, _, _, rfl, of_decide_eq_true h1, of_decide_eq_true h2, of_decide_eq_true h3⟩
  · cases h
/-- places of parts -/
def pl : T → T
  | .tuple (x :: y :: _) => .tuple [x, y]
  | t => t
theorem places_x (ts : List T) (hl : ts.length ≤ sizeLine) (h : ∀ t ∈ ts, ∃ x y k, t = .tuple [x, y, k]) : x1_places_of [.v (.tuple ts), .un] = .ok (.b (.l (ts.map pl))) [.v (.tuple ts), .un] := by
  refine comp_map pl ts [] [.v (.tuple ts), .un] (by simpa using hl) fun t ht => ?_
  obtain ⟨x, y, k, rfl⟩ := h t ht
  exact ⟨_, rfl, _, rfl, _, _, rfl, _, rfl, rfl⟩
theorem places_ok (ts : List T) (hl : ts.length ≤ sizeLine) (h : ∀ t ∈ ts, ∃ x y k, t = .tuple [x, y, k]) : m_places_of [.v (.tuple ts)] = .ok (.b (.l (ts.map pl))) [.v (.tuple ts)] := by
  simp only [m_places_of, b_places_of, places_x ts hl h, eMLenE, eRep, eDLen, eNNew, eNLen, eListRng, gMax1, gSum, eMIn, eMInE, sMPut, eMNew, eMDict1, eMLen, eListZip, Option.isSome_none, Option.isSome_some, eMut, gAppend, gInsert, eRev, eIndex, eLenSet, gInt, gLen, gTuple, gList, gAbs, gMax2, gMin2, gDivmod, gEq_int, runFn, sSeq, sIf, sSet, sSetIx, sRet, sRetN, sNil, sDrop, sAsg, sFor, sPar, sNever, setO, retO, setOs, presc, eVar, eK, eTwo, v2, eFn, eDisp, eTup, eLst, eCall, eCallR, eCallK, pick, toSl, toSls, sIdx, wb, bk, esc, escs, vals, aNil, aCons, tb, Ev.tNot, Ev.tAnd, Ev.tOr, gGt, gLt, gGe, gLe, gSub, gMod, gDiv, gPow, gAdd, gMul, gInt, mulOk, g1, g2, fInt, fLen, fTuple, fList, fAbs, eAnd, eOr, eNot, eIf, eNeg, eIsi, gII, gIx, gIsN, gN, gT, gsNil, gsCons, isLent_eq, lentO, lentS_v, lentS_un, lentS_f, lentS_t, lentS_z, finE, okArg, Out.bind, Od.val, slVal, Bx.tr, Bx.t, isN, L2.ixN, L2.atI, isInt, isBool, isTuple, isList, isStr, isDict, isTL, Nat.zero_le, id_eq, eq_self, Pu.c0, Pu.c1, Pu.c2, Pu.c3, Pu.c4, Pu.c5, Pu.c6, Pu.c7, Pu.c8, Pu.c9, Pu.s1, Pu.s2, Pu.s3, Pu.s4, Pu.s5, Pu.s6, Pu.s7, Pu.s8, Pu.s9, Int.reduceEq, Nat.reduceMul, Int.ofNat_eq_natCast, wipeE, restE, exists_eq_left', Option.some.injEq, Out.ok.injEq, Prod.mk.injEq, Option.bind_some, Option.bind_none, Option.bind_eq_bind, List.getElem?_cons_zero, List.getElem?_cons_succ, List.getElem?_nil, List.set_cons_zero, List.set_cons_succ, List.set_nil, List.length_cons, List.length_nil, List.replicate_succ, List.replicate_zero, List.cons_append, List.nil_append, List.append_nil, List.all_cons, List.all_nil, Bool.and_true, Bool.true_and, Bool.and_false, Bool.false_and, if_true, if_false, ite_true, ite_false, List.nodup_cons, List.nodup_nil, List.not_mem_nil, List.mem_cons, not_false_eq_true, and_true, true_and, reduceIte, Nat.reduceAdd, Nat.reduceSub, Nat.reduceEqDiff, Nat.reduceLT, Nat.reduceLeDiff, Option.map_some, Option.map_none, Option.getD_some, reduceCtorEq, or_self, or_false, false_or, not_true_eq_false, decide_true, decide_false, Bool.not_true, Bool.not_false, Bool.false_eq_true, Nat.zero_add, Nat.add_zero, forall_const, Int.reduceLT, Int.reduceLE, Int.reduceNeg, Int.reduceToNat, Int.toNat_natCast, and_self]
theorem kind_x (b n : Int) (ts : List T) (hl : ts.length ≤ sizeLine) : x1__is_kind [.v (.int b), .v (.int n), .v (.tuple ts), .un] = .ok (.b (.l ((ts.map (isP b n)).map .bool))) [.v (.int b), .v (.int n), .v (.tuple ts), .un] := by
  rw [List.map_map]
  refine comp_map _ ts [] [.v (.int b), .v (.int n), .v (.tuple ts), .un] (by simpa using hl) fun t ht => ?_
  refine ⟨_, rfl, _, rfl, .r (.bool (isP b n t)), [.v (.int b), .v (.int n), .v (.tuple ts), .v t], ?_, _, rfl, rfl⟩
  simp only [is_part_ok, eMLenE, eRep, eDLen, eNNew, eNLen, eListRng, gMax1, gSum, eMIn, eMInE, sMPut, eMNew, eMDict1, eMLen, eListZip, Option.isSome_none, Option.isSome_some, eMut, gAppend, gInsert, eRev, eIndex, eLenSet, gInt, gLen, gTuple, gList, gAbs, gMax2, gMin2, gDivmod, gEq_int, runFn, sSeq, sIf, sSet, sSetIx, sRet, sRetN, sNil, sDrop, sAsg, sFor, sPar, sNever, setO, retO, setOs, presc, eVar, eK, eTwo, v2, eFn, eDisp, eTup, eLst, eCall, eCallR, eCallK, pick, toSl, toSls, sIdx, wb, bk, esc, escs, vals, aNil, aCons, tb, Ev.tNot, Ev.tAnd, Ev.tOr, gGt, gLt, gGe, gLe, gSub, gMod, gDiv, gPow, gAdd, gMul, gInt, mulOk, g1, g2, fInt, fLen, fTuple, fList, fAbs, eAnd, eOr, eNot, eIf, eNeg, eIsi, gII, gIx, gIsN, gN, gT, gsNil, gsCons, isLent_eq, lentO, lentS_v, lentS_un, lentS_f, lentS_t, lentS_z, finE, okArg, Out.bind, Od.val, slVal, Bx.tr, Bx.t, isN, L2.ixN, L2.atI, isInt, isBool, isTuple, isList, isStr, isDict, isTL, Nat.zero_le, id_eq, eq_self, Pu.c0, Pu.c1, Pu.c2, Pu.c3, Pu.c4, Pu.c5, Pu.c6, Pu.c7, Pu.c8, Pu.c9, Pu.s1, Pu.s2, Pu.s3, Pu.s4, Pu.s5, Pu.s6, Pu.s7, Pu.s8, Pu.s9, Int.reduceEq, Nat.reduceMul, Int.ofNat_eq_natCast, wipeE, restE, exists_eq_left', Option.some.injEq, Out.ok.injEq, Prod.mk.injEq, Option.bind_some, Option.bind_none, Option.bind_eq_bind, List.getElem?_cons_zero, List.getElem?_cons_succ, List.getElem?_nil, List.set_cons_zero, List.set_cons_succ, List.set_nil, List.length_cons, List.length_nil, List.replicate_succ, List.replicate_zero, List.cons_append, List.nil_append, List.append_nil, List.all_cons, List.all_nil, Bool.and_true, Bool.true_and, Bool.and_false, Bool.false_and, if_true, if_false, ite_true, ite_false, List.nodup_cons, List.nodup_nil, List.not_mem_nil, List.mem_cons, not_false_eq_true, and_true, true_and, reduceIte, Nat.reduceAdd, Nat.reduceSub, Nat.reduceEqDiff, Nat.reduceLT, Nat.reduceLeDiff, Option.map_some, Option.map_none, Option.getD_some, reduceCtorEq, or_self, or_false, false_or, not_true_eq_false, decide_true, decide_false, Bool.not_true, Bool.not_false, Bool.false_eq_true, Nat.zero_add, Nat.add_zero, forall_const, Int.reduceLT, Int.reduceLE, Int.reduceNeg, Int.reduceToNat, Int.toNat_natCast, and_self, wipeE]
def i3 : T → List Int
  | .tuple (.int x :: .int y :: _) => [x, y]
  | _ => []
theorem tups_places {b n : Int} : ∀ {ts : List T}, (∀ t ∈ ts, isP b n t = true) → tupsOf (ts.map pl) = some (ts.map i3)
  | [], _ => rfl
  | t :: ts, h => by
    obtain ⟨x, y, k, rfl, _⟩ := isP_form (h t List.mem_cons_self)
    have ih := tups_places fun t ht => h t (List.mem_cons_of_mem _ ht)
    show (match intsOf [.int x, .int y], tupsOf (ts.map pl) with | some a, some b => some (a :: b) | _, _ => none) = _
    rw [ih]
    rfl
/-- a kind -/
def isKd (b n : Int) : T → Bool
  | .tuple ts => decide ((ts.length : Int) = b * b) && ((ts.map (isP b n)).all id && decide (((dd (ts.map i3)).length : Int) = b * b))
  | _ => false
theorem is_kind_ok (b n : Int) (t : T) (hb : b = 2 ∨ b = 3) : m__is_kind [.v (.int b), .v (.int n), .v t] = .ok (.r (.bool (isKd b n t))) [.v (.int b), .v (.int n), .v t] := by
  have hm : b.natAbs.log2 + b.natAbs.log2 < 1000000 := by rcases hb with rfl | rfl <;> decide
  cases t with
  | tuple ts =>
    by_cases h1 : (ts.length : Int) = b * b
    · have h2 : ts.length < 64 := by rcases hb with rfl | rfl <;> omega
      have h3 : ts.length ≤ sizeLine := by unfold sizeLine; omega
      cases h4 : (ts.map (isP b n)).all id with
      | false => simp only [m__is_kind, b__is_kind, kind_x b n ts h3, eMLenE, eRep, eDLen, eNNew, eNLen, eListRng, gMax1, gSum, eMIn, eMInE, sMPut, eMNew, eMDict1, eMLen, eListZip, Option.isSome_none, Option.isSome_some, eMut, gAppend, gInsert, eRev, eIndex, eLenSet, gInt, gLen, gTuple, gList, gAbs, gMax2, gMin2, gDivmod, gEq_int, runFn, sSeq, sIf, sSet, sSetIx, sRet, sRetN, sNil, sDrop, sAsg, sFor, sPar, sNever, setO, retO, setOs, presc, eVar, eK, eTwo, v2, eFn, eDisp, eTup, eLst, eCall, eCallR, eCallK, pick, toSl, toSls, sIdx, wb, bk, esc, escs, vals, aNil, aCons, tb, Ev.tNot, Ev.tAnd, Ev.tOr, gGt, gLt, gGe, gLe, gSub, gMod, gDiv, gPow, gAdd, gMul, gInt, mulOk, g1, g2, fInt, fLen, fTuple, fList, fAbs, eAnd, eOr, eNot, eIf, eNeg, eIsi, gII, gIx, gIsN, gN, gT, gsNil, gsCons, isLent_eq, lentO, lentS_v, lentS_un, lentS_f, lentS_t, lentS_z, finE, okArg, Out.bind, Od.val, slVal, Bx.tr, Bx.t, isN, L2.ixN, L2.atI, isInt, isBool, isTuple, isList, isStr, isDict, isTL, Nat.zero_le, id_eq, eq_self, Pu.c0, Pu.c1, Pu.c2, Pu.c3, Pu.c4, Pu.c5, Pu.c6, Pu.c7, Pu.c8, Pu.c9, Pu.s1, Pu.s2, Pu.s3, Pu.s4, Pu.s5, Pu.s6, Pu.s7, Pu.s8, Pu.s9, Int.reduceEq, Nat.reduceMul, Int.ofNat_eq_natCast, wipeE, restE, exists_eq_left', Option.some.injEq, Out.ok.injEq, Prod.mk.injEq, Option.bind_some, Option.bind_none, Option.bind_eq_bind, List.getElem?_cons_zero, List.getElem?_cons_succ, List.getElem?_nil, List.set_cons_zero, List.set_cons_succ, List.set_nil, List.length_cons, List.length_nil, List.replicate_succ, List.replicate_zero, List.cons_append, List.nil_append, List.append_nil, List.all_cons, List.all_nil, Bool.and_true, Bool.true_and, Bool.and_false, Bool.false_and, if_true, if_false, ite_true, ite_false, List.nodup_cons, List.nodup_nil, List.not_mem_nil, List.mem_cons, not_false_eq_true, and_true, true_and, reduceIte, Nat.reduceAdd, Nat.reduceSub, Nat.reduceEqDiff, Nat.reduceLT, Nat.reduceLeDiff, Option.map_some, Option.map_none, Option.getD_some, reduceCtorEq, or_self, or_false, false_or, not_true_eq_false, decide_true, decide_false, Bool.not_true, Bool.not_false, Bool.false_eq_true, Nat.zero_add, Nat.add_zero, forall_const, Int.reduceLT, Int.reduceLE, Int.reduceNeg, Int.reduceToNat, Int.toNat_natCast, and_self, isKd, h1, h4, gAll_bools, hm]
      | true =>
        have h5 : ∀ t ∈ ts, isP b n t = true := fun t ht => by
          have := List.all_eq_true.mp h4 (isP b n t) (List.mem_map_of_mem ht)
          exact this
        have h6 := places_ok ts h3 fun t ht => by
          obtain ⟨x, y, k, rfl, _⟩ := isP_form (h5 t ht)
          exact ⟨_, _, _, rfl⟩
        have h7 := tups_places h5
        simp only [m__is_kind, b__is_kind, kind_x b n ts h3, eMLenE, eRep, eDLen, eNNew, eNLen, eListRng, gMax1, gSum, eMIn, eMInE, sMPut, eMNew, eMDict1, eMLen, eListZip, Option.isSome_none, Option.isSome_some, eMut, gAppend, gInsert, eRev, eIndex, eLenSet, gInt, gLen, gTuple, gList, gAbs, gMax2, gMin2, gDivmod, gEq_int, runFn, sSeq, sIf, sSet, sSetIx, sRet, sRetN, sNil, sDrop, sAsg, sFor, sPar, sNever, setO, retO, setOs, presc, eVar, eK, eTwo, v2, eFn, eDisp, eTup, eLst, eCall, eCallR, eCallK, pick, toSl, toSls, sIdx, wb, bk, esc, escs, vals, aNil, aCons, tb, Ev.tNot, Ev.tAnd, Ev.tOr, gGt, gLt, gGe, gLe, gSub, gMod, gDiv, gPow, gAdd, gMul, gInt, mulOk, g1, g2, fInt, fLen, fTuple, fList, fAbs, eAnd, eOr, eNot, eIf, eNeg, eIsi, gII, gIx, gIsN, gN, gT, gsNil, gsCons, isLent_eq, lentO, lentS_v, lentS_un, lentS_f, lentS_t, lentS_z, finE, okArg, Out.bind, Od.val, slVal, Bx.tr, Bx.t, isN, L2.ixN, L2.atI, isInt, isBool, isTuple, isList, isStr, isDict, isTL, Nat.zero_le, id_eq, eq_self, Pu.c0, Pu.c1, Pu.c2, Pu.c3, Pu.c4, Pu.c5, Pu.c6, Pu.c7, Pu.c8, Pu.c9, Pu.s1, Pu.s2, Pu.s3, Pu.s4, Pu.s5, Pu.s6, Pu.s7, Pu.s8, Pu.s9, Int.reduceEq, Nat.reduceMul, Int.ofNat_eq_natCast, wipeE, restE, exists_eq_left', Option.some.injEq, Out.ok.injEq, Prod.mk.injEq, Option.bind_some, Option.bind_none, Option.bind_eq_bind, List.getElem?_cons_zero, List.getElem?_cons_succ, List.getElem?_nil, List.set_cons_zero, List.set_cons_succ, List.set_nil, List.length_cons, List.length_nil, List.replicate_succ, List.replicate_zero, List.cons_append, List.nil_append, List.append_nil, List.all_cons, List.all_nil, Bool.and_true, Bool.true_and, Bool.and_false, Bool.false_and, if_true, if_false, ite_true, ite_false, List.nodup_cons, List.nodup_nil, List.not_mem_nil, List.mem_cons, not_false_eq_true, and_true, true_and, reduceIte, Nat.reduceAdd, Nat.reduceSub, Nat.reduceEqDiff, Nat.reduceLT, Nat.reduceLeDiff, Option.map_some, Option.map_none, Option.getD_some, reduceCtorEq, or_self, or_false, false_or, not_true_eq_false, decide_true, decide_false, Bool.not_true, Bool.not_false, Bool.false_eq_true, Nat.zero_add, Nat.add_zero, forall_const, Int.reduceLT, Int.reduceLE, Int.reduceNeg, Int.reduceToNat, Int.toNat_natCast, and_self, isKd, h1, h4, gAll_bools, hm, eLenSet, h6, h7, List.length_map, h2, id]
    · simp only [m__is_kind, b__is_kind, eMLenE, eRep, eDLen, eNNew, eNLen, eListRng, gMax1, gSum, eMIn, eMInE, sMPut, eMNew, eMDict1, eMLen, eListZip, Option.isSome_none, Option.isSome_some, eMut, gAppend, gInsert, eRev, eIndex, eLenSet, gInt, gLen, gTuple, gList, gAbs, gMax2, gMin2, gDivmod, gEq_int, runFn, sSeq, sIf, sSet, sSetIx, sRet, sRetN, sNil, sDrop, sAsg, sFor, sPar, sNever, setO, retO, setOs, presc, eVar, eK, eTwo, v2, eFn, eDisp, eTup, eLst, eCall, eCallR, eCallK, pick, toSl, toSls, sIdx, wb, bk, esc, escs, vals, aNil, aCons, tb, Ev.tNot, Ev.tAnd, Ev.tOr, gGt, gLt, gGe, gLe, gSub, gMod, gDiv, gPow, gAdd, gMul, gInt, mulOk, g1, g2, fInt, fLen, fTuple, fList, fAbs, eAnd, eOr, eNot, eIf, eNeg, eIsi, gII, gIx, gIsN, gN, gT, gsNil, gsCons, isLent_eq, lentO, lentS_v, lentS_un, lentS_f, lentS_t, lentS_z, finE, okArg, Out.bind, Od.val, slVal, Bx.tr, Bx.t, isN, L2.ixN, L2.atI, isInt, isBool, isTuple, isList, isStr, isDict, isTL, Nat.zero_le, id_eq, eq_self, Pu.c0, Pu.c1, Pu.c2, Pu.c3, Pu.c4, Pu.c5, Pu.c6, Pu.c7, Pu.c8, Pu.c9, Pu.s1, Pu.s2, Pu.s3, Pu.s4, Pu.s5, Pu.s6, Pu.s7, Pu.s8, Pu.s9, Int.reduceEq, Nat.reduceMul, Int.ofNat_eq_natCast, wipeE, restE, exists_eq_left', Option.some.injEq, Out.ok.injEq, Prod.mk.injEq, Option.bind_some, Option.bind_none, Option.bind_eq_bind, List.getElem?_cons_zero, List.getElem?_cons_succ, List.getElem?_nil, List.set_cons_zero, List.set_cons_succ, List.set_nil, List.length_cons, List.length_nil, List.replicate_succ, List.replicate_zero, List.cons_append, List.nil_append, List.append_nil, List.all_cons, List.all_nil, Bool.and_true, Bool.true_and, Bool.and_false, Bool.false_and, if_true, if_false, ite_true, ite_false, List.nodup_cons, List.nodup_nil, List.not_mem_nil, List.mem_cons, not_false_eq_true, and_true, true_and, reduceIte, Nat.reduceAdd, Nat.reduceSub, Nat.reduceEqDiff, Nat.reduceLT, Nat.reduceLeDiff, Option.map_some, Option.map_none, Option.getD_some, reduceCtorEq, or_self, or_false, false_or, not_true_eq_false, decide_true, decide_false, Bool.not_true, Bool.not_false, Bool.false_eq_true, Nat.zero_add, Nat.add_zero, forall_const, Int.reduceLT, Int.reduceLE, Int.reduceNeg, Int.reduceToNat, Int.toNat_natCast, and_self, isKd, h1, hm]
  | _ => rfl
theorem gIn2 (k : Bool → Bool) (i j b : Int) : gIn k (.int b) (.tuple [.int i, .int j]) = some (.r (.bool (k (decide (i = b) || decide (j = b))))) := by
  show some (Od.r (.bool (k (decide (i = b) || (decide (j = b) || false))))) = _
  rw [Bool.or_false]
theorem book_x (t : T) (b : Int) (hb : b = 2 ∨ b = 3) (ts : List T) (hl : ts.length ≤ sizeLine) : x1_is_book [.v t, .v (.int b), .v (.tuple ts), .un] = .ok (.b (.l ((ts.map (isKd b ts.length)).map .bool))) [.v t, .v (.int b), .v (.tuple ts), .un] := by
  rw [List.map_map]
  refine comp_map _ ts [] [.v t, .v (.int b), .v (.tuple ts), .un] (by simpa using hl) fun u ht => ?_
  refine ⟨_, rfl, _, rfl, .r (.bool (isKd b ts.length u)), [.v t, .v (.int b), .v (.tuple ts), .v u], ?_, _, rfl, rfl⟩
  simp only [is_kind_ok b _ _ hb, eMLenE, eRep, eDLen, eNNew, eNLen, eListRng, gMax1, gSum, eMIn, eMInE, sMPut, eMNew, eMDict1, eMLen, eListZip, Option.isSome_none, Option.isSome_some, eMut, gAppend, gInsert, eRev, eIndex, eLenSet, gInt, gLen, gTuple, gList, gAbs, gMax2, gMin2, gDivmod, gEq_int, runFn, sSeq, sIf, sSet, sSetIx, sRet, sRetN, sNil, sDrop, sAsg, sFor, sPar, sNever, setO, retO, setOs, presc, eVar, eK, eTwo, v2, eFn, eDisp, eTup, eLst, eCall, eCallR, eCallK, pick, toSl, toSls, sIdx, wb, bk, esc, escs, vals, aNil, aCons, tb, Ev.tNot, Ev.tAnd, Ev.tOr, gGt, gLt, gGe, gLe, gSub, gMod, gDiv, gPow, gAdd, gMul, gInt, mulOk, g1, g2, fInt, fLen, fTuple, fList, fAbs, eAnd, eOr, eNot, eIf, eNeg, eIsi, gII, gIx, gIsN, gN, gT, gsNil, gsCons, isLent_eq, lentO, lentS_v, lentS_un, lentS_f, lentS_t, lentS_z, finE, okArg, Out.bind, Od.val, slVal, Bx.tr, Bx.t, isN, L2.ixN, L2.atI, isInt, isBool, isTuple, isList, isStr, isDict, isTL, Nat.zero_le, id_eq, eq_self, Pu.c0, Pu.c1, Pu.c2, Pu.c3, Pu.c4, Pu.c5, Pu.c6, Pu.c7, Pu.c8, Pu.c9, Pu.s1, Pu.s2, Pu.s3, Pu.s4, Pu.s5, Pu.s6, Pu.s7, Pu.s8, Pu.s9, Int.reduceEq, Nat.reduceMul, Int.ofNat_eq_natCast, wipeE, restE, exists_eq_left', Option.some.injEq, Out.ok.injEq, Prod.mk.injEq, Option.bind_some, Option.bind_none, Option.bind_eq_bind, List.getElem?_cons_zero, List.getElem?_cons_succ, List.getElem?_nil, List.set_cons_zero, List.set_cons_succ, List.set_nil, List.length_cons, List.length_nil, List.replicate_succ, List.replicate_zero, List.cons_append, List.nil_append, List.append_nil, List.all_cons, List.all_nil, Bool.and_true, Bool.true_and, Bool.and_false, Bool.false_and, if_true, if_false, ite_true, ite_false, List.nodup_cons, List.nodup_nil, List.not_mem_nil, List.mem_cons, not_false_eq_true, and_true, true_and, reduceIte, Nat.reduceAdd, Nat.reduceSub, Nat.reduceEqDiff, Nat.reduceLT, Nat.reduceLeDiff, Option.map_some, Option.map_none, Option.getD_some, reduceCtorEq, or_self, or_false, false_or, not_true_eq_false, decide_true, decide_false, Bool.not_true, Bool.not_false, Bool.false_eq_true, Nat.zero_add, Nat.add_zero, forall_const, Int.reduceLT, Int.reduceLE, Int.reduceNeg, Int.reduceToNat, Int.toNat_natCast, and_self, wipeE]
/-- a book -/
def isBk : T → Bool
  | .tuple [.int b, .tuple ks] => (decide (2 = b) || decide (3 = b)) && (decide (0 < ks.length) && (ks.map (isKd b ks.length)).all id)
  | _ => false
/-- how many kinds -/
def fewK : T → Bool
  | .tuple [_, .tuple ks] => decide (ks.length ≤ sizeLine)
  | _ => true
theorem is_book_ok (t : T) (hf : fewK t = true) : m_is_book [.v t] = .ok (.r (.bool (isBk t))) [.v t] := by
  cases t with
  | tuple ts =>
    match ts with
    | [] => rfl
    | [x] => cases x <;> rfl
    | x :: y :: z :: ts =>
      have h : decide (((ts.length + 1 + 1 + 1 : Nat) : Int) = 2) = false := by simp; omega
      cases x <;> simp only [m_is_book, b_is_book, eMLenE, eRep, eDLen, eNNew, eNLen, eListRng, gMax1, gSum, eMIn, eMInE, sMPut, eMNew, eMDict1, eMLen, eListZip, Option.isSome_none, Option.isSome_some, eMut, gAppend, gInsert, eRev, eIndex, eLenSet, gInt, gLen, gTuple, gList, gAbs, gMax2, gMin2, gDivmod, gEq_int, runFn, sSeq, sIf, sSet, sSetIx, sRet, sRetN, sNil, sDrop, sAsg, sFor, sPar, sNever, setO, retO, setOs, presc, eVar, eK, eTwo, v2, eFn, eDisp, eTup, eLst, eCall, eCallR, eCallK, pick, toSl, toSls, sIdx, wb, bk, esc, escs, vals, aNil, aCons, tb, Ev.tNot, Ev.tAnd, Ev.tOr, gGt, gLt, gGe, gLe, gSub, gMod, gDiv, gPow, gAdd, gMul, gInt, mulOk, g1, g2, fInt, fLen, fTuple, fList, fAbs, eAnd, eOr, eNot, eIf, eNeg, eIsi, gII, gIx, gIsN, gN, gT, gsNil, gsCons, isLent_eq, lentO, lentS_v, lentS_un, lentS_f, lentS_t, lentS_z, finE, okArg, Out.bind, Od.val, slVal, Bx.tr, Bx.t, isN, L2.ixN, L2.atI, isInt, isBool, isTuple, isList, isStr, isDict, isTL, Nat.zero_le, id_eq, eq_self, Pu.c0, Pu.c1, Pu.c2, Pu.c3, Pu.c4, Pu.c5, Pu.c6, Pu.c7, Pu.c8, Pu.c9, Pu.s1, Pu.s2, Pu.s3, Pu.s4, Pu.s5, Pu.s6, Pu.s7, Pu.s8, Pu.s9, Int.reduceEq, Nat.reduceMul, Int.ofNat_eq_natCast, wipeE, restE, exists_eq_left', Option.some.injEq, Out.ok.injEq, Prod.mk.injEq, Option.bind_some, Option.bind_none, Option.bind_eq_bind, List.getElem?_cons_zero, List.getElem?_cons_succ, List.getElem?_nil, List.set_cons_zero, List.set_cons_succ, List.set_nil, List.length_cons, List.length_nil, List.replicate_succ, List.replicate_zero, List.cons_append, List.nil_append, List.append_nil, List.all_cons, List.all_nil, Bool.and_true, Bool.true_and, Bool.and_false, Bool.false_and, if_true, if_false, ite_true, ite_false, List.nodup_cons, List.nodup_nil, List.not_mem_nil, List.mem_cons, not_false_eq_true, and_true, true_and, reduceIte, Nat.reduceAdd, Nat.reduceSub, Nat.reduceEqDiff, Nat.reduceLT, Nat.reduceLeDiff, Option.map_some, Option.map_none, Option.getD_some, reduceCtorEq, or_self, or_false, false_or, not_true_eq_false, decide_true, decide_false, Bool.not_true, Bool.not_false, Bool.false_eq_true, Nat.zero_add, Nat.add_zero, forall_const, Int.reduceLT, Int.reduceLE, Int.reduceNeg, Int.reduceToNat, Int.toNat_natCast, and_self, isBk, h]
    | [bt, kt] =>
      cases bt with
      | int b =>
        cases h2 : (decide (2 = b) || decide (3 = b)) with
        | false => cases kt <;> simp only [m_is_book, b_is_book, is_whole_ok, isW, gIn2, eMLenE, eRep, eDLen, eNNew, eNLen, eListRng, gMax1, gSum, eMIn, eMInE, sMPut, eMNew, eMDict1, eMLen, eListZip, Option.isSome_none, Option.isSome_some, eMut, gAppend, gInsert, eRev, eIndex, eLenSet, gInt, gLen, gTuple, gList, gAbs, gMax2, gMin2, gDivmod, gEq_int, runFn, sSeq, sIf, sSet, sSetIx, sRet, sRetN, sNil, sDrop, sAsg, sFor, sPar, sNever, setO, retO, setOs, presc, eVar, eK, eTwo, v2, eFn, eDisp, eTup, eLst, eCall, eCallR, eCallK, pick, toSl, toSls, sIdx, wb, bk, esc, escs, vals, aNil, aCons, tb, Ev.tNot, Ev.tAnd, Ev.tOr, gGt, gLt, gGe, gLe, gSub, gMod, gDiv, gPow, gAdd, gMul, gInt, mulOk, g1, g2, fInt, fLen, fTuple, fList, fAbs, eAnd, eOr, eNot, eIf, eNeg, eIsi, gII, gIx, gIsN, gN, gT, gsNil, gsCons, isLent_eq, lentO, lentS_v, lentS_un, lentS_f, lentS_t, lentS_z, finE, okArg, Out.bind, Od.val, slVal, Bx.tr, Bx.t, isN, L2.ixN, L2.atI, isInt, isBool, isTuple, isList, isStr, isDict, isTL, Nat.zero_le, id_eq, eq_self, Pu.c0, Pu.c1, Pu.c2, Pu.c3, Pu.c4, Pu.c5, Pu.c6, Pu.c7, Pu.c8, Pu.c9, Pu.s1, Pu.s2, Pu.s3, Pu.s4, Pu.s5, Pu.s6, Pu.s7, Pu.s8, Pu.s9, Int.reduceEq, Nat.reduceMul, Int.ofNat_eq_natCast, wipeE, restE, exists_eq_left', Option.some.injEq, Out.ok.injEq, Prod.mk.injEq, Option.bind_some, Option.bind_none, Option.bind_eq_bind, List.getElem?_cons_zero, List.getElem?_cons_succ, List.getElem?_nil, List.set_cons_zero, List.set_cons_succ, List.set_nil, List.length_cons, List.length_nil, List.replicate_succ, List.replicate_zero, List.cons_append, List.nil_append, List.append_nil, List.all_cons, List.all_nil, Bool.and_true, Bool.true_and, Bool.and_false, Bool.false_and, if_true, if_false, ite_true, ite_false, List.nodup_cons, List.nodup_nil, List.not_mem_nil, List.mem_cons, not_false_eq_true, and_true, true_and, reduceIte, Nat.reduceAdd, Nat.reduceSub, Nat.reduceEqDiff, Nat.reduceLT, Nat.reduceLeDiff, Option.map_some, Option.map_none, Option.getD_some, reduceCtorEq, or_self, or_false, false_or, not_true_eq_false, decide_true, decide_false, Bool.not_true, Bool.not_false, Bool.false_eq_true, Nat.zero_add, Nat.add_zero, forall_const, Int.reduceLT, Int.reduceLE, Int.reduceNeg, Int.reduceToNat, Int.toNat_natCast, and_self, isBk, h2]
        | true =>
          have hb : b = 2 ∨ b = 3 := by
            rw [Bool.or_eq_true] at h2
            rcases h2 with h | h
            · exact .inl (of_decide_eq_true h).symm
            · exact .inr (of_decide_eq_true h).symm
          cases kt with
          | tuple ks =>
            cases ks with
            | nil => simp only [m_is_book, b_is_book, is_whole_ok, isW, gIn2, eMLenE, eRep, eDLen, eNNew, eNLen, eListRng, gMax1, gSum, eMIn, eMInE, sMPut, eMNew, eMDict1, eMLen, eListZip, Option.isSome_none, Option.isSome_some, eMut, gAppend, gInsert, eRev, eIndex, eLenSet, gInt, gLen, gTuple, gList, gAbs, gMax2, gMin2, gDivmod, gEq_int, runFn, sSeq, sIf, sSet, sSetIx, sRet, sRetN, sNil, sDrop, sAsg, sFor, sPar, sNever, setO, retO, setOs, presc, eVar, eK, eTwo, v2, eFn, eDisp, eTup, eLst, eCall, eCallR, eCallK, pick, toSl, toSls, sIdx, wb, bk, esc, escs, vals, aNil, aCons, tb, Ev.tNot, Ev.tAnd, Ev.tOr, gGt, gLt, gGe, gLe, gSub, gMod, gDiv, gPow, gAdd, gMul, gInt, mulOk, g1, g2, fInt, fLen, fTuple, fList, fAbs, eAnd, eOr, eNot, eIf, eNeg, eIsi, gII, gIx, gIsN, gN, gT, gsNil, gsCons, isLent_eq, lentO, lentS_v, lentS_un, lentS_f, lentS_t, lentS_z, finE, okArg, Out.bind, Od.val, slVal, Bx.tr, Bx.t, isN, L2.ixN, L2.atI, isInt, isBool, isTuple, isList, isStr, isDict, isTL, Nat.zero_le, id_eq, eq_self, Pu.c0, Pu.c1, Pu.c2, Pu.c3, Pu.c4, Pu.c5, Pu.c6, Pu.c7, Pu.c8, Pu.c9, Pu.s1, Pu.s2, Pu.s3, Pu.s4, Pu.s5, Pu.s6, Pu.s7, Pu.s8, Pu.s9, Int.reduceEq, Nat.reduceMul, Int.ofNat_eq_natCast, wipeE, restE, exists_eq_left', Option.some.injEq, Out.ok.injEq, Prod.mk.injEq, Option.bind_some, Option.bind_none, Option.bind_eq_bind, List.getElem?_cons_zero, List.getElem?_cons_succ, List.getElem?_nil, List.set_cons_zero, List.set_cons_succ, List.set_nil, List.length_cons, List.length_nil, List.replicate_succ, List.replicate_zero, List.cons_append, List.nil_append, List.append_nil, List.all_cons, List.all_nil, Bool.and_true, Bool.true_and, Bool.and_false, Bool.false_and, if_true, if_false, ite_true, ite_false, List.nodup_cons, List.nodup_nil, List.not_mem_nil, List.mem_cons, not_false_eq_true, and_true, true_and, reduceIte, Nat.reduceAdd, Nat.reduceSub, Nat.reduceEqDiff, Nat.reduceLT, Nat.reduceLeDiff, Option.map_some, Option.map_none, Option.getD_some, reduceCtorEq, or_self, or_false, false_or, not_true_eq_false, decide_true, decide_false, Bool.not_true, Bool.not_false, Bool.false_eq_true, Nat.zero_add, Nat.add_zero, forall_const, Int.reduceLT, Int.reduceLE, Int.reduceNeg, Int.reduceToNat, Int.toNat_natCast, and_self, isBk, h2]
            | cons k ks =>
              have hl : (k :: ks).length ≤ sizeLine := of_decide_eq_true hf
              have h3 := book_x (.tuple [.int b, .tuple (k :: ks)]) b hb (k :: ks) hl
              have h4 : decide (((ks.length + 1 : Nat) : Int) = 0) = false := by simp; omega
              have h5 : 0 < ks.length + 1 := by omega
              simp only [m_is_book, b_is_book, is_whole_ok, isW, gIn2, eMLenE, eRep, eDLen, eNNew, eNLen, eListRng, gMax1, gSum, eMIn, eMInE, sMPut, eMNew, eMDict1, eMLen, eListZip, Option.isSome_none, Option.isSome_some, eMut, gAppend, gInsert, eRev, eIndex, eLenSet, gInt, gLen, gTuple, gList, gAbs, gMax2, gMin2, gDivmod, gEq_int, runFn, sSeq, sIf, sSet, sSetIx, sRet, sRetN, sNil, sDrop, sAsg, sFor, sPar, sNever, setO, retO, setOs, presc, eVar, eK, eTwo, v2, eFn, eDisp, eTup, eLst, eCall, eCallR, eCallK, pick, toSl, toSls, sIdx, wb, bk, esc, escs, vals, aNil, aCons, tb, Ev.tNot, Ev.tAnd, Ev.tOr, gGt, gLt, gGe, gLe, gSub, gMod, gDiv, gPow, gAdd, gMul, gInt, mulOk, g1, g2, fInt, fLen, fTuple, fList, fAbs, eAnd, eOr, eNot, eIf, eNeg, eIsi, gII, gIx, gIsN, gN, gT, gsNil, gsCons, isLent_eq, lentO, lentS_v, lentS_un, lentS_f, lentS_t, lentS_z, finE, okArg, Out.bind, Od.val, slVal, Bx.tr, Bx.t, isN, L2.ixN, L2.atI, isInt, isBool, isTuple, isList, isStr, isDict, isTL, Nat.zero_le, id_eq, eq_self, Pu.c0, Pu.c1, Pu.c2, Pu.c3, Pu.c4, Pu.c5, Pu.c6, Pu.c7, Pu.c8, Pu.c9, Pu.s1, Pu.s2, Pu.s3, Pu.s4, Pu.s5, Pu.s6, Pu.s7, Pu.s8, Pu.s9, Int.reduceEq, Nat.reduceMul, Int.ofNat_eq_natCast, wipeE, restE, exists_eq_left', Option.some.injEq, Out.ok.injEq, Prod.mk.injEq, Option.bind_some, Option.bind_none, Option.bind_eq_bind, List.getElem?_cons_zero, List.getElem?_cons_succ, List.getElem?_nil, List.set_cons_zero, List.set_cons_succ, List.set_nil, List.length_cons, List.length_nil, List.replicate_succ, List.replicate_zero, List.cons_append, List.nil_append, List.append_nil, List.all_cons, List.all_nil, Bool.and_true, Bool.true_and, Bool.and_false, Bool.false_and, if_true, if_false, ite_true, ite_false, List.nodup_cons, List.nodup_nil, List.not_mem_nil, List.mem_cons, not_false_eq_true, and_true, true_and, reduceIte, Nat.reduceAdd, Nat.reduceSub, Nat.reduceEqDiff, Nat.reduceLT, Nat.reduceLeDiff, Option.map_some, Option.map_none, Option.getD_some, reduceCtorEq, or_self, or_false, false_or, not_true_eq_false, decide_true, decide_false, Bool.not_true, Bool.not_false, Bool.false_eq_true, Nat.zero_add, Nat.add_zero, forall_const, Int.reduceLT, Int.reduceLE, Int.reduceNeg, Int.reduceToNat, Int.toNat_natCast, and_self, isBk, h2, h3, gAll_bools, h4, h5]
          | _ => simp only [m_is_book, b_is_book, is_whole_ok, isW, gIn2, eMLenE, eRep, eDLen, eNNew, eNLen, eListRng, gMax1, gSum, eMIn, eMInE, sMPut, eMNew, eMDict1, eMLen, eListZip, Option.isSome_none, Option.isSome_some, eMut, gAppend, gInsert, eRev, eIndex, eLenSet, gInt, gLen, gTuple, gList, gAbs, gMax2, gMin2, gDivmod, gEq_int, runFn, sSeq, sIf, sSet, sSetIx, sRet, sRetN, sNil, sDrop, sAsg, sFor, sPar, sNever, setO, retO, setOs, presc, eVar, eK, eTwo, v2, eFn, eDisp, eTup, eLst, eCall, eCallR, eCallK, pick, toSl, toSls, sIdx, wb, bk, esc, escs, vals, aNil, aCons, tb, Ev.tNot, Ev.tAnd, Ev.tOr, gGt, gLt, gGe, gLe, gSub, gMod, gDiv, gPow, gAdd, gMul, gInt, mulOk, g1, g2, fInt, fLen, fTuple, fList, fAbs, eAnd, eOr, eNot, eIf, eNeg, eIsi, gII, gIx, gIsN, gN, gT, gsNil, gsCons, isLent_eq, lentO, lentS_v, lentS_un, lentS_f, lentS_t, lentS_z, finE, okArg, Out.bind, Od.val, slVal, Bx.tr, Bx.t, isN, L2.ixN, L2.atI, isInt, isBool, isTuple, isList, isStr, isDict, isTL, Nat.zero_le, id_eq, eq_self, Pu.c0, Pu.c1, Pu.c2, Pu.c3, Pu.c4, Pu.c5, Pu.c6, Pu.c7, Pu.c8, Pu.c9, Pu.s1, Pu.s2, Pu.s3, Pu.s4, Pu.s5, Pu.s6, Pu.s7, Pu.s8, Pu.s9, Int.reduceEq, Nat.reduceMul, Int.ofNat_eq_natCast, wipeE, restE, exists_eq_left', Option.some.injEq, Out.ok.injEq, Prod.mk.injEq, Option.bind_some, Option.bind_none, Option.bind_eq_bind, List.getElem?_cons_zero, List.getElem?_cons_succ, List.getElem?_nil, List.set_cons_zero, List.set_cons_succ, List.set_nil, List.length_cons, List.length_nil, List.replicate_succ, List.replicate_zero, List.cons_append, List.nil_append, List.append_nil, List.all_cons, List.all_nil, Bool.and_true, Bool.true_and, Bool.and_false, Bool.false_and, if_true, if_false, ite_true, ite_false, List.nodup_cons, List.nodup_nil, List.not_mem_nil, List.mem_cons, not_false_eq_true, and_true, true_and, reduceIte, Nat.reduceAdd, Nat.reduceSub, Nat.reduceEqDiff, Nat.reduceLT, Nat.reduceLeDiff, Option.map_some, Option.map_none, Option.getD_some, reduceCtorEq, or_self, or_false, false_or, not_true_eq_false, decide_true, decide_false, Bool.not_true, Bool.not_false, Bool.false_eq_true, Nat.zero_add, Nat.add_zero, forall_const, Int.reduceLT, Int.reduceLE, Int.reduceNeg, Int.reduceToNat, Int.toNat_natCast, and_self, isBk, h2]
      | _ => cases kt <;> simp only [m_is_book, b_is_book, is_whole_ok, isW, gIn2, eMLenE, eRep, eDLen, eNNew, eNLen, eListRng, gMax1, gSum, eMIn, eMInE, sMPut, eMNew, eMDict1, eMLen, eListZip, Option.isSome_none, Option.isSome_some, eMut, gAppend, gInsert, eRev, eIndex, eLenSet, gInt, gLen, gTuple, gList, gAbs, gMax2, gMin2, gDivmod, gEq_int, runFn, sSeq, sIf, sSet, sSetIx, sRet, sRetN, sNil, sDrop, sAsg, sFor, sPar, sNever, setO, retO, setOs, presc, eVar, eK, eTwo, v2, eFn, eDisp, eTup, eLst, eCall, eCallR, eCallK, pick, toSl, toSls, sIdx, wb, bk, esc, escs, vals, aNil, aCons, tb, Ev.tNot, Ev.tAnd, Ev.tOr, gGt, gLt, gGe, gLe, gSub, gMod, gDiv, gPow, gAdd, gMul, gInt, mulOk, g1, g2, fInt, fLen, fTuple, fList, fAbs, eAnd, eOr, eNot, eIf, eNeg, eIsi, gII, gIx, gIsN, gN, gT, gsNil, gsCons, isLent_eq, lentO, lentS_v, lentS_un, lentS_f, lentS_t, lentS_z, finE, okArg, Out.bind, Od.val, slVal, Bx.tr, Bx.t, isN, L2.ixN, L2.atI, isInt, isBool, isTuple, isList, isStr, isDict, isTL, Nat.zero_le, id_eq, eq_self, Pu.c0, Pu.c1, Pu.c2, Pu.c3, Pu.c4, Pu.c5, Pu.c6, Pu.c7, Pu.c8, Pu.c9, Pu.s1, Pu.s2, Pu.s3, Pu.s4, Pu.s5, Pu.s6, Pu.s7, Pu.s8, Pu.s9, Int.reduceEq, Nat.reduceMul, Int.ofNat_eq_natCast, wipeE, restE, exists_eq_left', Option.some.injEq, Out.ok.injEq, Prod.mk.injEq, Option.bind_some, Option.bind_none, Option.bind_eq_bind, List.getElem?_cons_zero, List.getElem?_cons_succ, List.getElem?_nil, List.set_cons_zero, List.set_cons_succ, List.set_nil, List.length_cons, List.length_nil, List.replicate_succ, List.replicate_zero, List.cons_append, List.nil_append, List.append_nil, List.all_cons, List.all_nil, Bool.and_true, Bool.true_and, Bool.and_false, Bool.false_and, if_true, if_false, ite_true, ite_false, List.nodup_cons, List.nodup_nil, List.not_mem_nil, List.mem_cons, not_false_eq_true, and_true, true_and, reduceIte, Nat.reduceAdd, Nat.reduceSub, Nat.reduceEqDiff, Nat.reduceLT, Nat.reduceLeDiff, Option.map_some, Option.map_none, Option.getD_some, reduceCtorEq, or_self, or_false, false_or, not_true_eq_false, decide_true, decide_false, Bool.not_true, Bool.not_false, Bool.false_eq_true, Nat.zero_add, Nat.add_zero, forall_const, Int.reduceLT, Int.reduceLE, Int.reduceNeg, Int.reduceToNat, Int.toNat_natCast, and_self, isBk]
  | _ => rfl
/-- a cell in a posture -/
def pz1 (w : Int) (c : Int × Int) : Int × Int := (w - 1 - c.2, c.1)
def pz (w : Int) (way mir : Nat) (c : Int × Int) : Int × Int :=
  let d := (match way with | 0 => c | 1 => pz1 w c | 2 => pz1 w (pz1 w c) | _ => pz1 w (pz1 w (pz1 w c)))
  match mir with | 0 => d | _ => (d.2, d.1)
def cT (c : Int × Int) : T := .tuple [.int c.1, .int c.2]
theorem log2_small {i : Int} {k : Nat} (h : i.natAbs < 2 ^ k) (hk : 0 < k) : i.natAbs.log2 < k := by
  rcases Nat.eq_zero_or_pos i.natAbs with z | z
  · rw [z]; exact hk
  · exact (Nat.log2_lt (by omega)).mpr h
theorem pow_small {b : Int} (h0 : 0 ≤ b) (h1 : b ≤ 16) (k : Nat) (hk : k ≤ 200) : (b ^ k).natAbs.log2 < 801 := by
  refine log2_small ?_ (by omega)
  rw [Int.natAbs_pow]
  have : b.natAbs ^ k ≤ 16 ^ k := Nat.pow_le_pow_left (by omega) k
  have h2 : (16 : Nat) ^ k = 2 ^ (4 * k) := by rw [Nat.pow_mul]
  have h3 : 2 ^ (4 * k) < 2 ^ 801 := Nat.pow_lt_pow_right (by decide) (by omega)
  rw [h2] at this
  exact Nat.lt_of_le_of_lt this h3
def ptT (p : Pt) : T := .tuple [.int p.1, .int p.2.1, .int (p.2.2 : Int)]
def kT (ps : List Pt) : T := .tuple (ps.map ptT)
def bkT (B : Nat) (ks : List (List Pt)) : T := .tuple [.int (B : Int), .tuple (ks.map kT)]
abbrev nT (n : Nat) : T := .int (n : Int)
theorem get_ks {ks : List (List Pt)} {k : Nat} {ps : List Pt} (h : ks[k]? = some ps) : gIx (.tuple (ks.map kT)) (.int (k : Int)) = some (.r (kT ps)) := by
  have hk : k < ks.length := (List.getElem?_eq_some_iff.mp h).1
  obtain ⟨_, e⟩ := List.getElem?_eq_some_iff.mp h
  simp [gIx, L2.atI, L2.ixN, hk, List.getElem?_map, e]
theorem get_ps {ps : List Pt} {k : Nat} {p : Pt} (h : ps[k]? = some p) : gIx (kT ps) (.int (k : Int)) = some (.r (ptT p)) := by
  have hk : k < ps.length := (List.getElem?_eq_some_iff.mp h).1
  obtain ⟨_, e⟩ := List.getElem?_eq_some_iff.mp h
  simp [kT, gIx, L2.atI, L2.ixN, hk, List.getElem?_map, e]
theorem int_small {i : Int} {k : Nat} (h0 : 0 ≤ i) (h : i < 2 ^ k) (hk : 0 < k) : i.natAbs.log2 < k := by
  refine log2_small ?_ hk
  have e : (i.natAbs : Int) = i := Int.natAbs_of_nonneg h0
  have : (i.natAbs : Int) < ((2 ^ k : Nat) : Int) := by rw [e]; push_cast; exact h
  exact_mod_cast this
theorem run_bound {B : Nat} {ks : List (List Pt)} (g : Good B ks) : ∀ (ds : List Nat) (s : S3) (m : Nat), s.1 < ks.length → (∀ x ∈ ds, x < B * B) → 0 ≤ s.2.1 → s.2.1 < (B : Int) ^ m → 0 ≤ s.2.2 → s.2.2 < (B : Int) ^ m →
    (0 ≤ (run B ks s ds).2.1 ∧ (run B ks s ds).2.1 < (B : Int) ^ (m + ds.length)) ∧ (0 ≤ (run B ks s ds).2.2 ∧ (run B ks s ds).2.2 < (B : Int) ^ (m + ds.length))
  | [], s, m, _, _, a, b, c, d => ⟨⟨a, b⟩, c, d⟩
  | j :: ds, s, m, h, hd, a, b, c, d => by
    obtain ⟨⟨p1, p2⟩, ⟨p3, p4⟩, p5⟩ := g.prng h (hd j List.mem_cons_self)
    have st : ∀ x p : Int, 0 ≤ x → x < (B : Int) ^ m → 0 ≤ p → p < (B : Int) → 0 ≤ x * B + p ∧ x * B + p < (B : Int) ^ (m + 1) := by
      intro x p h1 h2 h3 h4
      have hB : (0 : Int) ≤ B := by omega
      refine ⟨Int.add_nonneg (Int.mul_nonneg h1 hB) h3, ?_⟩
      rw [Int.pow_succ]
      have h5 : (x + 1) * (B : Int) ≤ (B : Int) ^ m * B := Int.mul_le_mul_of_nonneg_right (by omega) hB
      rw [Int.add_mul, Int.one_mul] at h5
      omega
    have := run_bound g ds (stp B ks s j) (m + 1) p5 (fun x hx => hd x (List.mem_cons_of_mem _ hx)) (st _ _ a b p1 p2).1 (st _ _ a b p1 p2).2 (st _ _ c d p3 p4).1 (st _ _ c d p3 p4).2
    rw [run_cons, List.length_cons, show m + (ds.length + 1) = m + 1 + ds.length by omega]
    exact this
theorem pow_lt_two {B : Nat} (h : B = 2 ∨ B = 3) (n : Nat) : (B : Int) ^ n ≤ 2 ^ (2 * n) := by
  have h1 : B ^ n ≤ 2 ^ (2 * n) := by
    rw [Nat.pow_mul]
    exact Nat.pow_le_pow_left (by rcases h with h | h <;> omega) n
  exact_mod_cast h1
/-- the places so far are small -/
theorem run_small {B : Nat} {ks : List (List Pt)} (g : Good B ks) (ds : List Nat) (k : Nat) (hk : k < ks.length) (hd : ∀ x ∈ ds, x < B * B) (hl : ds.length ≤ 300) :
    (run B ks (k, 0, 0) ds).2.1.natAbs.log2 + (B : Int).natAbs.log2 < 1000000 ∧ (run B ks (k, 0, 0) ds).2.2.natAbs.log2 + (B : Int).natAbs.log2 < 1000000 := by
  have hb := run_bound g ds (k, 0, 0) 0 hk hd (Int.le_refl _) (by show (0 : Int) < (B : Int) ^ 0; rw [Int.pow_zero]; decide) (Int.le_refl _) (by show (0 : Int) < (B : Int) ^ 0; rw [Int.pow_zero]; decide)
  have h2 : (B : Int).natAbs.log2 < 10 := log2_small (by rcases g.hb with h | h <;> omega) (by decide)
  have h3 : (B : Int) ^ (0 + ds.length) ≤ 2 ^ 601 := Int.le_trans (pow_lt_two g.hb _) (by have h4 : (2 : Nat) ^ (2 * (0 + ds.length)) ≤ 2 ^ 601 := Nat.pow_le_pow_right (by decide) (by omega); exact_mod_cast h4)
  have a1 := int_small (k := 601) hb.1.1 (Int.lt_of_lt_of_le hb.1.2 h3) (by omega)
  have a2 := int_small (k := 601) hb.2.1 (Int.lt_of_lt_of_le hb.2.2 h3) (by omega)
  omega
theorem dd_nodup {α : Type} [DecidableEq α] : ∀ {xs : List α}, xs.Nodup → dd xs = xs
  | [], _ => rfl
  | x :: xs, h => by rw [dd, if_neg (List.nodup_cons.mp h).1, dd_nodup (List.nodup_cons.mp h).2]
theorem good_kd {B : Nat} {ks : List (List Pt)} (g : Good B ks) {ps : List Pt} (h : ps ∈ ks) : isKd (B : Int) (ks.length : Int) (kT ps) = true := by
  have h1 := g.len ps h
  have h2 := g.nod ps h
  have h3 := g.rng ps h
  have e1 : ((ps.map ptT).map i3) = (ps.map fun p => (p.1, p.2.1)).map fun c => [c.1, c.2] := by
    rw [List.map_map, List.map_map]; rfl
  have e2 : ((ps.map ptT).map i3).Nodup := by
    rw [e1]
    refine List.Pairwise.map _ (fun a b hab z => hab ?_) h2
    have z1 : a.1 = b.1 := by injection z
    have z2 : a.2 = b.2 := by injection z with _ z; injection z
    exact Prod.ext z1 z2
  show (decide (((ps.map ptT).length : Int) = (B : Int) * (B : Int)) && (((ps.map ptT).map (isP (B : Int) (ks.length : Int))).all id && decide (((dd ((ps.map ptT).map i3)).length : Int) = (B : Int) * (B : Int)))) = true
  simp only [dd_nodup e2, List.length_map, h1, Int.natCast_mul, decide_true, Bool.true_and, Bool.and_true, List.all_eq_true]
  intro b hb
  rw [List.map_map] at hb
  obtain ⟨p, hp, rfl⟩ := List.mem_map.mp hb
  obtain ⟨⟨q1, q2⟩, ⟨q3, q4⟩, q5⟩ := h3 p hp
  show (isI (B : Int) (.int p.1) && (isI (B : Int) (.int p.2.1) && isI (ks.length : Int) (.int (p.2.2 : Int)))) = true
  simp only [isI, Bool.and_eq_true, decide_eq_true_eq]
  omega
theorem good_bk {B : Nat} {ks : List (List Pt)} (g : Good B ks) : isBk (bkT B ks) = true := by
  show ((decide ((2 : Int) = (B : Int)) || decide ((3 : Int) = (B : Int))) && (decide (0 < (ks.map kT).length) && ((ks.map kT).map (isKd (B : Int) ((ks.map kT).length : Int))).all id)) = true
  rw [List.length_map]
  have h1 : (decide ((2 : Int) = (B : Int)) || decide ((3 : Int) = (B : Int))) = true := by
    rcases g.hb with h | h <;> subst h <;> rfl
  rw [h1, decide_eq_true g.pos, Bool.true_and, Bool.true_and, List.all_eq_true]
  intro b hb
  rw [List.map_map] at hb
  obtain ⟨ps, hp, rfl⟩ := List.mem_map.mp hb
  exact good_kd g hp
theorem good_few {B : Nat} {ks : List (List Pt)} (g : Good B ks) : fewK (bkT B ks) = true := by
  show decide ((ks.map kT).length ≤ sizeLine) = true
  have := g.few
  rw [List.length_map]
  refine decide_eq_true ?_
  unfold sizeLine; omega
structure PlOk (B : Nat) (ps : List (Int × Int)) : Prop where
  len : ps.length = B * B
  nod : ps.Nodup
  rng : ∀ c ∈ ps, (0 ≤ c.1 ∧ c.1 < (B : Int)) ∧ (0 ≤ c.2 ∧ c.2 < (B : Int))
theorem PlOk.perm {B : Nat} {ps qs : List (Int × Int)} (h : PlOk B ps) (p : qs.Perm ps) : PlOk B qs :=
  ⟨p.length_eq.trans h.len, p.nodup_iff.mpr h.nod, fun c hc => h.rng c (p.mem_iff.mp hc)⟩
inductive Pl : Nat → T → Prop
  | int (n : Nat) (i : Int) : Pl n (.int i)
  | tup {n : Nat} {xs : List T} : (∀ x ∈ xs, Pl n x) → xs.length ≤ 100000 → Pl (n + 1) (.tuple xs)
  | lst {n : Nat} {xs : List T} : (∀ x ∈ xs, Pl n x) → xs.length ≤ 100000 → Pl (n + 1) (.list xs)
theorem layAll {xs : List T} (h : ∀ x ∈ xs, PyData.canLay0 x = true) : PyData.canLayAll0 xs = true := by
  induction xs with
  | nil => rfl
  | cons x xs ih => rw [PyData.canLayAll0, h x List.mem_cons_self, ih fun y hy => h y (List.mem_cons_of_mem _ hy)]; rfl
theorem depAll {n : Nat} {xs : List T} (h : ∀ x ∈ xs, PyData.depth x ≤ n) : PyData.depthAll xs ≤ n := by
  induction xs with
  | nil => exact Nat.zero_le _
  | cons x xs ih => rw [PyData.depthAll]; exact Nat.max_le.mpr ⟨h x List.mem_cons_self, ih fun y hy => h y (List.mem_cons_of_mem _ hy)⟩
theorem Pl.lay {n : Nat} {t : T} (h : Pl n t) : PyData.canLay0 t = true ∧ PyData.depth t ≤ n := by
  induction h with
  | int n i => exact ⟨rfl, Nat.zero_le _⟩
  | tup h hl ih => exact ⟨by rw [PyData.canLay0]; exact layAll fun x hx => (ih x hx).1, by rw [PyData.depth]; exact Nat.succ_le_succ (depAll fun x hx => (ih x hx).2)⟩
  | lst h hl ih => exact ⟨by rw [PyData.canLay0]; exact layAll fun x hx => (ih x hx).1, by rw [PyData.depth]; exact Nat.succ_le_succ (depAll fun x hx => (ih x hx).2)⟩
theorem Pl.shaped {n : Nat} {t : T} (h : Pl n t) (hn : n ≤ 64) : SeqAt.shaped t = true := by
  unfold SeqAt.shaped
  rw [h.lay.1, Bool.true_and]
  exact decide_eq_true (Nat.le_trans h.lay.2 hn)
theorem ix_list (xs : List T) (k : Nat) (x : T) (h : xs[k]? = some x) : gIx (.list xs) (.int (k : Int)) = some (.r x) := by
  obtain ⟨hk, e⟩ := List.getElem?_eq_some_iff.mp h
  simp [gIx, L2.atI, L2.ixN, hk, e]
theorem ix_tup (xs : List T) (k : Nat) (x : T) (h : xs[k]? = some x) : gIx (.tuple xs) (.int (k : Int)) = some (.r x) := by
  obtain ⟨hk, e⟩ := List.getElem?_eq_some_iff.mp h
  simp [gIx, L2.atI, L2.ixN, hk, e]
structure RowOk (B n : Nat) (ps : List Pt) : Prop where
  len : ps.length = B * B
  rng : ∀ p ∈ ps, (0 ≤ p.1 ∧ p.1 < (B : Int)) ∧ (0 ≤ p.2.1 ∧ p.2.1 < (B : Int)) ∧ p.2.2 < n
  nod : (ps.map fun p => (p.1, p.2.1)).Nodup
theorem row_of {B n : Nat} {cs : List (Int × Int)} {ps : List Pt} (h : PlOk B cs) (e : (ps.map fun p => (p.1, p.2.1)) = cs) (hn : ∀ p ∈ ps, p.2.2 < n) : RowOk B n ps := by
  refine ⟨?_, fun p hp => ?_, by rw [e]; exact h.nod⟩
  · rw [← h.len, ← e, List.length_map]
  · have := h.rng (p.1, p.2.1) (by rw [← e]; exact List.mem_map_of_mem (f := fun p : Pt => (p.1, p.2.1)) hp)
    exact ⟨this.1, this.2, hn p hp⟩
theorem good_of {B : Nat} {ks : List (List Pt)} (hb : B = 2 ∨ B = 3) (h0 : 0 < ks.length) (h1 : ks.length ≤ 20) (h : ∀ ps ∈ ks, RowOk B ks.length ps) : Good B ks :=
  ⟨hb, h0, h1, fun ps hp => (h ps hp).len, fun ps hp => (h ps hp).rng, fun ps hp => (h ps hp).nod⟩
theorem pz_rng {w : Int} {way mir : Nat} {c : Int × Int} (hc : (0 ≤ c.1 ∧ c.1 < w) ∧ (0 ≤ c.2 ∧ c.2 < w)) (h : way < 4) (h2 : mir < 2) : (0 ≤ (pz w way mir c).1 ∧ (pz w way mir c).1 < w) ∧ (0 ≤ (pz w way mir c).2 ∧ (pz w way mir c).2 < w) := by
  have hw : way = 0 ∨ way = 1 ∨ way = 2 ∨ way = 3 := by omega
  have hm : mir = 0 ∨ mir = 1 := by omega
  rcases hw with rfl | rfl | rfl | rfl <;> rcases hm with rfl | rfl <;> simp only [pz, pz1] <;> omega
theorem pz_inj {w : Int} {way mir : Nat} {c d : Int × Int} (h : way < 4) (h2 : mir < 2) (e : pz w way mir c = pz w way mir d) : c = d := by
  obtain ⟨x, y⟩ := c
  obtain ⟨u, v⟩ := d
  have hw : way = 0 ∨ way = 1 ∨ way = 2 ∨ way = 3 := by omega
  have hm : mir = 0 ∨ mir = 1 := by omega
  rcases hw with rfl | rfl | rfl | rfl <;> rcases hm with rfl | rfl <;> simp only [pz, pz1, Prod.mk.injEq] at e ⊢ <;> omega
theorem pz_pl {B : Nat} {cs : List (Int × Int)} (h : PlOk B cs) {way mir : Nat} (h1 : way < 4) (h2 : mir < 2) : PlOk B (cs.map (pz (B : Int) way mir)) :=
  ⟨by rw [List.length_map]; exact h.len, List.Pairwise.map _ (fun a b hab z => hab (pz_inj h1 h2 z)) h.nod, fun c hc => by
    obtain ⟨d, hd, rfl⟩ := List.mem_map.mp hc
    exact pz_rng (h.rng d hd) h1 h2⟩
theorem all_refl {xs : List T} (h : ∀ x ∈ xs, PyData.eqv x x = true) : PyData.eqvAll xs xs = true := by
  induction xs with
  | nil => rfl
  | cons x xs ih => rw [PyData.eqvAll, h x List.mem_cons_self, ih fun y hy => h y (List.mem_cons_of_mem _ hy)]; rfl
theorem Pl.eqv {n : Nat} {t : T} (h : Pl n t) : PyData.eqv t t = true := by
  induction h with
  | int n i => rw [PyData.eqv]; simp
  | tup h hl ih => rw [PyData.eqv]; exact all_refl ih
  | lst h hl ih => rw [PyData.eqv]; exact all_refl ih
set_option linter.all false
set_option maxRecDepth 100000
set_option maxHeartbeats 4000000
open PySem PySem.Spec Ev Pu Mt Wp
theorem pw_st (y : SemS) (tB tN t1 tz : T) (l3 : Sl) (h : y [.v tB, .v tN, .v t1, .un] = .ok .nx [.v tB, .v tN, .v tz, l3]) : runFn 4 (sSeq (sSet 2 (eK t1)) (sSeq y (sRet (eVar 2)))) [.v tB, .v tN] = .ok (.r tz) [.v tB, .v tN] := by
  simp only [h, eMLenE, eRep, eDLen, eNNew, eNLen, eListRng, gMax1, gSum, eMIn, eMInE, sMPut, eMNew, eMDict1, eMLen, eListZip, Option.isSome_none, Option.isSome_some, eMut, gAppend, gInsert, eRev, eIndex, eLenSet, gInt, gLen, gTuple, gList, gAbs, gMax2, gMin2, gDivmod, gEq_int, runFn, sSeq, sIf, sSet, sSetIx, sRet, sRetN, sNil, sDrop, sAsg, sFor, sPar, sNever, setO, retO, setOs, presc, eVar, eK, eTwo, v2, eFn, eDisp, eTup, eLst, eCall, eCallR, eCallK, pick, toSl, toSls, sIdx, wb, bk, esc, escs, vals, aNil, aCons, tb, Ev.tNot, Ev.tAnd, Ev.tOr, gGt, gLt, gGe, gLe, gSub, gMod, gDiv, gPow, gAdd, gMul, gInt, mulOk, g1, g2, fInt, fLen, fTuple, fList, fAbs, eAnd, eOr, eNot, eIf, eNeg, eIsi, gII, gIx, gIsN, gN, gT, gsNil, gsCons, isLent_eq, lentO, lentS_v, lentS_un, lentS_f, lentS_t, lentS_z, finE, okArg, Out.bind, Od.val, slVal, Bx.tr, Bx.t, isN, L2.ixN, L2.atI, isInt, isBool, isTuple, isList, isStr, isDict, isTL, Nat.zero_le, id_eq, eq_self, Pu.c0, Pu.c1, Pu.c2, Pu.c3, Pu.c4, Pu.c5, Pu.c6, Pu.c7, Pu.c8, Pu.c9, Pu.s1, Pu.s2, Pu.s3, Pu.s4, Pu.s5, Pu.s6, Pu.s7, Pu.s8, Pu.s9, Int.reduceEq, Nat.reduceMul, Int.ofNat_eq_natCast, wipeE, restE, exists_eq_left', Option.some.injEq, Out.ok.injEq, Prod.mk.injEq, Option.bind_some, Option.bind_none, Option.bind_eq_bind, List.getElem?_cons_zero, List.getElem?_cons_succ, List.getElem?_nil, List.set_cons_zero, List.set_cons_succ, List.set_nil, List.length_cons, List.length_nil, List.replicate_succ, List.replicate_zero, List.cons_append, List.nil_append, List.append_nil, List.all_cons, List.all_nil, Bool.and_true, Bool.true_and, Bool.and_false, Bool.false_and, if_true, if_false, ite_true, ite_false, List.nodup_cons, List.nodup_nil, List.not_mem_nil, List.mem_cons, not_false_eq_true, and_true, true_and, reduceIte, Nat.reduceAdd, Nat.reduceSub, Nat.reduceEqDiff, Nat.reduceLT, Nat.reduceLeDiff, Option.map_some, Option.map_none, Option.getD_some, reduceCtorEq, or_self, or_false, false_or, not_true_eq_false, decide_true, decide_false, Bool.not_true, Bool.not_false, Bool.false_eq_true, Nat.zero_add, Nat.add_zero, forall_const, Int.reduceLT, Int.reduceLE, Int.reduceNeg, Int.reduceToNat, Int.toNat_natCast, and_self]
theorem power_ok (b : Int) (n : Nat) (h0 : 0 ≤ b) (h1 : b ≤ 16) (hn : n ≤ 200) : m_power [.v (.int b), .v (.int (n : Int))] = .ok (.r (.int (b ^ n))) [.v (.int b), .v (.int (n : Int))] := by
  have hb : b.natAbs.log2 < 5 := log2_small (by omega) (by omega)
  obtain ⟨e', h, l3, a3, rfl⟩ := for_on (g := gN 3) (b := y1_power) (fun (k : Nat) => PyData.int (0 + (k : Int))) (fun don e => ∃ l3, lentS l3 = false ∧ e = [.v (.int b), .v (.int (n : Int)), .v (.int (b ^ don.length)), l3]) 200 (List.range n) [] [.v (.int b), .v (.int (n : Int)), .v (.int (b ^ 0)), .un] ⟨_, rfl, rfl⟩ (by simpa using hn) fun k _ don e hd ⟨l3, a3, he⟩ => by
    subst he
    have h2 := pow_small h0 h1 don.length (by omega)
    have h3 : (b ^ don.length).natAbs.log2 + b.natAbs.log2 < 1000000 := by omega
    rw [List.length_append, List.length_singleton, Int.pow_succ]
    generalize b ^ don.length = z at h3 ⊢
    generalize don.length = dl
    refine ⟨[.v (.int b), .v (.int (n : Int)), .v (.int z), .v (.int (0 + (k : Int)))], by simp only [a3, eMLenE, eRep, eDLen, eNNew, eNLen, eListRng, gMax1, gSum, eMIn, eMInE, sMPut, eMNew, eMDict1, eMLen, eListZip, Option.isSome_none, Option.isSome_some, eMut, gAppend, gInsert, eRev, eIndex, eLenSet, gInt, gLen, gTuple, gList, gAbs, gMax2, gMin2, gDivmod, gEq_int, runFn, sSeq, sIf, sSet, sSetIx, sRet, sRetN, sNil, sDrop, sAsg, sFor, sPar, sNever, setO, retO, setOs, presc, eVar, eK, eTwo, v2, eFn, eDisp, eTup, eLst, eCall, eCallR, eCallK, pick, toSl, toSls, sIdx, wb, bk, esc, escs, vals, aNil, aCons, tb, Ev.tNot, Ev.tAnd, Ev.tOr, gGt, gLt, gGe, gLe, gSub, gMod, gDiv, gPow, gAdd, gMul, gInt, mulOk, g1, g2, fInt, fLen, fTuple, fList, fAbs, eAnd, eOr, eNot, eIf, eNeg, eIsi, gII, gIx, gIsN, gN, gT, gsNil, gsCons, isLent_eq, lentO, lentS_v, lentS_un, lentS_f, lentS_t, lentS_z, finE, okArg, Out.bind, Od.val, slVal, Bx.tr, Bx.t, isN, L2.ixN, L2.atI, isInt, isBool, isTuple, isList, isStr, isDict, isTL, Nat.zero_le, id_eq, eq_self, Pu.c0, Pu.c1, Pu.c2, Pu.c3, Pu.c4, Pu.c5, Pu.c6, Pu.c7, Pu.c8, Pu.c9, Pu.s1, Pu.s2, Pu.s3, Pu.s4, Pu.s5, Pu.s6, Pu.s7, Pu.s8, Pu.s9, Int.reduceEq, Nat.reduceMul, Int.ofNat_eq_natCast, wipeE, restE, exists_eq_left', Option.some.injEq, Out.ok.injEq, Prod.mk.injEq, Option.bind_some, Option.bind_none, Option.bind_eq_bind, List.getElem?_cons_zero, List.getElem?_cons_succ, List.getElem?_nil, List.set_cons_zero, List.set_cons_succ, List.set_nil, List.length_cons, List.length_nil, List.replicate_succ, List.replicate_zero, List.cons_append, List.nil_append, List.append_nil, List.all_cons, List.all_nil, Bool.and_true, Bool.true_and, Bool.and_false, Bool.false_and, if_true, if_false, ite_true, ite_false, List.nodup_cons, List.nodup_nil, List.not_mem_nil, List.mem_cons, not_false_eq_true, and_true, true_and, reduceIte, Nat.reduceAdd, Nat.reduceSub, Nat.reduceEqDiff, Nat.reduceLT, Nat.reduceLeDiff, Option.map_some, Option.map_none, Option.getD_some, reduceCtorEq, or_self, or_false, false_or, not_true_eq_false, decide_true, decide_false, Bool.not_true, Bool.not_false, Bool.false_eq_true, Nat.zero_add, Nat.add_zero, forall_const, Int.reduceLT, Int.reduceLE, Int.reduceNeg, Int.reduceToNat, Int.toNat_natCast, and_self], [.v (.int b), .v (.int (n : Int)), .v (.int (z * b)), .v (.int (0 + (k : Int)))], .inl ?_, _, rfl, rfl⟩
    unfold y1_power
    simp only [h3, eMLenE, eRep, eDLen, eNNew, eNLen, eListRng, gMax1, gSum, eMIn, eMInE, sMPut, eMNew, eMDict1, eMLen, eListZip, Option.isSome_none, Option.isSome_some, eMut, gAppend, gInsert, eRev, eIndex, eLenSet, gInt, gLen, gTuple, gList, gAbs, gMax2, gMin2, gDivmod, gEq_int, runFn, sSeq, sIf, sSet, sSetIx, sRet, sRetN, sNil, sDrop, sAsg, sFor, sPar, sNever, setO, retO, setOs, presc, eVar, eK, eTwo, v2, eFn, eDisp, eTup, eLst, eCall, eCallR, eCallK, pick, toSl, toSls, sIdx, wb, bk, esc, escs, vals, aNil, aCons, tb, Ev.tNot, Ev.tAnd, Ev.tOr, gGt, gLt, gGe, gLe, gSub, gMod, gDiv, gPow, gAdd, gMul, gInt, mulOk, g1, g2, fInt, fLen, fTuple, fList, fAbs, eAnd, eOr, eNot, eIf, eNeg, eIsi, gII, gIx, gIsN, gN, gT, gsNil, gsCons, isLent_eq, lentO, lentS_v, lentS_un, lentS_f, lentS_t, lentS_z, finE, okArg, Out.bind, Od.val, slVal, Bx.tr, Bx.t, isN, L2.ixN, L2.atI, isInt, isBool, isTuple, isList, isStr, isDict, isTL, Nat.zero_le, id_eq, eq_self, Pu.c0, Pu.c1, Pu.c2, Pu.c3, Pu.c4, Pu.c5, Pu.c6, Pu.c7, Pu.c8, Pu.c9, Pu.s1, Pu.s2, Pu.s3, Pu.s4, Pu.s5, Pu.s6, Pu.s7, Pu.s8, Pu.s9, Int.reduceEq, Nat.reduceMul, Int.ofNat_eq_natCast, wipeE, restE, exists_eq_left', Option.some.injEq, Out.ok.injEq, Prod.mk.injEq, Option.bind_some, Option.bind_none, Option.bind_eq_bind, List.getElem?_cons_zero, List.getElem?_cons_succ, List.getElem?_nil, List.set_cons_zero, List.set_cons_succ, List.set_nil, List.length_cons, List.length_nil, List.replicate_succ, List.replicate_zero, List.cons_append, List.nil_append, List.append_nil, List.all_cons, List.all_nil, Bool.and_true, Bool.true_and, Bool.and_false, Bool.false_and, if_true, if_false, ite_true, ite_false, List.nodup_cons, List.nodup_nil, List.not_mem_nil, List.mem_cons, not_false_eq_true, and_true, true_and, reduceIte, Nat.reduceAdd, Nat.reduceSub, Nat.reduceEqDiff, Nat.reduceLT, Nat.reduceLeDiff, Option.map_some, Option.map_none, Option.getD_some, reduceCtorEq, or_self, or_false, false_or, not_true_eq_false, decide_true, decide_false, Bool.not_true, Bool.not_false, Bool.false_eq_true, Nat.zero_add, Nat.add_zero, forall_const, Int.reduceLT, Int.reduceLE, Int.reduceNeg, Int.reduceToNat, Int.toNat_natCast, and_self]
  rw [List.nil_append, List.length_range, Int.pow_zero] at h
  have hl : l1_power [.v (.int b), .v (.int (n : Int)), .v (.int 1), .un] = .ok .nx [.v (.int b), .v (.int (n : Int)), .v (.int (b ^ n)), l3] := by
    have hi := iR1_nat (m := aCons (eVar 1) aNil) (e := [.v (.int b), .v (.int (n : Int)), .v (.int 1), .un]) (e1 := [.v (.int b), .v (.int (n : Int)), .v (.int 1), .un]) (rs := [.r (.int (n : Int))]) (n := n) rfl rfl (by omega)
    unfold l1_power
    rw [sFor_eq hi]
    exact h
  exact pw_st l1_power _ _ _ _ _ hl
/-- the digits of a number, the last first -/
def dgl (n b : Int) (k : Nat) : List Int := (List.range k).map fun j => n / b ^ j % b
theorem dgl_succ (n b : Int) (k : Nat) : dgl n b (k + 1) = dgl n b k ++ [n / b ^ k % b] := by
  unfold dgl; rw [List.range_succ, List.map_append, List.map_cons, List.map_nil]
theorem dd_div (n b : Int) (k : Nat) (h0 : 0 < b) : n / b ^ k / b = n / (b ^ k * b) := by
  rw [Int.ediv_ediv_of_nonneg (Int.pow_nonneg (by omega))]
theorem dg_st (y : SemS) (tB tN tK tZ : T) (acc : List T) (l4 l5 : Sl) (h : y [.v tN, .v tB, .v tK, .ow false (.l []), .un, .un] = .ok .nx [.v tZ, .v tB, .v tK, .ow false (.l acc), l4, l5]) : runFn 6 (sSeq (sSet 3 (eLst aNil)) (sSeq y (sRet (eRev (eVar 3))))) [.v tN, .v tB, .v tK] = .ok (.b (.l acc.reverse)) [.v tN, .v tB, .v tK] := by
  simp only [h, eMLenE, eRep, eDLen, eNNew, eNLen, eListRng, gMax1, gSum, eMIn, eMInE, sMPut, eMNew, eMDict1, eMLen, eListZip, Option.isSome_none, Option.isSome_some, eMut, gAppend, gInsert, eRev, eIndex, eLenSet, gInt, gLen, gTuple, gList, gAbs, gMax2, gMin2, gDivmod, gEq_int, runFn, sSeq, sIf, sSet, sSetIx, sRet, sRetN, sNil, sDrop, sAsg, sFor, sPar, sNever, setO, retO, setOs, presc, eVar, eK, eTwo, v2, eFn, eDisp, eTup, eLst, eCall, eCallR, eCallK, pick, toSl, toSls, sIdx, wb, bk, esc, escs, vals, aNil, aCons, tb, Ev.tNot, Ev.tAnd, Ev.tOr, gGt, gLt, gGe, gLe, gSub, gMod, gDiv, gPow, gAdd, gMul, gInt, mulOk, g1, g2, fInt, fLen, fTuple, fList, fAbs, eAnd, eOr, eNot, eIf, eNeg, eIsi, gII, gIx, gIsN, gN, gT, gsNil, gsCons, isLent_eq, lentO, lentS_v, lentS_un, lentS_f, lentS_t, lentS_z, finE, okArg, Out.bind, Od.val, slVal, Bx.tr, Bx.t, isN, L2.ixN, L2.atI, isInt, isBool, isTuple, isList, isStr, isDict, isTL, Nat.zero_le, id_eq, eq_self, Pu.c0, Pu.c1, Pu.c2, Pu.c3, Pu.c4, Pu.c5, Pu.c6, Pu.c7, Pu.c8, Pu.c9, Pu.s1, Pu.s2, Pu.s3, Pu.s4, Pu.s5, Pu.s6, Pu.s7, Pu.s8, Pu.s9, Int.reduceEq, Nat.reduceMul, Int.ofNat_eq_natCast, wipeE, restE, exists_eq_left', Option.some.injEq, Out.ok.injEq, Prod.mk.injEq, Option.bind_some, Option.bind_none, Option.bind_eq_bind, List.getElem?_cons_zero, List.getElem?_cons_succ, List.getElem?_nil, List.set_cons_zero, List.set_cons_succ, List.set_nil, List.length_cons, List.length_nil, List.replicate_succ, List.replicate_zero, List.cons_append, List.nil_append, List.append_nil, List.all_cons, List.all_nil, Bool.and_true, Bool.true_and, Bool.and_false, Bool.false_and, if_true, if_false, ite_true, ite_false, List.nodup_cons, List.nodup_nil, List.not_mem_nil, List.mem_cons, not_false_eq_true, and_true, true_and, reduceIte, Nat.reduceAdd, Nat.reduceSub, Nat.reduceEqDiff, Nat.reduceLT, Nat.reduceLeDiff, Option.map_some, Option.map_none, Option.getD_some, reduceCtorEq, or_self, or_false, false_or, not_true_eq_false, decide_true, decide_false, Bool.not_true, Bool.not_false, Bool.false_eq_true, Nat.zero_add, Nat.add_zero, forall_const, Int.reduceLT, Int.reduceLE, Int.reduceNeg, Int.reduceToNat, Int.toNat_natCast, and_self]
theorem digits_ok (n b : Int) (k : Nat) (h0 : 0 < b) (h1 : b ≤ 16) (hk : k ≤ 200) : m_digits_of [.v (.int n), .v (.int b), .v (.int (k : Int))] = .ok (.b (.l ((dgl n b k).map .int).reverse)) [.v (.int n), .v (.int b), .v (.int (k : Int))] := by
  obtain ⟨e', h, l4, l5, ⟨a4, a5⟩, rfl⟩ := for_on (g := gN 4) (b := y1_digits_of) (fun (k : Nat) => PyData.int (0 + (k : Int))) (fun don e => ∃ l4 l5, (lentS l4 = false ∧ lentS l5 = false) ∧ e = [.v (.int (n / b ^ don.length)), .v (.int b), .v (.int (k : Int)), .ow false (.l ((dgl n b don.length).map .int)), l4, l5]) 200 (List.range k) [] [.v (.int n), .v (.int b), .v (.int (k : Int)), .ow false (.l []), .un, .un] ⟨_, _, ⟨rfl, rfl⟩, by rw [List.length_nil, Int.pow_zero, Int.ediv_one]; rfl⟩ (by simpa using hk) fun j _ don e hd ⟨l4, l5, ⟨a4, a5⟩, he⟩ => by
    subst he
    have hc : ((dgl n b don.length).map PyData.int).length < sizeLine := by simp only [dgl, List.length_map, List.length_range]; unfold sizeLine; omega
    have hq : 0 < b ∧ b < 1073741824 := by omega
    rw [List.length_append, List.length_singleton, dgl_succ, Int.pow_succ, ← dd_div n b don.length h0, List.map_append, List.map_cons, List.map_nil]
    generalize (dgl n b don.length).map PyData.int = acc at hc ⊢
    generalize n / b ^ don.length = z
    refine ⟨[.v (.int z), .v (.int b), .v (.int (k : Int)), .ow false (.l acc), .v (.int (0 + (j : Int))), l5], by simp only [a4, eMLenE, eRep, eDLen, eNNew, eNLen, eListRng, gMax1, gSum, eMIn, eMInE, sMPut, eMNew, eMDict1, eMLen, eListZip, Option.isSome_none, Option.isSome_some, eMut, gAppend, gInsert, eRev, eIndex, eLenSet, gInt, gLen, gTuple, gList, gAbs, gMax2, gMin2, gDivmod, gEq_int, runFn, sSeq, sIf, sSet, sSetIx, sRet, sRetN, sNil, sDrop, sAsg, sFor, sPar, sNever, setO, retO, setOs, presc, eVar, eK, eTwo, v2, eFn, eDisp, eTup, eLst, eCall, eCallR, eCallK, pick, toSl, toSls, sIdx, wb, bk, esc, escs, vals, aNil, aCons, tb, Ev.tNot, Ev.tAnd, Ev.tOr, gGt, gLt, gGe, gLe, gSub, gMod, gDiv, gPow, gAdd, gMul, gInt, mulOk, g1, g2, fInt, fLen, fTuple, fList, fAbs, eAnd, eOr, eNot, eIf, eNeg, eIsi, gII, gIx, gIsN, gN, gT, gsNil, gsCons, isLent_eq, lentO, lentS_v, lentS_un, lentS_f, lentS_t, lentS_z, finE, okArg, Out.bind, Od.val, slVal, Bx.tr, Bx.t, isN, L2.ixN, L2.atI, isInt, isBool, isTuple, isList, isStr, isDict, isTL, Nat.zero_le, id_eq, eq_self, Pu.c0, Pu.c1, Pu.c2, Pu.c3, Pu.c4, Pu.c5, Pu.c6, Pu.c7, Pu.c8, Pu.c9, Pu.s1, Pu.s2, Pu.s3, Pu.s4, Pu.s5, Pu.s6, Pu.s7, Pu.s8, Pu.s9, Int.reduceEq, Nat.reduceMul, Int.ofNat_eq_natCast, wipeE, restE, exists_eq_left', Option.some.injEq, Out.ok.injEq, Prod.mk.injEq, Option.bind_some, Option.bind_none, Option.bind_eq_bind, List.getElem?_cons_zero, List.getElem?_cons_succ, List.getElem?_nil, List.set_cons_zero, List.set_cons_succ, List.set_nil, List.length_cons, List.length_nil, List.replicate_succ, List.replicate_zero, List.cons_append, List.nil_append, List.append_nil, List.all_cons, List.all_nil, Bool.and_true, Bool.true_and, Bool.and_false, Bool.false_and, if_true, if_false, ite_true, ite_false, List.nodup_cons, List.nodup_nil, List.not_mem_nil, List.mem_cons, not_false_eq_true, and_true, true_and, reduceIte, Nat.reduceAdd, Nat.reduceSub, Nat.reduceEqDiff, Nat.reduceLT, Nat.reduceLeDiff, Option.map_some, Option.map_none, Option.getD_some, reduceCtorEq, or_self, or_false, false_or, not_true_eq_false, decide_true, decide_false, Bool.not_true, Bool.not_false, Bool.false_eq_true, Nat.zero_add, Nat.add_zero, forall_const, Int.reduceLT, Int.reduceLE, Int.reduceNeg, Int.reduceToNat, Int.toNat_natCast, and_self], [.v (.int (z / b)), .v (.int b), .v (.int (k : Int)), .ow false (.l (acc ++ [.int (z % b)])), .v (.int (0 + (j : Int))), .v (.int (z % b))], .inl ?_, _, _, ⟨rfl, rfl⟩, rfl⟩
    unfold y1_digits_of
    simp only [hc, hq, a5, eMLenE, eRep, eDLen, eNNew, eNLen, eListRng, gMax1, gSum, eMIn, eMInE, sMPut, eMNew, eMDict1, eMLen, eListZip, Option.isSome_none, Option.isSome_some, eMut, gAppend, gInsert, eRev, eIndex, eLenSet, gInt, gLen, gTuple, gList, gAbs, gMax2, gMin2, gDivmod, gEq_int, runFn, sSeq, sIf, sSet, sSetIx, sRet, sRetN, sNil, sDrop, sAsg, sFor, sPar, sNever, setO, retO, setOs, presc, eVar, eK, eTwo, v2, eFn, eDisp, eTup, eLst, eCall, eCallR, eCallK, pick, toSl, toSls, sIdx, wb, bk, esc, escs, vals, aNil, aCons, tb, Ev.tNot, Ev.tAnd, Ev.tOr, gGt, gLt, gGe, gLe, gSub, gMod, gDiv, gPow, gAdd, gMul, gInt, mulOk, g1, g2, fInt, fLen, fTuple, fList, fAbs, eAnd, eOr, eNot, eIf, eNeg, eIsi, gII, gIx, gIsN, gN, gT, gsNil, gsCons, isLent_eq, lentO, lentS_v, lentS_un, lentS_f, lentS_t, lentS_z, finE, okArg, Out.bind, Od.val, slVal, Bx.tr, Bx.t, isN, L2.ixN, L2.atI, isInt, isBool, isTuple, isList, isStr, isDict, isTL, Nat.zero_le, id_eq, eq_self, Pu.c0, Pu.c1, Pu.c2, Pu.c3, Pu.c4, Pu.c5, Pu.c6, Pu.c7, Pu.c8, Pu.c9, Pu.s1, Pu.s2, Pu.s3, Pu.s4, Pu.s5, Pu.s6, Pu.s7, Pu.s8, Pu.s9, Int.reduceEq, Nat.reduceMul, Int.ofNat_eq_natCast, wipeE, restE, exists_eq_left', Option.some.injEq, Out.ok.injEq, Prod.mk.injEq, Option.bind_some, Option.bind_none, Option.bind_eq_bind, List.getElem?_cons_zero, List.getElem?_cons_succ, List.getElem?_nil, List.set_cons_zero, List.set_cons_succ, List.set_nil, List.length_cons, List.length_nil, List.replicate_succ, List.replicate_zero, List.cons_append, List.nil_append, List.append_nil, List.all_cons, List.all_nil, Bool.and_true, Bool.true_and, Bool.and_false, Bool.false_and, if_true, if_false, ite_true, ite_false, List.nodup_cons, List.nodup_nil, List.not_mem_nil, List.mem_cons, not_false_eq_true, and_true, true_and, reduceIte, Nat.reduceAdd, Nat.reduceSub, Nat.reduceEqDiff, Nat.reduceLT, Nat.reduceLeDiff, Option.map_some, Option.map_none, Option.getD_some, reduceCtorEq, or_self, or_false, false_or, not_true_eq_false, decide_true, decide_false, Bool.not_true, Bool.not_false, Bool.false_eq_true, Nat.zero_add, Nat.add_zero, forall_const, Int.reduceLT, Int.reduceLE, Int.reduceNeg, Int.reduceToNat, Int.toNat_natCast, and_self]
  rw [List.nil_append, List.length_range] at h
  have hl : l1_digits_of [.v (.int n), .v (.int b), .v (.int (k : Int)), .ow false (.l []), .un, .un] = .ok .nx [.v (.int (n / b ^ k)), .v (.int b), .v (.int (k : Int)), .ow false (.l ((dgl n b k).map .int)), l4, l5] := by
    have hi := iR1_nat (m := aCons (eVar 2) aNil) (e := [.v (.int n), .v (.int b), .v (.int (k : Int)), .ow false (.l []), .un, .un]) (e1 := [.v (.int n), .v (.int b), .v (.int (k : Int)), .ow false (.l []), .un, .un]) (rs := [.r (.int (k : Int))]) (n := k) rfl rfl (by omega)
    unfold l1_digits_of
    rw [sFor_eq hi]
    exact h
  exact dg_st l1_digits_of _ _ _ _ _ _ _ hl
theorem ck_y (t0 t2 t3 kds row : T) (b k x y dig px py pk : Int) (l9 l10 : Sl) (a9 : lentS l9 = false) (a10 : lentS l10 = false)
    (h1 : gIx kds (.int k) = some (.r row)) (h2 : gIx row (.int dig) = some (.r (.tuple [.int px, .int py, .int pk]))) (hx : x.natAbs.log2 + b.natAbs.log2 < 1000000) (hy : y.natAbs.log2 + b.natAbs.log2 < 1000000) :
    y1_cell_in_kind [.v t0, .v (.int k), .v t2, .v t3, .v (.int b), .v kds, .v (.int x), .v (.int y), .v (.int dig), l9, l10] = .ok .nx [.v t0, .v (.int pk), .v t2, .v t3, .v (.int b), .v kds, .v (.int (x * b + px)), .v (.int (y * b + py)), .v (.int dig), .v (.int px), .v (.int py)] := by
  unfold y1_cell_in_kind
  simp only [h1, h2, hx, hy, a9, a10, eMLenE, eRep, eDLen, eNNew, eNLen, eListRng, gMax1, gSum, eMIn, eMInE, sMPut, eMNew, eMDict1, eMLen, eListZip, Option.isSome_none, Option.isSome_some, eMut, gAppend, gInsert, eRev, eIndex, eLenSet, gInt, gLen, gTuple, gList, gAbs, gMax2, gMin2, gDivmod, gEq_int, runFn, sSeq, sIf, sSet, sSetIx, sRet, sRetN, sNil, sDrop, sAsg, sFor, sPar, sNever, setO, retO, setOs, presc, eVar, eK, eTwo, v2, eFn, eDisp, eTup, eLst, eCall, eCallR, eCallK, pick, toSl, toSls, sIdx, wb, bk, esc, escs, vals, aNil, aCons, tb, Ev.tNot, Ev.tAnd, Ev.tOr, gGt, gLt, gGe, gLe, gSub, gMod, gDiv, gPow, gAdd, gMul, gInt, mulOk, g1, g2, fInt, fLen, fTuple, fList, fAbs, eAnd, eOr, eNot, eIf, eNeg, eIsi, gII, gIsN, gN, gT, gsNil, gsCons, isLent_eq, lentO, lentS_v, lentS_un, lentS_f, lentS_t, lentS_z, finE, okArg, Out.bind, Od.val, slVal, Bx.tr, Bx.t, isN, L2.ixN, L2.atI, isInt, isBool, isTuple, isList, isStr, isDict, isTL, Nat.zero_le, id_eq, eq_self, Pu.c0, Pu.c1, Pu.c2, Pu.c3, Pu.c4, Pu.c5, Pu.c6, Pu.c7, Pu.c8, Pu.c9, Pu.s1, Pu.s2, Pu.s3, Pu.s4, Pu.s5, Pu.s6, Pu.s7, Pu.s8, Pu.s9, Int.reduceEq, Nat.reduceMul, Int.ofNat_eq_natCast, wipeE, restE, exists_eq_left', Option.some.injEq, Out.ok.injEq, Prod.mk.injEq, Option.bind_some, Option.bind_none, Option.bind_eq_bind, List.getElem?_cons_zero, List.getElem?_cons_succ, List.getElem?_nil, List.set_cons_zero, List.set_cons_succ, List.set_nil, List.length_cons, List.length_nil, List.replicate_succ, List.replicate_zero, List.cons_append, List.nil_append, List.append_nil, List.all_cons, List.all_nil, Bool.and_true, Bool.true_and, Bool.and_false, Bool.false_and, if_true, if_false, ite_true, ite_false, List.nodup_cons, List.nodup_nil, List.not_mem_nil, List.mem_cons, not_false_eq_true, and_true, true_and, reduceIte, Nat.reduceAdd, Nat.reduceSub, Nat.reduceEqDiff, Nat.reduceLT, Nat.reduceLeDiff, Option.map_some, Option.map_none, Option.getD_some, reduceCtorEq, or_self, or_false, false_or, not_true_eq_false, decide_true, decide_false, Bool.not_true, Bool.not_false, Bool.false_eq_true, Nat.zero_add, Nat.add_zero, forall_const, Int.reduceLT, Int.reduceLE, Int.reduceNeg, Int.reduceToNat, Int.toNat_natCast, and_self]
theorem dgl_digs (n N : Nat) : ∀ d, ((dgl (n : Int) (N : Int) d).map PyData.int).reverse = (digs N n d).map nT
  | 0 => rfl
  | d + 1 => by
    rw [dgl_succ, List.map_append, List.reverse_append, dgl_digs n N d, digs]
    simp [nT]
theorem ck_st (y : SemS) (t0 t1 t2 t3 tb_ tk_ : T) (x z : Int) (l1 l8 l9 l10 : Sl)
    (h0 : t0 = .tuple [tb_, tk_])
    (h : y [.v t0, .v t1, .v t2, .v t3, .v tb_, .v tk_, .v (.int 0), .v (.int 0), .un, .un, .un] = .ok .nx [.v t0, l1, .v t2, .v t3, .v tb_, .v tk_, .v (.int x), .v (.int z), l8, l9, l10]) :
    runFn 11 (sSeq (sAsg (gT 2 (gsCons (gN 4) (gsCons (gN 5) gsNil))) (eVar 0)) (sSeq (sSet 6 (eK (.int 0))) (sSeq (sSet 7 (eK (.int 0))) (sSeq y (sRet (eTup (aCons (eVar 6) (aCons (eVar 7) aNil)))))))) [.v t0, .v t1, .v t2, .v t3] = .ok (.r (.tuple [.int x, .int z])) [.v t0, .v t1, .v t2, .v t3] := by
  subst h0
  simp only [h, eMLenE, eRep, eDLen, eNNew, eNLen, eListRng, gMax1, gSum, eMIn, eMInE, sMPut, eMNew, eMDict1, eMLen, eListZip, Option.isSome_none, Option.isSome_some, eMut, gAppend, gInsert, eRev, eIndex, eLenSet, gInt, gLen, gTuple, gList, gAbs, gMax2, gMin2, gDivmod, gEq_int, runFn, sSeq, sIf, sSet, sSetIx, sRet, sRetN, sNil, sDrop, sAsg, sFor, sPar, sNever, setO, retO, setOs, presc, eVar, eK, eTwo, v2, eFn, eDisp, eTup, eLst, eCall, eCallR, eCallK, pick, toSl, toSls, sIdx, wb, bk, esc, escs, vals, aNil, aCons, tb, Ev.tNot, Ev.tAnd, Ev.tOr, gGt, gLt, gGe, gLe, gSub, gMod, gDiv, gPow, gAdd, gMul, gInt, mulOk, g1, g2, fInt, fLen, fTuple, fList, fAbs, eAnd, eOr, eNot, eIf, eNeg, eIsi, gII, gIx, gIsN, gN, gT, gsNil, gsCons, isLent_eq, lentO, lentS_v, lentS_un, lentS_f, lentS_t, lentS_z, finE, okArg, Out.bind, Od.val, slVal, Bx.tr, Bx.t, isN, L2.ixN, L2.atI, isInt, isBool, isTuple, isList, isStr, isDict, isTL, Nat.zero_le, id_eq, eq_self, Pu.c0, Pu.c1, Pu.c2, Pu.c3, Pu.c4, Pu.c5, Pu.c6, Pu.c7, Pu.c8, Pu.c9, Pu.s1, Pu.s2, Pu.s3, Pu.s4, Pu.s5, Pu.s6, Pu.s7, Pu.s8, Pu.s9, Int.reduceEq, Nat.reduceMul, Int.ofNat_eq_natCast, wipeE, restE, exists_eq_left', Option.some.injEq, Out.ok.injEq, Prod.mk.injEq, Option.bind_some, Option.bind_none, Option.bind_eq_bind, List.getElem?_cons_zero, List.getElem?_cons_succ, List.getElem?_nil, List.set_cons_zero, List.set_cons_succ, List.set_nil, List.length_cons, List.length_nil, List.replicate_succ, List.replicate_zero, List.cons_append, List.nil_append, List.append_nil, List.all_cons, List.all_nil, Bool.and_true, Bool.true_and, Bool.and_false, Bool.false_and, if_true, if_false, ite_true, ite_false, List.nodup_cons, List.nodup_nil, List.not_mem_nil, List.mem_cons, not_false_eq_true, and_true, true_and, reduceIte, Nat.reduceAdd, Nat.reduceSub, Nat.reduceEqDiff, Nat.reduceLT, Nat.reduceLeDiff, Option.map_some, Option.map_none, Option.getD_some, reduceCtorEq, or_self, or_false, false_or, not_true_eq_false, decide_true, decide_false, Bool.not_true, Bool.not_false, Bool.false_eq_true, Nat.zero_add, Nat.add_zero, forall_const, Int.reduceLT, Int.reduceLE, Int.reduceNeg, Int.reduceToNat, Int.toNat_natCast, and_self]
theorem ci_st (m : FSem) (ts : List T) (t0 t1 t2 t3 b tk_ tx ty : T) (bb : Int) (hb : b = .int bb) (hm : bb.natAbs.log2 + bb.natAbs.log2 < 1000000) (h : m [.v t3, .v (.int (bb * bb)), .v t2] = .ok (.b (.l ts)) [.v t3, .v (.int (bb * bb)), .v t2]) :
    iOf (eCall 3 m (aCons (eVar 3) (aCons (eOp2 gMul (eVar 4) (eVar 4)) (aCons (eVar 2) aNil)))) [.v t0, .v t1, .v t2, .v t3, .v b, .v tk_, .v tx, .v ty, .un, .un, .un] = .ok ts [.v t0, .v t1, .v t2, .v t3, .v b, .v tk_, .v tx, .v ty, .un, .un, .un] := by
  subst hb
  simp only [iOf, hm, h, eMLenE, eRep, eDLen, eNNew, eNLen, eListRng, gMax1, gSum, eMIn, eMInE, sMPut, eMNew, eMDict1, eMLen, eListZip, Option.isSome_none, Option.isSome_some, eMut, gAppend, gInsert, eRev, eIndex, eLenSet, gInt, gLen, gTuple, gList, gAbs, gMax2, gMin2, gDivmod, gEq_int, runFn, sSeq, sIf, sSet, sSetIx, sRet, sRetN, sNil, sDrop, sAsg, sFor, sPar, sNever, setO, retO, setOs, presc, eVar, eK, eTwo, v2, eFn, eDisp, eTup, eLst, eCall, eCallR, eCallK, pick, toSl, toSls, sIdx, wb, bk, esc, escs, vals, aNil, aCons, tb, Ev.tNot, Ev.tAnd, Ev.tOr, gGt, gLt, gGe, gLe, gSub, gMod, gDiv, gPow, gAdd, gMul, gInt, mulOk, g1, g2, fInt, fLen, fTuple, fList, fAbs, eAnd, eOr, eNot, eIf, eNeg, eIsi, gII, gIx, gIsN, gN, gT, gsNil, gsCons, isLent_eq, lentO, lentS_v, lentS_un, lentS_f, lentS_t, lentS_z, finE, okArg, Out.bind, Od.val, slVal, Bx.tr, Bx.t, isN, L2.ixN, L2.atI, isInt, isBool, isTuple, isList, isStr, isDict, isTL, Nat.zero_le, id_eq, eq_self, Pu.c0, Pu.c1, Pu.c2, Pu.c3, Pu.c4, Pu.c5, Pu.c6, Pu.c7, Pu.c8, Pu.c9, Pu.s1, Pu.s2, Pu.s3, Pu.s4, Pu.s5, Pu.s6, Pu.s7, Pu.s8, Pu.s9, Int.reduceEq, Nat.reduceMul, Int.ofNat_eq_natCast, wipeE, restE, exists_eq_left', Option.some.injEq, Out.ok.injEq, Prod.mk.injEq, Option.bind_some, Option.bind_none, Option.bind_eq_bind, List.getElem?_cons_zero, List.getElem?_cons_succ, List.getElem?_nil, List.set_cons_zero, List.set_cons_succ, List.set_nil, List.length_cons, List.length_nil, List.replicate_succ, List.replicate_zero, List.cons_append, List.nil_append, List.append_nil, List.all_cons, List.all_nil, Bool.and_true, Bool.true_and, Bool.and_false, Bool.false_and, if_true, if_false, ite_true, ite_false, List.nodup_cons, List.nodup_nil, List.not_mem_nil, List.mem_cons, not_false_eq_true, and_true, true_and, reduceIte, Nat.reduceAdd, Nat.reduceSub, Nat.reduceEqDiff, Nat.reduceLT, Nat.reduceLeDiff, Option.map_some, Option.map_none, Option.getD_some, reduceCtorEq, or_self, or_false, false_or, not_true_eq_false, decide_true, decide_false, Bool.not_true, Bool.not_false, Bool.false_eq_true, Nat.zero_add, Nat.add_zero, forall_const, Int.reduceLT, Int.reduceLE, Int.reduceNeg, Int.reduceToNat, Int.toNat_natCast, and_self]
theorem cell_in_kind_ok {B : Nat} {ks : List (List Pt)} (g : Good B ks) {k : Nat} (hk : k < ks.length) (d n : Nat) (hd : d ≤ 200) :
    m_cell_in_kind [.v (bkT B ks), .v (nT k), .v (nT d), .v (nT n)] = .ok (.r (cT (cellF B ks k d n))) [.v (bkT B ks), .v (nT k), .v (nT d), .v (nT n)] := by
  have hB : 2 ≤ B ∧ B ≤ 3 := by rcases g.hb with h | h <;> omega
  have hN : 0 < B * B ∧ B * B ≤ 16 := by rcases g.hb with h | h <;> subst h <;> decide
  have hmm : (B : Int).natAbs.log2 + (B : Int).natAbs.log2 < 1000000 := by
    have : (B : Int).natAbs.log2 < 10 := log2_small (by omega) (by decide)
    omega
  have hdg := digits_ok (n : Int) ((B * B : Nat) : Int) d (by omega) (by omega) hd
  rw [dgl_digs] at hdg
  have hlt := digs_lt n hN.1 d
  have hlen := digs_len (B * B) n d
  obtain ⟨e', h, l8, l9, l10, ⟨a8, a9, a10⟩, hds, rfl⟩ := for_on (g := gN 8) (b := y1_cell_in_kind) nT (fun don e => ∃ l8 l9 l10, (lentS l8 = false ∧ lentS l9 = false ∧ lentS l10 = false) ∧ (∀ x ∈ don, x < B * B) ∧ e = [.v (bkT B ks), .v (nT (run B ks (k, 0, 0) don).1), .v (nT d), .v (nT n), .v (.int (B : Int)), .v (.tuple (ks.map kT)), .v (.int (run B ks (k, 0, 0) don).2.1), .v (.int (run B ks (k, 0, 0) don).2.2), l8, l9, l10]) 200 (digs (B * B) n d) []
      [.v (bkT B ks), .v (nT k), .v (nT d), .v (nT n), .v (.int (B : Int)), .v (.tuple (ks.map kT)), .v (.int 0), .v (.int 0), .un, .un, .un] ⟨_, _, _, ⟨rfl, rfl, rfl⟩, (fun x hx => by cases hx), rfl⟩ (by rw [hlen]; simpa using hd) fun j hj don e hdl ⟨l8, l9, l10, ⟨a8, a9, a10⟩, hdon, he⟩ => by
    subst he
    have kk := run_kind g don (k, 0, 0) hk hdon
    obtain ⟨ps, q1, q2, _⟩ := g.at_ kk (hlt j hj)
    have sm := run_small g don k hk hdon (by omega)
    have r1 : run B ks (k, 0, 0) (don ++ [j]) = stp B ks (run B ks (k, 0, 0) don) j := by rw [run_app]; rfl
    have i1 := get_ks q1
    have i2 := get_ps q2
    have st := ck_y (bkT B ks) (nT d) (nT n) (.tuple (ks.map kT)) (kT ps) (B : Int) ((run B ks (k, 0, 0) don).1 : Int) (run B ks (k, 0, 0) don).2.1 (run B ks (k, 0, 0) don).2.2 (j : Int) _ _ _ l9 l10 a9 a10 i1 i2 sm.1 sm.2
    refine ⟨[.v (bkT B ks), .v (nT (run B ks (k, 0, 0) don).1), .v (nT d), .v (nT n), .v (.int (B : Int)), .v (.tuple (ks.map kT)), .v (.int (run B ks (k, 0, 0) don).2.1), .v (.int (run B ks (k, 0, 0) don).2.2), .v (nT j), l9, l10], by simp only [a8, eMLenE, eRep, eDLen, eNNew, eNLen, eListRng, gMax1, gSum, eMIn, eMInE, sMPut, eMNew, eMDict1, eMLen, eListZip, Option.isSome_none, Option.isSome_some, eMut, gAppend, gInsert, eRev, eIndex, eLenSet, gInt, gLen, gTuple, gList, gAbs, gMax2, gMin2, gDivmod, gEq_int, runFn, sSeq, sIf, sSet, sSetIx, sRet, sRetN, sNil, sDrop, sAsg, sFor, sPar, sNever, setO, retO, setOs, presc, eVar, eK, eTwo, v2, eFn, eDisp, eTup, eLst, eCall, eCallR, eCallK, pick, toSl, toSls, sIdx, wb, bk, esc, escs, vals, aNil, aCons, tb, Ev.tNot, Ev.tAnd, Ev.tOr, gGt, gLt, gGe, gLe, gSub, gMod, gDiv, gPow, gAdd, gMul, gInt, mulOk, g1, g2, fInt, fLen, fTuple, fList, fAbs, eAnd, eOr, eNot, eIf, eNeg, eIsi, gII, gIx, gIsN, gN, gT, gsNil, gsCons, isLent_eq, lentO, lentS_v, lentS_un, lentS_f, lentS_t, lentS_z, finE, okArg, Out.bind, Od.val, slVal, Bx.tr, Bx.t, isN, L2.ixN, L2.atI, isInt, isBool, isTuple, isList, isStr, isDict, isTL, Nat.zero_le, id_eq, eq_self, Pu.c0, Pu.c1, Pu.c2, Pu.c3, Pu.c4, Pu.c5, Pu.c6, Pu.c7, Pu.c8, Pu.c9, Pu.s1, Pu.s2, Pu.s3, Pu.s4, Pu.s5, Pu.s6, Pu.s7, Pu.s8, Pu.s9, Int.reduceEq, Nat.reduceMul, Int.ofNat_eq_natCast, wipeE, restE, exists_eq_left', Option.some.injEq, Out.ok.injEq, Prod.mk.injEq, Option.bind_some, Option.bind_none, Option.bind_eq_bind, List.getElem?_cons_zero, List.getElem?_cons_succ, List.getElem?_nil, List.set_cons_zero, List.set_cons_succ, List.set_nil, List.length_cons, List.length_nil, List.replicate_succ, List.replicate_zero, List.cons_append, List.nil_append, List.append_nil, List.all_cons, List.all_nil, Bool.and_true, Bool.true_and, Bool.and_false, Bool.false_and, if_true, if_false, ite_true, ite_false, List.nodup_cons, List.nodup_nil, List.not_mem_nil, List.mem_cons, not_false_eq_true, and_true, true_and, reduceIte, Nat.reduceAdd, Nat.reduceSub, Nat.reduceEqDiff, Nat.reduceLT, Nat.reduceLeDiff, Option.map_some, Option.map_none, Option.getD_some, reduceCtorEq, or_self, or_false, false_or, not_true_eq_false, decide_true, decide_false, Bool.not_true, Bool.not_false, Bool.false_eq_true, Nat.zero_add, Nat.add_zero, forall_const, Int.reduceLT, Int.reduceLE, Int.reduceNeg, Int.reduceToNat, Int.toNat_natCast, and_self], _, .inl st, .v (nT j), .v (.int (Mt.part ks (run B ks (k, 0, 0) don).1 j).1), .v (.int (Mt.part ks (run B ks (k, 0, 0) don).1 j).2.1), ⟨rfl, rfl, rfl⟩, fun x hx => ?_, ?_⟩
    · rcases List.mem_append.mp hx with hx | hx
      · exact hdon x hx
      · rw [List.mem_singleton.mp hx]; exact hlt j hj
    · rw [r1]; rfl
  have hl : l1_cell_in_kind [.v (bkT B ks), .v (nT k), .v (nT d), .v (nT n), .v (.int (B : Int)), .v (.tuple (ks.map kT)), .v (.int 0), .v (.int 0), .un, .un, .un] = forS (gN 8) y1_cell_in_kind ((digs (B * B) n d).map nT) [.v (bkT B ks), .v (nT k), .v (nT d), .v (nT n), .v (.int (B : Int)), .v (.tuple (ks.map kT)), .v (.int 0), .v (.int 0), .un, .un, .un] := by
    unfold l1_cell_in_kind
    rw [sFor_eq (ci_st m_digits_of _ (bkT B ks) (nT k) (nT d) (nT n) _ (.tuple (ks.map kT)) (.int 0) (.int 0) (B : Int) rfl hmm (by rw [← Int.natCast_mul]; exact hdg))]
  have hl := hl.trans h
  exact ck_st l1_cell_in_kind _ _ _ _ _ _ _ _ _ _ _ _ rfl hl

set_option linter.all false
set_option maxRecDepth 100000
set_option maxHeartbeats 4000000
open PySem PySem.Spec Ev Pu Mt Wp
local macro_rules | `(tactic| decreasing_trivial_pre_omega) => `(tactic| (first | ((with_reducible apply Wp.kelt); (focus (rfl; done))) | fail))
local macro_rules | `(tactic| decreasing_trivial_pre_omega) => `(tactic| (first | ((with_reducible apply Wp.kaug); (focus (rfl; done)); (focus ((first | with_reducible assumption | with_reducible exact Wp.gEq_e _ _ | with_reducible exact Wp.gEq_n _ _ | with_reducible exact Wp.gEq_i _ _ _ | exact Wp.gAppend_ok (by assumption) | exact Wp.gIx_l (by assumption) | exact Wp.gIx_t (by assumption) | exact Wp.gStr_ok (by assumption) | exact Ev.gLenS_ok (by assumption) | exact Wp.gAdd_ss (by assumption) | exact Ev.gMulX_ok (by assumption) | exact Wp.gAdd_tt (by assumption) | exact Wp.gAdd_ll (by assumption) | exact Wp.gMul_ok (by assumption) | exact Wp.gMod_ok (by assumption) | exact Wp.gDiv_ok (by assumption) (by assumption) | rfl | assumption | exact Ev.gPowW_ok (by assumption)); done)); (focus (exact (by first | rfl | exact Wp.isLent_of rfl (by assumption)); done))) | fail))
local macro_rules | `(tactic| decreasing_trivial_pre_omega) => `(tactic| (first | ((with_reducible apply Wp.w_aug); (focus (rfl; done))) | fail))
local macro_rules | `(tactic| decreasing_trivial_pre_omega) => `(tactic| (first | ((with_reducible apply Wp.kenu); (focus (rfl; done))) | fail))
local macro_rules | `(tactic| decreasing_trivial_pre_omega) => `(tactic| (first | ((with_reducible apply Wp.kzip2_t); (focus (rfl; done))) | fail))
local macro_rules | `(tactic| decreasing_trivial_pre_omega) => `(tactic| (first | ((with_reducible apply Wp.kzip2_l); (focus (rfl; done))) | fail))
local macro_rules | `(tactic| decreasing_trivial_pre_omega) => `(tactic| (first | ((with_reducible apply Wp.w_izipV_r); (focus (rfl; done)); (focus (rfl; done)); (focus (rfl; done)); (focus (rfl; done))) | fail))
local macro_rules | `(tactic| decreasing_trivial_pre_omega) => `(tactic| (first | ((with_reducible apply Wp.w_izipV_l); (focus (rfl; done)); (focus (rfl; done)); (focus (rfl; done)); (focus (rfl; done))) | fail))
local macro_rules | `(tactic| decreasing_trivial_pre_omega) => `(tactic| (first | ((with_reducible apply Wp.w_inmG); (focus (rfl; done)); (focus (rfl; done))) | fail))
local macro_rules | `(tactic| decreasing_trivial_pre_omega) => `(tactic| (first | ((with_reducible apply Wp.kzip); (focus (rfl; done))) | fail))
local macro_rules | `(tactic| decreasing_trivial_pre_omega) => `(tactic| (first | ((with_reducible apply Wp.kr2w); (focus (rfl; done))) | fail))
local macro_rules | `(tactic| decreasing_trivial_pre_omega) => `(tactic| (first | ((with_reducible apply Wp.kputD); (focus (rfl; done)); (focus (rfl; done)); (focus (rfl; done)); (focus (assumption; done))) | fail))
local macro_rules | `(tactic| decreasing_trivial_pre_omega) => `(tactic| (first | ((with_reducible apply Wp.kputL); (focus (rfl; done)); (focus (rfl; done)); (focus ((first | rfl | assumption | exact Wp.ixN_nat (by assumption)); done))) | fail))
local macro_rules | `(tactic| decreasing_trivial_pre_omega) => `(tactic| (first | ((with_reducible apply Wp.putS_d); (focus (rfl; done))) | fail))
local macro_rules | `(tactic| decreasing_trivial_pre_omega) => `(tactic| (first | ((with_reducible apply Wp.putS_l); (focus (rfl; done))) | fail))
local macro_rules | `(tactic| decreasing_trivial_pre_omega) => `(tactic| (first | ((with_reducible apply Wp.kputS); (focus (rfl; done)); (focus (rfl; done)); (focus (rfl; done))) | fail))
local macro_rules | `(tactic| decreasing_trivial_pre_omega) => `(tactic| (first | ((with_reducible apply Wp.kdictp); (focus (rfl; done)); (focus (assumption; done))) | fail))
local macro_rules | `(tactic| decreasing_trivial_pre_omega) => `(tactic| (first | ((with_reducible apply Wp.ksetix2); (focus (rfl; done)); (focus (rfl; done)); (focus (rfl; done)); (focus ((first | rfl | assumption | exact Wp.ixN_nat (by assumption)); done))) | fail))
local macro_rules | `(tactic| decreasing_trivial_pre_omega) => `(tactic| (first | ((with_reducible apply Wp.ksetix1); (focus (rfl; done))) | fail))
local macro_rules | `(tactic| decreasing_trivial_pre_omega) => `(tactic| (first | ((with_reducible apply Wp.kdput2); (focus (rfl; done)); (focus (rfl; done)); (focus (rfl; done)); (focus (rfl; done)); (focus (assumption; done))) | fail))
local macro_rules | `(tactic| decreasing_trivial_pre_omega) => `(tactic| (first | ((with_reducible apply Wp.kdput1); (focus (rfl; done))) | fail))
local macro_rules | `(tactic| decreasing_trivial_pre_omega) => `(tactic| (first | ((with_reducible apply Wp.kdget); (focus (rfl; done)); (focus (rfl; done)); (focus (rfl; done)); (focus (assumption; done))) | fail))
local macro_rules | `(tactic| decreasing_trivial_pre_omega) => `(tactic| (first | ((with_reducible apply Wp.w_dget); (focus (rfl; done))) | fail))
local macro_rules | `(tactic| decreasing_trivial_pre_omega) => `(tactic| (first | ((with_reducible apply Wp.kmd2); (focus (rfl; done)); (focus (rfl; done))) | fail))
local macro_rules | `(tactic| decreasing_trivial_pre_omega) => `(tactic| (first | ((with_reducible apply Wp.kmput2); (focus (rfl; done)); (focus (rfl; done)); (focus (rfl; done)); (focus (rfl; done)); (focus (assumption; done))) | fail))
local macro_rules | `(tactic| decreasing_trivial_pre_omega) => `(tactic| (first | ((with_reducible apply Wp.kmput1); (focus (rfl; done))) | fail))
local macro_rules | `(tactic| decreasing_trivial_pre_omega) => `(tactic| (first | ((with_reducible apply Wp.kmin); (focus (rfl; done)); (focus (rfl; done)); (focus (rfl; done)); (focus (assumption; done))) | fail))
local macro_rules | `(tactic| decreasing_trivial_pre_omega) => `(tactic| (first | ((with_reducible apply Wp.kmget); (focus (rfl; done)); (focus (rfl; done)); (focus (rfl; done)); (focus (assumption; done))) | fail))
local macro_rules | `(tactic| decreasing_trivial_pre_omega) => `(tactic| (first | ((with_reducible apply Wp.w_mget); (focus (rfl; done))) | fail))
local macro_rules | `(tactic| decreasing_trivial_pre_omega) => `(tactic| (first | ((with_reducible apply Wp.ksl2_t); (focus (rfl; done))) | fail))
local macro_rules | `(tactic| decreasing_trivial_pre_omega) => `(tactic| (first | ((with_reducible apply Wp.ksl2_l); (focus (rfl; done))) | fail))
local macro_rules | `(tactic| decreasing_trivial_pre_omega) => `(tactic| (first | ((with_reducible apply Wp.kjs); (focus (assumption; done))) | fail))
local macro_rules | `(tactic| decreasing_trivial_pre_omega) => `(tactic| (first | ((with_reducible apply Wp.kfmt_i); (focus (rfl; done)); (focus (assumption; done))) | fail))
local macro_rules | `(tactic| decreasing_trivial_pre_omega) => `(tactic| (first | ((with_reducible apply Wp.kfmt_s); (focus (rfl; done)); (focus (assumption; done))) | fail))
local macro_rules | `(tactic| decreasing_trivial_pre_omega) => `(tactic| (first | ((with_reducible apply Wp.kjoin2); (focus (rfl; done)); (focus (assumption; done)); (focus (assumption; done))) | fail))
local macro_rules | `(tactic| decreasing_trivial_pre_omega) => `(tactic| (first | ((with_reducible apply Wp.kindex1_); (focus (rfl; done))) | fail))
local macro_rules | `(tactic| decreasing_trivial_pre_omega) => `(tactic| (first | ((with_reducible apply Wp.krev_t); (focus (rfl; done))) | fail))
local macro_rules | `(tactic| decreasing_trivial_pre_omega) => `(tactic| (first | ((with_reducible apply Wp.krev_l); (focus (rfl; done))) | fail))
local macro_rules | `(tactic| decreasing_trivial_pre_omega) => `(tactic| (first | ((with_reducible apply Wp.kof_t); (focus (rfl; done))) | fail))
local macro_rules | `(tactic| decreasing_trivial_pre_omega) => `(tactic| (first | ((with_reducible apply Wp.kof_l); (focus (rfl; done))) | fail))
local macro_rules | `(tactic| decreasing_trivial_pre_omega) => `(tactic| (first | ((with_reducible apply Wp.kpso); (focus (rfl; done))) | fail))
local macro_rules | `(tactic| decreasing_trivial_pre_omega) => `(tactic| (first | ((with_reducible apply Wp.kisi); (focus (rfl; done))) | fail))
local macro_rules | `(tactic| decreasing_trivial_pre_omega) => `(tactic| (first | ((with_reducible apply Wp.kneg); (focus (rfl; done))) | fail))
local macro_rules | `(tactic| decreasing_trivial_pre_omega) => `(tactic| (first | ((with_reducible apply Wp.ktb_s); (focus (rfl; done))) | fail))
local macro_rules | `(tactic| decreasing_trivial_pre_omega) => `(tactic| (first | ((with_reducible apply Wp.kore_f); (focus (rfl; done))) | fail))
local macro_rules | `(tactic| decreasing_trivial_pre_omega) => `(tactic| (first | ((with_reducible apply Wp.kore_t); (focus (rfl; done))) | fail))
local macro_rules | `(tactic| decreasing_trivial_pre_omega) => `(tactic| (first | ((with_reducible apply Wp.kande_f); (focus (rfl; done))) | fail))
local macro_rules | `(tactic| decreasing_trivial_pre_omega) => `(tactic| (first | ((with_reducible apply Wp.kande_t); (focus (rfl; done))) | fail))
local macro_rules | `(tactic| decreasing_trivial_pre_omega) => `(tactic| (first | ((with_reducible apply Wp.kor_f); (focus (rfl; done))) | fail))
local macro_rules | `(tactic| decreasing_trivial_pre_omega) => `(tactic| (first | ((with_reducible apply Wp.kor_t); (focus (rfl; done))) | fail))
local macro_rules | `(tactic| decreasing_trivial_pre_omega) => `(tactic| (first | ((with_reducible apply Wp.kand_f); (focus (rfl; done))) | fail))
local macro_rules | `(tactic| decreasing_trivial_pre_omega) => `(tactic| (first | ((with_reducible apply Wp.kand_t); (focus (rfl; done))) | fail))
local macro_rules | `(tactic| decreasing_trivial_pre_omega) => `(tactic| (first | ((with_reducible apply Wp.kife_f); (focus (rfl; done))) | fail))
local macro_rules | `(tactic| decreasing_trivial_pre_omega) => `(tactic| (first | ((with_reducible apply Wp.kife_t); (focus (rfl; done))) | fail))
local macro_rules | `(tactic| decreasing_trivial_pre_omega) => `(tactic| (first | ((with_reducible apply Wp.kif_f); (focus (assumption; done))) | fail))
local macro_rules | `(tactic| decreasing_trivial_pre_omega) => `(tactic| (first | ((with_reducible apply Wp.kif_t); (focus (assumption; done))) | fail))
local macro_rules | `(tactic| decreasing_trivial_pre_omega) => `(tactic| (first | ((with_reducible apply Wp.kif_f); (focus (rfl; done))) | fail))
local macro_rules | `(tactic| decreasing_trivial_pre_omega) => `(tactic| (first | ((with_reducible apply Wp.kif_t); (focus (rfl; done))) | fail))
local macro_rules | `(tactic| decreasing_trivial_pre_omega) => `(tactic| (first | ((with_reducible apply Wp.kmut2); (focus (rfl; done)); (focus (rfl; done)); (focus ((first | with_reducible assumption | with_reducible exact Wp.gEq_e _ _ | with_reducible exact Wp.gEq_n _ _ | with_reducible exact Wp.gEq_i _ _ _ | exact Wp.gAppend_ok (by assumption) | exact Wp.gIx_l (by assumption) | exact Wp.gIx_t (by assumption) | exact Wp.gStr_ok (by assumption) | exact Ev.gLenS_ok (by assumption) | exact Wp.gAdd_ss (by assumption) | exact Ev.gMulX_ok (by assumption) | exact Wp.gAdd_tt (by assumption) | exact Wp.gAdd_ll (by assumption) | exact Wp.gMul_ok (by assumption) | exact Wp.gMod_ok (by assumption) | exact Wp.gDiv_ok (by assumption) (by assumption) | rfl | assumption | exact Ev.gPowW_ok (by assumption)); done))) | fail))
local macro_rules | `(tactic| decreasing_trivial_pre_omega) => `(tactic| (first | ((with_reducible apply Wp.w_mut); (focus (rfl; done))) | fail))
local macro_rules | `(tactic| decreasing_trivial_pre_omega) => `(tactic| (first | ((with_reducible apply Wp.kcallk); (focus (decide; done)); (focus (exact ⟨rfl, rfl⟩; done)); (focus (rfl; done)); (focus (exact of_decide_eq_true rfl; done))) | fail))
local macro_rules | `(tactic| decreasing_trivial_pre_omega) => `(tactic| (first | ((with_reducible apply Wp.kcall); (focus (rfl; done)); (focus (rfl; done)); (focus (exact of_decide_eq_true rfl; done))) | fail))
local macro_rules | `(tactic| decreasing_trivial_pre_omega) => `(tactic| (first | ((with_reducible apply Wp.kdisp_l); (focus (rfl; done)); (focus (rfl; done))) | fail))
local macro_rules | `(tactic| decreasing_trivial_pre_omega) => `(tactic| (first | ((with_reducible apply Wp.kdisp_t); (focus (rfl; done)); (focus (rfl; done))) | fail))
local macro_rules | `(tactic| decreasing_trivial_pre_omega) => `(tactic| (first | ((with_reducible apply Wp.kfng); (focus (rfl; done)); (focus ((first | with_reducible assumption | with_reducible exact Wp.gEq_e _ _ | with_reducible exact Wp.gEq_n _ _ | with_reducible exact Wp.gEq_i _ _ _ | exact Wp.gAppend_ok (by assumption) | exact Wp.gIx_l (by assumption) | exact Wp.gIx_t (by assumption) | exact Wp.gStr_ok (by assumption) | exact Ev.gLenS_ok (by assumption) | exact Wp.gAdd_ss (by assumption) | exact Ev.gMulX_ok (by assumption) | exact Wp.gAdd_tt (by assumption) | exact Wp.gAdd_ll (by assumption) | exact Wp.gMul_ok (by assumption) | exact Wp.gMod_ok (by assumption) | exact Wp.gDiv_ok (by assumption) (by assumption) | rfl | assumption | exact Ev.gPowW_ok (by assumption)); done))) | fail))
local macro_rules | `(tactic| decreasing_trivial_pre_omega) => `(tactic| (first | ((with_reducible apply Wp.ktwo2); (focus (rfl; done)); (focus (rfl; done)); (focus ((first | with_reducible assumption | with_reducible exact Wp.gEq_e _ _ | with_reducible exact Wp.gEq_n _ _ | with_reducible exact Wp.gEq_i _ _ _ | exact Wp.gAppend_ok (by assumption) | exact Wp.gIx_l (by assumption) | exact Wp.gIx_t (by assumption) | exact Wp.gStr_ok (by assumption) | exact Ev.gLenS_ok (by assumption) | exact Wp.gAdd_ss (by assumption) | exact Ev.gMulX_ok (by assumption) | exact Wp.gAdd_tt (by assumption) | exact Wp.gAdd_ll (by assumption) | exact Wp.gMul_ok (by assumption) | exact Wp.gMod_ok (by assumption) | exact Wp.gDiv_ok (by assumption) (by assumption) | rfl | assumption | exact Ev.gPowW_ok (by assumption)); done))) | fail))
local macro_rules | `(tactic| decreasing_trivial_pre_omega) => `(tactic| (first | ((with_reducible apply Wp.kpar); (focus (rfl; done)); (focus ((repeat (first | refine Wp.setOs_nil rfl | (apply Wp.setOs_r; (focus exact (by first | rfl | exact Wp.isLent_of rfl (by assumption)))) | (apply Wp.setOs_b; (focus exact (by first | rfl | exact Wp.isLent_of rfl (by assumption)))))); done))) | fail))
local macro_rules | `(tactic| decreasing_trivial_pre_omega) => `(tactic| (first | ((with_reducible apply Wp.kasg); (focus (rfl; done)); (focus ((first | rfl | (repeat' (first | refine Wp.gN_ok (by first | rfl | exact Wp.isLent_of rfl (by assumption)) rfl | refine Wp.gsNil_ok rfl | with_reducible apply Wp.gsCons_ok | apply Wp.gT_ok rfl))); done))) | fail))
local macro_rules | `(tactic| decreasing_trivial_pre_omega) => `(tactic| (first | ((with_reducible apply Wp.kret_so); (focus (rfl; done))) | fail))
local macro_rules | `(tactic| decreasing_trivial_pre_omega) => `(tactic| (first | ((with_reducible apply Wp.kset_s); (focus (exact (by first | rfl | exact Wp.isLent_of rfl (by assumption)); done)); (focus (rfl; done))) | fail))
local macro_rules | `(tactic| decreasing_trivial_pre_omega) => `(tactic| (first | ((with_reducible apply Wp.kset_b); (focus (exact (by first | rfl | exact Wp.isLent_of rfl (by assumption)); done))) | fail))
local macro_rules | `(tactic| decreasing_trivial_pre_omega) => `(tactic| (first | ((with_reducible apply Wp.kset_r); (focus (exact (by first | rfl | exact Wp.isLent_of rfl (by assumption)); done))) | fail))
local macro_rules | `(tactic| decreasing_trivial_pre_omega) => `(tactic| (first | ((with_reducible apply Wp.w_var_f); (focus (rfl; done))) | fail))
local macro_rules | `(tactic| decreasing_trivial_pre_omega) => `(tactic| (first | ((with_reducible apply Wp.w_var_o); (focus (rfl; done))) | fail))
local macro_rules | `(tactic| decreasing_trivial_pre_omega) => `(tactic| (first | ((with_reducible apply Wp.w_var_v); (focus (rfl; done))) | fail))
local macro_rules | `(tactic| decreasing_trivial_pre_omega) => `(tactic| (first | ((with_reducible apply Wp.kback_b_n); (focus (((try simp only [Ev.wb, Ev.bk, List.set_cons_zero, List.set_cons_succ, List.getElem?_cons_zero, List.getElem?_cons_succ, List.cons_append, List.nil_append, List.append_nil]); rfl); done))) | fail))
local macro_rules | `(tactic| decreasing_trivial_pre_omega) => `(tactic| (first | ((with_reducible apply Wp.kback_r_n); (focus (((try simp only [Ev.wb, Ev.bk, List.set_cons_zero, List.set_cons_succ, List.getElem?_cons_zero, List.getElem?_cons_succ, List.cons_append, List.nil_append, List.append_nil]); rfl); done))) | fail))
local macro_rules | `(tactic| decreasing_trivial_pre_omega) => `(tactic| (first | ((with_reducible apply Wp.kseq_nx_n); (focus (((try simp only [Ev.wb, Ev.bk, List.set_cons_zero, List.set_cons_succ, List.getElem?_cons_zero, List.getElem?_cons_succ, List.cons_append, List.nil_append, List.append_nil]); rfl); done))) | fail))
local macro_rules | `(tactic| decreasing_trivial_pre_omega) => `(tactic| (first | with_reducible apply Wp.kturn_bk | fail))
local macro_rules | `(tactic| decreasing_trivial_pre_omega) => `(tactic| (first | with_reducible apply Wp.kturn_rt | fail))
local macro_rules | `(tactic| decreasing_trivial_pre_omega) => `(tactic| (first | with_reducible apply Wp.kturn_ct | fail))
local macro_rules | `(tactic| decreasing_trivial_pre_omega) => `(tactic| (first | with_reducible apply Wp.kturn_nx | fail))
local macro_rules | `(tactic| decreasing_trivial_pre_omega) => `(tactic| (first | with_reducible apply Wp.kfun_nx | fail))
local macro_rules | `(tactic| decreasing_trivial_pre_omega) => `(tactic| (first | with_reducible apply Wp.kfun_rt | fail))
local macro_rules | `(tactic| decreasing_trivial_pre_omega) => `(tactic| (first | with_reducible apply Wp.ktb | fail))
local macro_rules | `(tactic| decreasing_trivial_pre_omega) => `(tactic| (first | with_reducible apply Wp.kret_b | fail))
local macro_rules | `(tactic| decreasing_trivial_pre_omega) => `(tactic| (first | with_reducible apply Wp.kret_r | fail))
local macro_rules | `(tactic| decreasing_trivial_pre_omega) => `(tactic| (first | with_reducible apply Wp.kseq_ct | fail))
local macro_rules | `(tactic| decreasing_trivial_pre_omega) => `(tactic| (first | with_reducible apply Wp.kseq_bk | fail))
local macro_rules | `(tactic| decreasing_trivial_pre_omega) => `(tactic| (first | with_reducible apply Wp.kseq_rt | fail))
local macro_rules | `(tactic| decreasing_trivial_pre_omega) => `(tactic| (first | with_reducible apply Wp.kcons1 | fail))
local macro_rules | `(tactic| decreasing_trivial_pre_omega) => `(tactic| (first | with_reducible apply Wp.ktwo1 | fail))
local macro_rules | `(tactic| decreasing_trivial_pre_omega) => `(tactic| (first | with_reducible apply Wp.ksl1 | fail))
local macro_rules | `(tactic| decreasing_trivial_pre_omega) => `(tactic| (first | with_reducible apply Wp.ksl_ | fail))
local macro_rules | `(tactic| decreasing_trivial_pre_omega) => `(tactic| (first | with_reducible apply Wp.kmd1 | fail))
local macro_rules | `(tactic| decreasing_trivial_pre_omega) => `(tactic| (first | with_reducible apply Wp.w_dput | fail))
local macro_rules | `(tactic| decreasing_trivial_pre_omega) => `(tactic| (first | with_reducible apply Wp.w_mput | fail))
local macro_rules | `(tactic| decreasing_trivial_pre_omega) => `(tactic| (first | with_reducible apply Wp.w_min | fail))
local macro_rules | `(tactic| decreasing_trivial_pre_omega) => `(tactic| (first | with_reducible apply Wp.w_mnew | fail))
local macro_rules | `(tactic| decreasing_trivial_pre_omega) => `(tactic| (first | with_reducible apply Wp.w_mdict1 | fail))
local macro_rules | `(tactic| decreasing_trivial_pre_omega) => `(tactic| (first | with_reducible apply Wp.krep1 | fail))
local macro_rules | `(tactic| decreasing_trivial_pre_omega) => `(tactic| (first | with_reducible apply Wp.w_rep | fail))
local macro_rules | `(tactic| decreasing_trivial_pre_omega) => `(tactic| (first | with_reducible apply Wp.w_true | fail))
local macro_rules | `(tactic| decreasing_trivial_pre_omega) => `(tactic| (first | with_reducible apply Wp.w_pno | fail))
local macro_rules | `(tactic| decreasing_trivial_pre_omega) => `(tactic| (first | with_reducible apply Wp.w_anil | fail))
local macro_rules | `(tactic| decreasing_trivial_pre_omega) => `(tactic| (first | with_reducible apply Wp.w_k | fail))
local macro_rules | `(tactic| decreasing_trivial_pre_omega) => `(tactic| (first | with_reducible apply Wp.w_retN | fail))
local macro_rules | `(tactic| decreasing_trivial_pre_omega) => `(tactic| (first | with_reducible apply Wp.w_cnt | fail))
local macro_rules | `(tactic| decreasing_trivial_pre_omega) => `(tactic| (first | with_reducible apply Wp.w_brk | fail))
local macro_rules | `(tactic| decreasing_trivial_pre_omega) => `(tactic| (first | with_reducible apply Wp.w_nil | fail))
local macro_rules | `(tactic| decreasing_trivial_pre_omega) => `(tactic| (first | with_reducible apply Wp.w_r2w | fail))
local macro_rules | `(tactic| decreasing_trivial_pre_omega) => `(tactic| (first | with_reducible apply Wp.putS_nil | fail))
local macro_rules | `(tactic| decreasing_trivial_pre_omega) => `(tactic| (first | with_reducible apply Wp.w_putS | fail))
local macro_rules | `(tactic| decreasing_trivial_pre_omega) => `(tactic| (first | with_reducible apply Wp.w_dictp | fail))
local macro_rules | `(tactic| decreasing_trivial_pre_omega) => `(tactic| (first | with_reducible apply Wp.w_js | fail))
local macro_rules | `(tactic| decreasing_trivial_pre_omega) => `(tactic| (first | with_reducible apply Wp.w_js_nil | fail))
local macro_rules | `(tactic| decreasing_trivial_pre_omega) => `(tactic| (first | with_reducible apply Wp.w_fmt | fail))
local macro_rules | `(tactic| decreasing_trivial_pre_omega) => `(tactic| (first | with_reducible apply Wp.kjoin1 | fail))
local macro_rules | `(tactic| decreasing_trivial_pre_omega) => `(tactic| (first | with_reducible apply Wp.w_join | fail))
local macro_rules | `(tactic| decreasing_trivial_pre_omega) => `(tactic| (first | with_reducible apply Wp.w_setix | fail))
local macro_rules | `(tactic| decreasing_trivial_pre_omega) => `(tactic| (first | with_reducible apply Wp.w_ienu | fail))
local macro_rules | `(tactic| decreasing_trivial_pre_omega) => `(tactic| (first | with_reducible apply Wp.w_izip2 | fail))
local macro_rules | `(tactic| decreasing_trivial_pre_omega) => `(tactic| (first | with_reducible apply Wp.w_izip | fail))
local macro_rules | `(tactic| decreasing_trivial_pre_omega) => `(tactic| (first | with_reducible apply Wp.w_compG | fail))
local macro_rules | `(tactic| decreasing_trivial_pre_omega) => `(tactic| (first | with_reducible apply Wp.w_comp | fail))
local macro_rules | `(tactic| decreasing_trivial_pre_omega) => `(tactic| (first | with_reducible apply Wp.w_r2 | fail))
local macro_rules | `(tactic| decreasing_trivial_pre_omega) => `(tactic| (first | with_reducible apply Wp.w_r1 | fail))
local macro_rules | `(tactic| decreasing_trivial_pre_omega) => `(tactic| (first | with_reducible apply Wp.w_iof | fail))
local macro_rules | `(tactic| decreasing_trivial_pre_omega) => `(tactic| (first | with_reducible apply Wp.w_for | fail))
local macro_rules | `(tactic| decreasing_trivial_pre_omega) => `(tactic| (first | with_reducible apply Wp.w_index | fail))
local macro_rules | `(tactic| decreasing_trivial_pre_omega) => `(tactic| (first | with_reducible apply Wp.w_rev | fail))
local macro_rules | `(tactic| decreasing_trivial_pre_omega) => `(tactic| (first | with_reducible apply Wp.w_pso | fail))
local macro_rules | `(tactic| decreasing_trivial_pre_omega) => `(tactic| (first | with_reducible apply Wp.w_sl | fail))
local macro_rules | `(tactic| decreasing_trivial_pre_omega) => `(tactic| (first | with_reducible apply Wp.w_isi | fail))
local macro_rules | `(tactic| decreasing_trivial_pre_omega) => `(tactic| (first | with_reducible apply Wp.w_neg | fail))
local macro_rules | `(tactic| decreasing_trivial_pre_omega) => `(tactic| (first | with_reducible apply Wp.w_tor | fail))
local macro_rules | `(tactic| decreasing_trivial_pre_omega) => `(tactic| (first | with_reducible apply Wp.w_tand | fail))
local macro_rules | `(tactic| decreasing_trivial_pre_omega) => `(tactic| (first | with_reducible apply Wp.w_tnot | fail))
local macro_rules | `(tactic| decreasing_trivial_pre_omega) => `(tactic| (first | with_reducible apply Wp.w_tb | fail))
local macro_rules | `(tactic| decreasing_trivial_pre_omega) => `(tactic| (first | with_reducible apply Wp.w_eif | fail))
local macro_rules | `(tactic| decreasing_trivial_pre_omega) => `(tactic| (first | with_reducible apply Wp.w_enot | fail))
local macro_rules | `(tactic| decreasing_trivial_pre_omega) => `(tactic| (first | with_reducible apply Wp.w_eor | fail))
local macro_rules | `(tactic| decreasing_trivial_pre_omega) => `(tactic| (first | with_reducible apply Wp.w_eand | fail))
local macro_rules | `(tactic| decreasing_trivial_pre_omega) => `(tactic| (first | with_reducible apply Wp.w_callk | fail))
local macro_rules | `(tactic| decreasing_trivial_pre_omega) => `(tactic| (first | with_reducible apply Wp.w_call | fail))
local macro_rules | `(tactic| decreasing_trivial_pre_omega) => `(tactic| (first | with_reducible apply Wp.w_lst | fail))
local macro_rules | `(tactic| decreasing_trivial_pre_omega) => `(tactic| (first | with_reducible apply Wp.w_tup | fail))
local macro_rules | `(tactic| decreasing_trivial_pre_omega) => `(tactic| (first | with_reducible apply Wp.w_fng | fail))
local macro_rules | `(tactic| decreasing_trivial_pre_omega) => `(tactic| (first | with_reducible apply Wp.w_acons | fail))
local macro_rules | `(tactic| decreasing_trivial_pre_omega) => `(tactic| (first | with_reducible apply Wp.w_op2 | fail))
local macro_rules | `(tactic| decreasing_trivial_pre_omega) => `(tactic| (first | with_reducible apply Wp.w_par | fail))
local macro_rules | `(tactic| decreasing_trivial_pre_omega) => `(tactic| (first | with_reducible apply Wp.w_asg | fail))
local macro_rules | `(tactic| decreasing_trivial_pre_omega) => `(tactic| (first | with_reducible apply Wp.w_ret | fail))
local macro_rules | `(tactic| decreasing_trivial_pre_omega) => `(tactic| (first | with_reducible apply Wp.w_set | fail))
local macro_rules | `(tactic| decreasing_trivial_pre_omega) => `(tactic| (first | with_reducible apply Wp.w_if | fail))
local macro_rules | `(tactic| decreasing_trivial_pre_omega) => `(tactic| (first | with_reducible apply Wp.w_drop | fail))
local macro_rules | `(tactic| decreasing_trivial_pre_omega) => `(tactic| (first | with_reducible apply Wp.w_seq | fail))
theorem mulOk_of {i j : Int} (a b : Nat) (h1 : i.natAbs.log2 < a) (h2 : j.natAbs.log2 < b) (h : a + b ≤ 1000000) : mulOk i j = true := by
  unfold mulOk
  exact decide_eq_true (by omega)
theorem toNat_lt {x : Int} {n : Nat} (h : 0 < n) : (x % (n : Int)).toNat < n ∧ ((x % (n : Int)).toNat : Int) = x % (n : Int) := by
  have h1 := Int.emod_nonneg x (show (n : Int) ≠ 0 by omega)
  have h2 := Int.emod_lt_of_pos x (show (0 : Int) < n by omega)
  omega
theorem log2_le_bits {i : Int} : i.natAbs.log2 ≤ Builtin.Int.intBits i := by
  unfold Builtin.Int.intBits
  split
  · rename_i h
    simp at h
    subst h
    decide
  · omega
structure Dk where
  a : Int
  m : Int
  c : Nat
  h : 0 ≤ m ∧ m < 2 ^ 100
def dkT (D : Dk) : List T := [.int D.a, .int D.m, .int (D.c : Int)]
def scT (ns : List Int) : T := .list (ns.map PyData.int)
theorem ix_sc (ns : List Int) (k : Nat) (h : k < ns.length) : gIx (scT ns) (nT k) = some (.r (.int ns[k])) :=
  gIx_l (by rw [List.getElem?_map, List.getElem?_eq_getElem h]; rfl)
theorem stock_end (ns : List Int) (k : Nat) (hk : k < 1000) (x : Int) (hx : x.natAbs.log2 < 90000000) (Q : Od → En → Prop) (q : ∀ D : Dk, D.c = 0 → Q (.b (.l (dkT D))) [.v (scT ns), .v (nT k)]) :
    W ((sSeq (sSet 3 (eIf (tb (eOp2 gGe (eVar 2) (eOp2 gPow (eK (.int 10)) (eK (.int 18))))) (eOp2 gSub (eVar 2) (eOp2 gPow (eK (.int 10)) (eK (.int 18)))) (eK (.int 0)))) (sRet (eLst (aCons (eVar 3) (aCons (eOp2 gMod (eFn gInt (aCons (eOp2 gAdd (eOp2 gAdd (eOp2 gMulX (eVar 2) (eK (.int 1299709))) (eOp2 gMulX (eVar 1) (eK (.int 15487469)))) (eK (.int 4241))) aNil)) (eOp2 gAdd (eOp2 gPow (eK (.int 10)) (eK (.int 28))) (eK (.int 331)))) (aCons (eK (.int 0)) aNil)))))) [.v (scT ns), .v (nT k), .v (.int x), .un]) (KFun [.v (scT ns), .v (nT k)] Q) := by
  have c3 : (1299709 : Int).natAbs.log2 < 64 := by decide
  have c4 : (15487469 : Int).natAbs.log2 < 64 := by decide
  have ck : ((k : Int)).natAbs.log2 < 64 := log2_small (by omega) (by decide)
  have m4 : ((k : Int)).natAbs.log2 + (15487469 : Int).natAbs.log2 < 100000000 := by omega
  have m3 : x.natAbs.log2 + (1299709 : Int).natAbs.log2 < 100000000 := by omega
  refine w_seq (w_set (w_imp (P := fun r e => ∃ y : Int, r = .r (.int y) ∧ e = [.v (scT ns), .v (nT k), .v (.int x), .un]) ?_ ?_))
  · repeat' decreasing_trivial_pre_omega
    refine kife_d (fun h => ?_) fun h => ?_
    · repeat' decreasing_trivial_pre_omega
      exact ⟨_, rfl, rfl⟩
    · repeat' decreasing_trivial_pre_omega
      exact ⟨_, rfl, rfl⟩
  · rintro _ _ ⟨y, rfl, rfl⟩
    repeat' decreasing_trivial_pre_omega
    have b1 : (0 : Int) ≤ (x * 1299709 + (k : Int) * 15487469 + 4241) % ((10 : Int) ^ Int.toNat 28 + 331) ∧ (x * 1299709 + (k : Int) * 15487469 + 4241) % ((10 : Int) ^ Int.toNat 28 + 331) < 2 ^ 100 := by
      have h1 := Int.emod_nonneg (x * 1299709 + (k : Int) * 15487469 + 4241) (show ((10 : Int) ^ Int.toNat 28 + 331) ≠ 0 by decide)
      have h2 := Int.emod_lt_of_pos (x * 1299709 + (k : Int) * 15487469 + 4241) (show 0 < ((10 : Int) ^ Int.toNat 28 + 331) by decide)
      exact ⟨h1, Int.lt_trans h2 (by decide)⟩
    exact q ⟨_, _, 0, b1⟩ rfl
theorem stock_w (ns : List Int) (hb : ∀ k ∈ ns, Builtin.Int.intBits k ≤ 1048576) (hn : ns.length ≤ 63) (k : Nat) (hk : k < 1000) : W (m__law_stock [.v (scT ns), .v (nT k)]) fun r e => ∃ D : Dk, D.c = 0 ∧ r = .b (.l (dkT D)) ∧ e = [.v (scT ns), .v (nT k)] := by
  have ck : ((k : Int)).natAbs.log2 < 64 := log2_small (by omega) (by decide)
  unfold m__law_stock
  (apply Wp.w_fun; (focus (rfl; done)); (focus (((try simp only [List.cons_append, List.nil_append, List.length_cons, List.length_nil, Nat.reduceAdd, Nat.reduceSub, Nat.zero_add, Nat.sub_zero, List.replicate_succ, List.replicate_zero, List.append_nil]); rfl); done)))
  unfold b__law_stock
  refine w_seq ?_
  refine w_set ?_
  refine w_imp (P := fun r e => ∃ x : Int, x.natAbs.log2 < 90000000 ∧ r = .r (.int x) ∧ e = [.v (scT ns), .v (nT k), .un, .un]) ?_ ?_
  · repeat' decreasing_trivial_pre_omega
    refine kife_d (fun h => ?_) fun h => ?_
    · rw [List.length_map] at h
      have hx := ix_sc ns k (by omega)
      have hbx := hb ns[k] (List.getElem_mem _)
      generalize ns[k] = x at hx hbx
      repeat' decreasing_trivial_pre_omega
      exact ⟨x, by have := log2_le_bits (i := x); omega, rfl, rfl⟩
    · have cl : (((ns.map PyData.int).length : Nat) : Int).natAbs.log2 < 64 := log2_small (by rw [List.length_map]; omega) (by decide)
      have c1 : (5003 : Int).natAbs.log2 < 64 := by decide
      have c2 : (271 : Int).natAbs.log2 < 64 := by decide
      have m1 : (5003 : Int).natAbs.log2 + ((k : Int)).natAbs.log2 < 100000000 := by omega
      have m2 : (271 : Int).natAbs.log2 + (((ns.map PyData.int).length : Nat) : Int).natAbs.log2 < 100000000 := by omega
      repeat' decreasing_trivial_pre_omega
      refine ⟨_, ?_, rfl, rfl⟩
      have : (5003 * (k : Int) + 271 * ((ns.map PyData.int).length : Int) + 11).natAbs.log2 < 100 := log2_small (by rw [List.length_map]; omega) (by decide)
      omega
  · rintro _ _ ⟨x, hx, rfl, rfl⟩
    refine kset_r rfl (kseq_nx_n (e2 := [.v (scT ns), .v (nT k), .v (.int x), .un]) rfl ?_)
    refine stock_end ns k hk x hx _ ?_
    exact fun D hD => ⟨D, hD, rfl, rfl⟩
theorem pick_w (D : Dk) (n : Nat) (h : 0 < n) (hn : n < 2 ^ 200) (hc : D.c < 10 ^ 9) :
    W (m__law_pick [.ow true (.l (dkT D)), .v (nT n)]) fun r e => ∃ (v : Nat) (D' : Dk), v < n ∧ D'.c ≤ D.c + 1 ∧ r = .r (nT v) ∧ e = [.ow true (.l (dkT D')), .v (nT n)] := by
  have hp : (0 : Int) < (n : Int) := by omega
  have hl : (n : Int).natAbs.log2 < 9000 := by
    have : (n : Int).natAbs.log2 < 200 := log2_small (by simpa using hn) (by decide)
    omega
  unfold m__law_pick
  (apply Wp.w_fun; (focus (rfl; done)); (focus (((try simp only [List.cons_append, List.nil_append, List.length_cons, List.length_nil, Nat.reduceAdd, Nat.reduceSub, Nat.zero_add, Nat.sub_zero, List.replicate_succ, List.replicate_zero, List.append_nil]); rfl); done)))
  unfold b__law_pick
  repeat' decreasing_trivial_pre_omega
  refine kif_d (fun ha => ?_) fun ha => ?_
  · repeat' decreasing_trivial_pre_omega
    obtain ⟨q1, q2⟩ := toNat_lt (x := D.a) h
    refine ⟨(D.a % (n : Int)).toNat, ⟨D.a / (n : Int), D.m, D.c, D.h⟩, q1, by simp, ?_, rfl⟩
    unfold nT
    rw [q2]
  · have m1 : mulOk 7368787 ((D.c : Int) + 1) = true := mulOk_of 64 64 (log2_small (by decide) (by decide)) (log2_small (by omega) (by decide)) (by decide)
    have m2 : mulOk 15485863 ((D.c : Int) + 1) = true := mulOk_of 64 64 (log2_small (by decide) (by decide)) (log2_small (by omega) (by decide)) (by decide)
    have m3 : mulOk (15485863 * ((D.c : Int) + 1)) ((D.c : Int) + 1) = true := mulOk_of 100 64 (log2_small (by omega) (by decide)) (log2_small (by omega) (by decide)) (by decide)
    have hm := D.h
    have p1 : (0 : Int) ≤ 3 ∧ (3 : Int) ≤ 100 ∧ (D.m + 7368787 * ((D.c : Int) + 1)).natAbs.log2 < 1000000 := ⟨by decide, by decide, by
      have := log2_small (i := D.m + 7368787 * ((D.c : Int) + 1)) (k := 201) (by omega) (by decide)
      omega⟩
    repeat' decreasing_trivial_pre_omega
    have b1 : (0 : Int) ≤ (D.m + 7368787 * ((D.c : Int) + 1)) ^ Int.toNat 3 % ((10 : Int) ^ Int.toNat 27 + 103) ∧ (D.m + 7368787 * ((D.c : Int) + 1)) ^ Int.toNat 3 % ((10 : Int) ^ Int.toNat 27 + 103) < 2 ^ 100 := ⟨Int.emod_nonneg _ (by decide), Int.lt_trans (Int.emod_lt_of_pos _ (by decide)) (by decide)⟩
    generalize (D.m + 7368787 * ((D.c : Int) + 1)) ^ Int.toNat 3 % ((10 : Int) ^ Int.toNat 27 + 103) = x at b1
    have hq : (0 : Int) ≤ 15485863 * ((D.c : Int) + 1) * ((D.c : Int) + 1) ∧ 15485863 * ((D.c : Int) + 1) * ((D.c : Int) + 1) ≤ 15485863 * 1000000001 * 1000000001 := by
      have h1 : (0 : Int) ≤ 15485863 * ((D.c : Int) + 1) := by omega
      have h2 : 15485863 * ((D.c : Int) + 1) ≤ 15485863 * 1000000001 := by omega
      exact ⟨Int.mul_nonneg h1 (by omega), Int.mul_le_mul h2 (by omega) (by omega) (by omega)⟩
    generalize 15485863 * ((D.c : Int) + 1) * ((D.c : Int) + 1) = z at hq
    have p2 : (0 : Int) ≤ 2 ∧ (2 : Int) ≤ 100 ∧ (x + z).natAbs.log2 < 1000000 := ⟨by decide, by decide, by
      have := log2_small (i := x + z) (k := 101) (by omega) (by decide)
      omega⟩
    have d6 : (0 : Int) < 65536 := by decide
    have l6 : (65536 : Int).natAbs.log2 < 9000 := by decide
    repeat' decreasing_trivial_pre_omega
    obtain ⟨q1, q2⟩ := toNat_lt (x := (x + z) ^ Int.toNat 2 % ((10 : Int) ^ Int.toNat 26 + 67) / 65536) h
    refine ⟨_, ⟨D.a, D.m, D.c + 1, D.h⟩, q1, Nat.le_refl _, ?_, rfl⟩
    unfold nT
    rw [q2]

set_option linter.all false
set_option maxRecDepth 100000
set_option maxHeartbeats 4000000
open PySem PySem.Spec Ev Pu Mt Wp
inductive Sh : Nat → T → Prop
  | non (n : Nat) : Sh n .none
  | bl (n : Nat) (b : Bool) : Sh n (.bool b)
  | int (n : Nat) (i : Int) : Sh n (.int i)
  | str (n : Nat) {x : Str} : PyData.strOk x = true → Sh n (.str x)
  | tup {n : Nat} {xs : List T} : (∀ x ∈ xs, Sh n x) → Sh (n + 1) (.tuple xs)
  | lst {n : Nat} {xs : List T} : (∀ x ∈ xs, Sh n x) → Sh (n + 1) (.list xs)
theorem Sh.lay {n : Nat} {t : T} (h : Sh n t) : PyData.canLay0 t = true ∧ PyData.depth t ≤ n := by
  induction h with
  | non n => exact ⟨rfl, Nat.zero_le _⟩
  | bl n b => exact ⟨rfl, Nat.zero_le _⟩
  | int n i => exact ⟨rfl, Nat.zero_le _⟩
  | str n h => exact ⟨h, Nat.zero_le _⟩
  | tup h ih => exact ⟨by rw [PyData.canLay0]; exact layAll fun x hx => (ih x hx).1, by rw [PyData.depth]; exact Nat.succ_le_succ (depAll fun x hx => (ih x hx).2)⟩
  | lst h ih => exact ⟨by rw [PyData.canLay0]; exact layAll fun x hx => (ih x hx).1, by rw [PyData.depth]; exact Nat.succ_le_succ (depAll fun x hx => (ih x hx).2)⟩
theorem Sh.shaped {n : Nat} {t : T} (h : Sh n t) (hn : n ≤ 64) : SeqAt.shaped t = true := by
  unfold SeqAt.shaped
  rw [h.lay.1, Bool.true_and]
  exact decide_eq_true (Nat.le_trans h.lay.2 hn)
theorem gEq_nl (k : Bool → Bool) {n : Nat} (hn : n ≤ 60) {xs : List T} (h : ∀ x ∈ xs, Sh n x) : gEq k (.list xs) (.list []) = some (.r (.bool (k xs.isEmpty))) := by
  show (if (SeqAt.shaped (.list xs) && SeqAt.shaped (.list [])) = true then some (Od.r (.bool (k (PyData.eqv (.list xs) (.list []))))) else none) = _
  rw [(Sh.lst h).shaped (by omega), show SeqAt.shaped (.list []) = true from rfl]
  cases xs <;> rfl
theorem gEq_tl (k : Bool → Bool) {n : Nat} (hn : n ≤ 60) {xs : List T} (h : ∀ x ∈ xs, Sh n x) : gEq k (.tuple xs) (.tuple []) = some (.r (.bool (k xs.isEmpty))) := by
  show (if (SeqAt.shaped (.tuple xs) && SeqAt.shaped (.tuple [])) = true then some (Od.r (.bool (k (PyData.eqv (.tuple xs) (.tuple []))))) else none) = _
  rw [(Sh.tup h).shaped (by omega), show SeqAt.shaped (.tuple []) = true from rfl]
  cases xs <;> rfl
theorem sh_cT (n : Nat) (c : Int × Int) : Sh (n + 1) (cT c) := .tup fun x hx => by
  simp only [List.mem_cons, List.not_mem_nil, or_false] at hx
  rcases hx with rfl | rfl
  · exact .int n _
  · exact .int n _
def rot (w : Int) : Nat → Int × Int → Int × Int
  | 0, c => c
  | k + 1, c => pz1 w (rot w k c)
theorem rot_pz (w : Int) (way mir : Nat) (h : way < 4) (c : Int × Int) (h2 : mir < 2) : pz w way mir c = if mir = 1 then ((rot w way c).2, (rot w way c).1) else rot w way c := by
  have hw : way = 0 ∨ way = 1 ∨ way = 2 ∨ way = 3 := by omega
  have hm : mir = 0 ∨ mir = 1 := by omega
  rcases hw with rfl | rfl | rfl | rfl <;> rcases hm with rfl | rfl <;> rfl
theorem gPop_ok {ts : List T} {k : Nat} {x : T} (h : ts[k]? = some x) (hl : ts.length ≤ 100000) : gPop ts [.int (k : Int)] = some (ts.eraseIdx k, x) := by
  have hk := (List.getElem?_eq_some_iff.mp h).1
  unfold gPop
  have e : seqIndex? (k : Int) ts.length = some k := by
    unfold seqIndex?
    have h1 : ¬ (k : Int) < 0 := by omega
    simp only [h1, if_false]
    rw [if_pos (by simp; omega)]
    simp
  simp only [e, h]
  rw [if_pos ⟨by omega, by omega⟩]
theorem pop_perm {α : Type} : ∀ {ts : List α} {k : Nat} {x : α}, ts[k]? = some x → (x :: ts.eraseIdx k).Perm ts
  | [], k, x, h => by simp at h
  | t :: ts, 0, x, h => by
    simp at h; subst h; simp
  | t :: ts, k + 1, x, h => by
    rw [List.eraseIdx_cons_succ]
    exact (List.Perm.swap _ _ _).trans ((pop_perm (by simpa using h)).cons t)
theorem erase_map {α β : Type} (f : α → β) : ∀ (xs : List α) (k : Nat), (xs.map f).eraseIdx k = (xs.eraseIdx k).map f
  | [], k => by simp
  | x :: xs, 0 => rfl
  | x :: xs, k + 1 => by
    rw [List.map_cons, List.eraseIdx_cons_succ, List.eraseIdx_cons_succ, List.map_cons, erase_map f xs k]
theorem posed_w (b x y : Int) (way mir : Nat) (h : way < 4) (h2 : mir < 2) : W (m__law_posed [.v (.int b), .v (.int x), .v (.int y), .v (.tuple [nT way, nT mir])]) fun r e => r = .r (cT (pz b way mir (x, y))) ∧ e = [.v (.int b), .v (.int x), .v (.int y), .v (.tuple [nT way, nT mir])] := by
  have g0 : gIx (.tuple [nT way, nT mir]) (.int 0) = some (.r (nT way)) := rfl
  have g1 : gIx (.tuple [nT way, nT mir]) (.int 1) = some (.r (nT mir)) := rfl
  unfold m__law_posed
  (apply Wp.w_fun; (focus (rfl; done)); (focus (((try simp only [List.cons_append, List.nil_append, List.length_cons, List.length_nil, Nat.reduceAdd, Nat.reduceSub, Nat.zero_add, Nat.sub_zero, List.replicate_succ, List.replicate_zero, List.append_nil]); rfl); done)))
  unfold b__law_posed l1__law_posed
  repeat' decreasing_trivial_pre_omega
  refine kr1 (n := way) rfl (by omega) (for_below (fun k e => ∃ l4, lentS l4 = false ∧ e = [.v (.int b), .v (.int (rot b k (x, y)).1), .v (.int (rot b k (x, y)).2), .v (.tuple [nT way, nT mir]), l4]) ⟨.un, rfl, rfl⟩ ?_ ?_)
  · rintro k hk e ⟨l4, a4, rfl⟩
    refine ⟨_, gN_ok (by first | rfl | exact Wp.isLent_of rfl (by assumption)) rfl, ?_⟩
    unfold y1__law_posed
    repeat' decreasing_trivial_pre_omega
    exact ⟨_, rfl, rfl⟩
  · rintro e ⟨l4, a4, rfl⟩
    rw [rot_pz b way mir h (x, y) h2]
    repeat' decreasing_trivial_pre_omega
    refine kife_d (fun hm => ?_) fun hm => ?_
    · rw [if_pos (by omega)]
      repeat' decreasing_trivial_pre_omega
      exact ⟨rfl, rfl⟩
    · rw [if_neg (by omega)]
      repeat' decreasing_trivial_pre_omega
      exact ⟨rfl, rfl⟩
/-! ### places -/
def colP (B : Nat) : Nat → List (Int × Int)
  | 0 => []
  | k + 1 => colP B k ++ (List.range B).map fun (y : Nat) => ((k : Int), (y : Int))
theorem col_ok {B : Nat} (h : B = 2 ∨ B = 3) : PlOk B (colP B B) := by
  rcases h with rfl | rfl <;> exact ⟨by decide, by decide, by decide⟩
theorem col_len (B : Nat) (hB : B ≤ 3) : ∀ k, k ≤ B → (colP B k).length ≤ 3 * k
  | 0, _ => Nat.le_refl _
  | k + 1, h => by
    have := col_len B hB k (by omega)
    rw [colP, List.length_append, List.length_map, List.length_range]
    omega
theorem places_of_w (D : Dk) {B : Nat} (hB : B = 2 ∨ B = 3) (hc : D.c + 20 ≤ 10 ^ 9) : W (m__law_places [.ow true (.l (dkT D)), .v (nT B)]) fun r e => ∃ (D' : Dk) (ps : List (Int × Int)), D'.c ≤ D.c + 9 ∧ PlOk B ps ∧ r = .b (.l (ps.map cT)) ∧ e = [.ow true (.l (dkT D')), .v (nT B)] := by
  have hB3 : 2 ≤ B ∧ B ≤ 3 := by omega
  unfold m__law_places
  (apply Wp.w_fun; (focus (rfl; done)); (focus (((try simp only [List.cons_append, List.nil_append, List.length_cons, List.length_nil, Nat.reduceAdd, Nat.reduceSub, Nat.zero_add, Nat.sub_zero, List.replicate_succ, List.replicate_zero, List.append_nil]); rfl); done)))
  unfold b__law_places l1__law_places
  repeat' decreasing_trivial_pre_omega
  refine kr1 (n := B) rfl (by omega) (for_below (fun k e => ∃ s4, lentS s4 = false ∧ e = [.ow true (.l (dkT D)), .v (nT B), .ow false (.l ((colP B k).map cT)), .ow false (.l []), s4, .un]) ⟨.un, rfl, rfl⟩ ?_ ?_)
  · rintro k hk e ⟨s4, a4, rfl⟩
    refine ⟨_, gN_ok (by first | rfl | exact Wp.isLent_of rfl (by assumption)) rfl, ?_⟩
    have cl := col_len B hB3.2 k (by omega)
    unfold y1__law_places x1__law_places
    repeat' decreasing_trivial_pre_omega
    refine kr1 (n := B) rfl (by omega) ?_
    unfold below
    refine comp_map_w (fun (y : Nat) => PyData.int (y : Int)) (fun y => cT ((k : Int), (y : Int))) (List.range B) (by rw [List.length_range]; unfold sizeLine; omega) (fun y hy => ⟨_, rfl, ?_⟩) ?_
    · repeat' decreasing_trivial_pre_omega
      exact ⟨rfl, rfl⟩
    · have fit : ((colP B k).map cT).length + ((List.range B).map fun (y : Nat) => cT ((k : Int), (y : Int))).length ≤ sizeLine := by rw [List.length_map, List.length_map, List.length_range]; unfold sizeLine; omega
      repeat' decreasing_trivial_pre_omega
      refine ⟨.v (nT k), rfl, ?_⟩
      rw [colP, List.map_append, List.map_map]
      rfl
  · rintro e ⟨s4, a4, rfl⟩
    have ok := col_ok hB
    have hlen := ok.len
    have hBB : B * B ≤ 9 := by rcases hB with h | h <;> rw [h] <;> decide
    generalize colP B B = xs at ok hlen
    refine kseq_nx ?_
    refine w_seq ?_
    unfold w1__law_places
    refine w_while2 (fun n e => ∃ (D' : Dk) (rest found : List (Int × Int)), n = rest.length ∧ D'.c + rest.length ≤ D.c + xs.length ∧ (found ++ rest).Perm xs ∧ e = [.ow true (.l (dkT D')), .v (nT B), .ow false (.l (rest.map cT)), .ow false (.l (found.map cT)), s4, .un]) xs.length ⟨D, xs, [], rfl, by omega, by simp, rfl⟩ ?_
    rintro n e ⟨D', rest, found, rfl, h1, h2, rfl⟩
    have g := gEq_nl not (n := 1) (by decide) (xs := rest.map cT) (fun x hx => by obtain ⟨c, _, rfl⟩ := List.mem_map.mp hx; exact sh_cT 0 c)
    rw [show (rest.map cT).isEmpty = rest.isEmpty from by cases rest <;> rfl] at g
    have hl2 := h2.length_eq
    rw [List.length_append] at hl2
    repeat' decreasing_trivial_pre_omega
    cases rest with
    | nil =>
      refine kwh_f rfl ?_
      rw [List.append_nil] at h2
      repeat' decreasing_trivial_pre_omega
      exact ⟨D', found, by omega, ok.perm h2, rfl, rfl⟩
    | cons c rest =>
      refine kwh_t rfl (by simp) ?_
      have hml : ((c :: rest).map cT).length = rest.length + 1 := by rw [List.length_map]; rfl
      unfold y2__law_places
      repeat' decreasing_trivial_pre_omega
      rw [hml]
      refine w_imp (pick_w D' (rest.length + 1) (by omega) (by simp only [List.length_cons] at hl2; omega) (by simp only [List.length_cons] at h1; omega)) ?_
      rintro _ _ ⟨v, D2, hv, hc2, rfl, rfl⟩
      have hx : ((c :: rest).map cT)[v]? = some (cT ((c :: rest)[v]'(by simpa using hv))) := by rw [List.getElem?_map, List.getElem?_eq_getElem (by simpa using hv)]; rfl
      have hp := gPop_ok hx (by rw [hml]; simp only [List.length_cons] at hl2; omega)
      rw [erase_map] at hp
      have hpm := pop_perm (List.getElem?_eq_getElem (show v < (c :: rest).length by simpa using hv))
      have ha : (found.map cT).length < sizeLine := by rw [List.length_map]; simp only [List.length_cons] at hl2; unfold sizeLine; omega
      generalize (c :: rest)[v]'(by simpa using hv) = x at hp hpm
      have hel : ((c :: rest).eraseIdx v).length = rest.length := by rw [List.length_eraseIdx_of_lt (by simpa using hv)]; simp
      repeat' decreasing_trivial_pre_omega
      refine ⟨rest.length, by simp, D2, (c :: rest).eraseIdx v, found ++ [x], by rw [hel], by rw [hel]; simp only [List.length_cons] at h1; omega, ?_, by rw [List.map_append]; rfl⟩
      refine List.Perm.trans ?_ h2
      rw [List.append_assoc]
      exact List.Perm.append_left _ hpm

set_option linter.all false
set_option maxRecDepth 100000
set_option maxHeartbeats 4000000
open PySem PySem.Spec Ev Pu Mt Wp
/-! ### books that go on -/
def rows2 : List (List Pt) := [[(0, 0, 1), (0, 1, 0), (1, 1, 0), (1, 0, 2)], [(0, 0, 0), (1, 0, 1), (1, 1, 1), (0, 1, 3)], [(1, 1, 3), (0, 1, 2), (0, 0, 2), (1, 0, 0)], [(1, 1, 2), (1, 0, 3), (0, 0, 3), (0, 1, 1)]]
theorem rows2_ok : ∀ r ∈ rows2, RowOk 2 4 r := by
  intro r hr
  simp only [rows2, List.mem_cons, List.not_mem_nil, or_false] at hr
  rcases hr with rfl | rfl | rfl | rfl <;> exact ⟨by decide, by decide, by decide⟩
def cup9 : List (Int × Int) := [(0, 0), (0, 1), (0, 2), (1, 2), (1, 1), (1, 0), (2, 0), (2, 1), (2, 2)]
def gzx (k : Nat) (c : Int × Int) : Int := if (k : Int) / 2 = 1 then 2 - c.1 else c.1
def gzy (k : Nat) (c : Int × Int) : Int := if (k : Int) % 2 = 1 then 2 - c.2 else c.2
def gzp (k : Nat) (c : Int × Int) : Int := 2 * (((k : Int) / 2 + c.2) % 2) + ((k : Int) % 2 + c.1) % 2
def gz (k : Nat) (c : Int × Int) : T := .tuple [.int (gzx k c), .int (gzy k c), .int (gzp k c)]
def row3 (k : Nat) : List Pt := cup9.map fun c => (gzx k c, gzy k c, (gzp k c).toNat)
theorem row3_t (k : Nat) (hk : k < 4) : PyData.tuple (cup9.map (gz k)) = kT (row3 k) := by
  have : k = 0 ∨ k = 1 ∨ k = 2 ∨ k = 3 := by omega
  rcases this with rfl | rfl | rfl | rfl <;> rfl
theorem row3_ok (k : Nat) (hk : k < 4) : RowOk 3 4 (row3 k) := by
  have : k = 0 ∨ k = 1 ∨ k = 2 ∨ k = 3 := by omega
  rcases this with rfl | rfl | rfl | rfl <;> exact ⟨by decide, by decide, by decide⟩
theorem row_perm {B n : Nat} {r s : List Pt} (h : RowOk B n r) (p : s.Perm r) : RowOk B n s := ⟨by rw [p.length_eq]; exact h.len, fun x hx => h.rng x (p.mem_iff.mp hx), (p.map _).nodup_iff.mpr h.nod⟩
/-- a row in a posture, its parts' kinds named anew -/
def newP (B : Nat) (way mir : Nat) (nm : Nat → Nat) (p : Pt) : Pt := ((pz (B : Int) way mir (p.1, p.2.1)).1, (pz (B : Int) way mir (p.1, p.2.1)).2, nm p.2.2)
theorem new_ok {B n : Nat} {r : List Pt} (h : RowOk B n r) {way mir : Nat} (h1 : way < 4) (h2 : mir < 2) {nm : Nat → Nat} (hn : ∀ k, k < n → nm k < n) : RowOk B n (r.map (newP B way mir nm)) := by
  have pl : PlOk B (r.map fun p => (p.1, p.2.1)) := ⟨by rw [List.length_map]; exact h.len, h.nod, fun c hc => by
    obtain ⟨p, hp, rfl⟩ := List.mem_map.mp hc
    have := h.rng p hp
    exact ⟨this.1, this.2.1⟩⟩
  refine row_of (pz_pl pl h1 h2) ?_ fun p hp => ?_
  · rw [List.map_map, List.map_map]
    rfl
  · obtain ⟨q, hq, rfl⟩ := List.mem_map.mp hp
    exact hn _ (h.rng q hq).2.2
theorem names_at {ns : List Nat} (h : ns.Perm [0, 1, 2, 3]) {k : Nat} (hk : k < 4) : ∃ v, ns[k]? = some v ∧ v < 4 := by
  have hl := h.length_eq
  have hk2 : k < ns.length := by rw [hl]; exact hk
  refine ⟨ns[k], List.getElem?_eq_getElem hk2, ?_⟩
  have := h.mem_iff.mp (List.getElem_mem hk2)
  simp only [List.mem_cons, List.not_mem_nil, or_false] at this
  omega
def oT : Option (List Pt) → T
  | none => .tuple []
  | some r => kT r
theorem all_some {ns : List Nat} (h : ns.Perm [0, 1, 2, 3]) {fs : List (Option (List Pt))} (hl : fs.length = 4) (hs : ∀ j, j < 4 → ∃ v r, ns[j]? = some v ∧ fs[v]? = some (some r)) : ∃ rs : List (List Pt), fs = rs.map some := by
  have key : ∀ o ∈ fs, ∃ r, o = some r := by
    intro o ho
    obtain ⟨v, hv, rfl⟩ := List.getElem_of_mem ho
    have hm : v ∈ ns := h.mem_iff.mpr (by simp only [List.mem_cons, List.not_mem_nil, or_false]; omega)
    obtain ⟨j, hj, e⟩ := List.getElem_of_mem hm
    have hj4 : j < 4 := by have := h.length_eq; simp at this; omega
    obtain ⟨w, r, e1, e2⟩ := hs j hj4
    rw [List.getElem?_eq_getElem hj] at e1
    cases e1
    rw [e, List.getElem?_eq_getElem hv] at e2
    exact ⟨r, Option.some.inj e2⟩
  clear hs hl
  induction fs with
  | nil => exact ⟨[], rfl⟩
  | cons o fs ih =>
    obtain ⟨r, rfl⟩ := key o List.mem_cons_self
    obtain ⟨rs, e⟩ := ih fun o ho => key o (List.mem_cons_of_mem _ ho)
    exact ⟨r :: rs, by rw [e]; rfl⟩
/-- the end: kinds in a posture, named anew -/
theorem going_end (D : Dk) {B : Nat} (hB : B = 2 ∨ B = 3) {rs : List (List Pt)} (hl : rs.length = 4) (hr : ∀ r ∈ rs, RowOk B 4 r) (hc : D.c + 20 ≤ 10 ^ 9) (s3 s4 s5 s6 s7 s8 s9 : Sl) (a4 : lentS s4 = false) (a5 : lentS s5 = false) (a6 : lentS s6 = false) (a9 : lentS s9 = false) (D0 : Dk) (Q : Od → En → Prop)
    (q : ∀ (D' : Dk) (ks : List (List Pt)), D'.c ≤ D.c + 7 → ks.length = 4 → (∀ r ∈ ks, RowOk B 4 r) → Q (.r (.tuple [nT B, .tuple (ks.map kT)])) [.ow true (.l (dkT D'))]) :
    W ((sSeq (sPar [10, 11] (aCons (eTup (aCons (eCall 2 m__law_pick (aCons (eVar 0) (aCons (eK (.int 4)) aNil))) (aCons (eCall 2 m__law_pick (aCons (eVar 0) (aCons (eK (.int 2)) aNil))) aNil))) (aCons (eCall 2 m__law_pick (aCons (eVar 0) (aCons (eK (.int 2)) aNil))) aNil))) (sSeq (sPar [12, 13] (aCons (eLst (aCons (eK (.int 0)) (aCons (eK (.int 1)) (aCons (eK (.int 2)) (aCons (eK (.int 3)) aNil))))) (aCons (eLst aNil) aNil))) (sSeq w1__law_going (sSeq (sSet 14 (eRep (eLst (aCons (eTup aNil) aNil)) (eK (.int 4)))) (sSeq l3__law_going (sRet (eTup (aCons (eVar 1) (aCons (eFn gTuple (aCons (eVar 14) aNil)) aNil))))))))) [.ow true (.l (dkT D)), .v (nT B), .ow false (.l (rs.map kT)), s3, s4, s5, s6, s7, s8, s9, .un, .un, .un, .un, .un, .un]) (KFun [.ow true (.l (dkT D0))] Q) := by
  have hB3 : 2 ≤ B ∧ B ≤ 3 := by omega
  repeat' decreasing_trivial_pre_omega
  refine w_imp (pick_w D 4 (by decide) (by decide) (by omega)) ?_
  rintro _ _ ⟨way, D1, hway, hc1, rfl, rfl⟩
  repeat' decreasing_trivial_pre_omega
  refine w_imp (pick_w D1 2 (by decide) (by decide) (by omega)) ?_
  rintro _ _ ⟨mir, D2, hmir, hc2, rfl, rfl⟩
  repeat' decreasing_trivial_pre_omega
  refine w_imp (pick_w D2 2 (by decide) (by decide) (by omega)) ?_
  rintro _ _ ⟨back, D3, hback, hc3, rfl, rfl⟩
  repeat' decreasing_trivial_pre_omega
  unfold w1__law_going
  refine w_while2 (fun n e => ∃ (D' : Dk) (rest found : List Nat), n = rest.length ∧ D'.c + rest.length ≤ D3.c + 4 ∧ (found ++ rest).Perm [0, 1, 2, 3] ∧ e = [.ow true (.l (dkT D')), .v (nT B), .ow false (.l (rs.map kT)), s3, s4, s5, s6, s7, s8, s9, .v (.tuple [nT way, nT mir]), .v (nT back), .ow false (.l (rest.map nT)), .ow false (.l (found.map nT)), .un, .un]) 4 ⟨D3, [0, 1, 2, 3], [], rfl, Nat.le_refl _, List.Perm.refl _, rfl⟩ ?_
  rintro n e ⟨D', rest, found, rfl, h1, h2, rfl⟩
  have g := gEq_nl not (n := 1) (by decide) (xs := rest.map nT) (fun x hx => by obtain ⟨c, _, rfl⟩ := List.mem_map.mp hx; exact .int 1 _)
  rw [show (rest.map nT).isEmpty = rest.isEmpty from by cases rest <;> rfl] at g
  have hl2 := h2.length_eq
  rw [List.length_append] at hl2
  have hl2 : found.length + rest.length = 4 := hl2
  repeat' decreasing_trivial_pre_omega
  cases rest with
  | cons c rest =>
    refine kwh_t rfl (by simp) ?_
    have hml : ((c :: rest).map nT).length = rest.length + 1 := by rw [List.length_map]; rfl
    simp only [List.length_cons] at hl2 h1
    unfold y3__law_going
    repeat' decreasing_trivial_pre_omega
    rw [hml]
    refine w_imp (pick_w D' (rest.length + 1) (by omega) (by omega) (by omega)) ?_
    rintro _ _ ⟨v, D2', hv, hc2', rfl, rfl⟩
    have hx : ((c :: rest).map nT)[v]? = some (nT ((c :: rest)[v]'(by simpa using hv))) := by rw [List.getElem?_map, List.getElem?_eq_getElem (by simpa using hv)]; rfl
    have hp := gPop_ok hx (by rw [hml]; omega)
    rw [erase_map] at hp
    have hpm := pop_perm (List.getElem?_eq_getElem (show v < (c :: rest).length by simpa using hv))
    have ha : (found.map nT).length < sizeLine := by rw [List.length_map]; unfold sizeLine; omega
    generalize (c :: rest)[v]'(by simpa using hv) = x at hp hpm
    have hel : ((c :: rest).eraseIdx v).length = rest.length := by rw [List.length_eraseIdx_of_lt (by simpa using hv)]; simp
    repeat' decreasing_trivial_pre_omega
    refine ⟨rest.length, by simp, D2', (c :: rest).eraseIdx v, found ++ [x], by rw [hel], by rw [hel]; omega, ?_, by rw [List.map_append]; rfl⟩
    refine List.Perm.trans ?_ h2
    rw [List.append_assoc]
    exact List.Perm.append_left _ hpm
  | nil =>
    refine kwh_f rfl ?_
    rw [List.append_nil] at h2
    clear g
    repeat' decreasing_trivial_pre_omega
    refine krep2 4 rfl (by decide) (by decide) ?_
    unfold l3__law_going
    repeat' decreasing_trivial_pre_omega
    refine kr1 (n := 4) rfl (by decide) (for_below (fun k e => ∃ (fs : List (Option (List Pt))) (s4 s5 s6 s9 s15 : Sl), (lentS s4 = false ∧ lentS s5 = false ∧ lentS s6 = false ∧ lentS s9 = false ∧ lentS s15 = false) ∧ fs.length = 4 ∧ (∀ j, j < k → ∃ v r, found[j]? = some v ∧ fs[v]? = some (some r)) ∧ (∀ r, some r ∈ fs → RowOk B 4 r) ∧ e = [.ow true (.l (dkT D')), .v (nT B), .ow false (.l (rs.map kT)), s3, s4, s5, s6, s7, s8, s9, .v (.tuple [nT way, nT mir]), .v (nT back), .ow false (.l (([] : List Nat).map nT)), .ow false (.l (found.map nT)), .ow false (.l (fs.map oT)), s15]) ⟨[none, none, none, none], s4, s5, s6, s9, .un, ⟨a4, a5, a6, a9, rfl⟩, rfl, fun j hj => by omega, by simp, rfl⟩ ?_ ?_)
    · rintro k hk e ⟨fs, s4, s5, s6, s9, s15, ⟨a4, a5, a6, a9, a15⟩, f1, f2, f3, rfl⟩
      refine ⟨_, gN_ok (by first | rfl | exact Wp.isLent_of rfl (by assumption)) rfl, ?_⟩
      obtain ⟨v, nv, hv⟩ := names_at h2 hk
      have hk2 : k < rs.length := by rw [hl]; exact hk
      have gk : gIx (.list (rs.map kT)) (.int (k : Int)) = some (.r (.tuple ((rs[k]).map ptT))) := gIx_l (by rw [List.getElem?_map, List.getElem?_eq_getElem hk2]; rfl)
      have rk := hr _ (List.getElem_mem hk2)
      generalize rs[k] = row at gk rk
      have rl : row.length ≤ 9 := by rw [rk.len]; rcases hB with h | h <;> rw [h] <;> decide
      have gn : gIx (.list (found.map nT)) (.int (k : Int)) = some (.r (nT v)) := gIx_l (by rw [List.getElem?_map, nv]; rfl)
      have nk := new_ok rk hway hmir (nm := fun j => found.getD j 0) (fun j hj => by
        obtain ⟨w, e1, e2⟩ := names_at h2 hj
        rw [List.getD_eq_getElem?_getD, e1]
        exact e2)
      unfold y4__law_going x1__law_going
      repeat' decreasing_trivial_pre_omega
      refine comp_map_w ptT (fun p => ptT (newP B way mir (fun j => found.getD j 0) p)) row (by unfold sizeLine; omega) (fun p hp => ⟨_, rfl, ?_⟩) ?_
      · obtain ⟨w, e1, e2⟩ := names_at h2 (rk.rng p hp).2.2
        have gw : gIx (.list (found.map nT)) (.int (p.2.2 : Int)) = some (.r (nT w)) := gIx_l (by rw [List.getElem?_map, e1]; rfl)
        have ew : newP B way mir (fun j => found.getD j 0) p = ((pz (B : Int) way mir (p.1, p.2.1)).1, (pz (B : Int) way mir (p.1, p.2.1)).2, w) := by
          have e3 : found.getD p.2.2 0 = w := by rw [List.getD_eq_getElem?_getD, e1, Option.getD_some]
          show (_, _, found.getD p.2.2 0) = _
          rw [e3]
        rw [ew]
        clear gk gn
        repeat' decreasing_trivial_pre_omega
        refine w_imp (posed_w (B : Int) p.1 p.2.1 way mir hway hmir) ?_
        rintro _ _ ⟨rfl, rfl⟩
        generalize pz (B : Int) way mir (p.1, p.2.1) = c
        have fit : [PyData.int c.1, .int c.2].length + [nT w].length ≤ sizeLine := by unfold sizeLine; simp
        unfold cT
        repeat' decreasing_trivial_pre_omega
        exact ⟨rfl, rfl⟩
      · rw [show (row.map fun p => ptT (newP B way mir (fun j => found.getD j 0) p)) = (row.map (newP B way mir fun j => found.getD j 0)).map ptT by rw [List.map_map]; rfl]
        generalize row.map (newP B way mir fun j => found.getD j 0) = nr at nk
        have hvf : v < (fs.map oT).length := by rw [List.length_map, f1]; exact hv
        have fin : ∀ r : List Pt, RowOk B 4 r → ∀ s4 s5 s6 s9 s15 : Sl, (lentS s4 = false ∧ lentS s5 = false ∧ lentS s6 = false ∧ lentS s9 = false ∧ lentS s15 = false) → ∃ (fs' : List (Option (List Pt))) (t4 t5 t6 t9 t15 : Sl), (lentS t4 = false ∧ lentS t5 = false ∧ lentS t6 = false ∧ lentS t9 = false ∧ lentS t15 = false) ∧ fs'.length = 4 ∧ (∀ j, j < k + 1 → ∃ v r, found[j]? = some v ∧ fs'[v]? = some (some r)) ∧ (∀ r, some r ∈ fs' → RowOk B 4 r) ∧ [Sl.ow true (.l (dkT D')), .v (nT B), .ow false (.l (rs.map kT)), s3, s4, s5, s6, s7, s8, s9, .v (.tuple [nT way, nT mir]), .v (nT back), .ow false (.l (([] : List Nat).map nT)), .ow false (.l (found.map nT)), .ow false (.l ((fs.map oT).set v (.tuple (r.map ptT)))), s15] = [.ow true (.l (dkT D')), .v (nT B), .ow false (.l (rs.map kT)), s3, t4, t5, t6, s7, s8, t9, .v (.tuple [nT way, nT mir]), .v (nT back), .ow false (.l (([] : List Nat).map nT)), .ow false (.l (found.map nT)), .ow false (.l (fs'.map oT)), t15] := fun r ok t4 t5 t6 t9 t15 as => by
          refine ⟨fs.set v (some r), t4, t5, t6, t9, t15, as, by rw [List.length_set]; exact f1, fun j hj => ?_, fun z hz => ?_, by rw [List.map_set]; rfl⟩
          · by_cases ej : j = k
            · subst ej
              exact ⟨v, r, nv, List.getElem?_set_self (by rw [f1]; exact hv)⟩
            · obtain ⟨w, z, e1, e2⟩ := f2 j (by omega)
              by_cases ew : v = w
              · subst ew
                exact ⟨v, r, e1, List.getElem?_set_self (by rw [f1]; exact hv)⟩
              · exact ⟨w, z, e1, by rw [List.getElem?_set_ne ew]; exact e2⟩
          · rcases List.mem_or_eq_of_mem_set hz with hz | hz
            · exact f3 z hz
            · cases hz; exact ok
        repeat' decreasing_trivial_pre_omega
        refine kife_d (fun hb => ?_) fun hb => ?_
        · have okr := row_perm nk (List.reverse_perm nr)
          repeat' decreasing_trivial_pre_omega
          rw [← List.map_reverse]
          exact fin _ okr _ _ _ _ _ ⟨rfl, a5, a6, a9, rfl⟩
        · repeat' decreasing_trivial_pre_omega
          exact fin _ nk _ _ _ _ _ ⟨rfl, a5, a6, a9, rfl⟩
    · rintro e ⟨fs, s4, s5, s6, s9, s15, ⟨a4, a5, a6, a9, a15⟩, f1, f2, f3, rfl⟩
      obtain ⟨ks, rfl⟩ := all_some h2 f1 f2
      have hkl : ks.length = 4 := by rw [List.length_map] at f1; exact f1
      have hks : ∀ r ∈ ks, RowOk B 4 r := fun r hr => f3 r (List.mem_map_of_mem hr)
      rw [List.map_map, show (oT ∘ some) = kT from rfl]
      repeat' decreasing_trivial_pre_omega
      exact q D' ks (by simp at h1; omega) hkl hks

set_option linter.all false
set_option maxRecDepth 100000
set_option maxHeartbeats 4000000
open PySem PySem.Spec Ev Pu Mt Wp
theorem going_cell (D : Dk) (k : Nat) (hk : k < 4) (c : Int × Int) (hc : 0 ≤ c.1 ∧ c.1 ≤ 2 ∧ 0 ≤ c.2 ∧ c.2 ≤ 2) (xs acc : List T) (ha : acc.length < sizeLine) (s7 s8 s9 : Sl) (a7 : lentS s7 = false) (a8 : lentS s8 = false) (a9 : lentS s9 = false) :
    W (y1__law_going [.ow true (.l (dkT D)), .v (nT 3), .ow false (.l xs), .v (nT k), .ow false (.l acc), .v (.int c.1), .v (.int c.2), s7, s8, s9, .un, .un, .un, .un, .un, .un]) fun fl e => fl = .nx ∧ ∃ s7 s8 s9, (lentS s7 = false ∧ lentS s8 = false ∧ lentS s9 = false) ∧ e = [.ow true (.l (dkT D)), .v (nT 3), .ow false (.l xs), .v (nT k), .ow false (.l (acc ++ [gz k c])), .v (.int c.1), .v (.int c.2), s7, s8, s9, .un, .un, .un, .un, .un, .un] := by
  have d2 : (0 : Int) < 2 := by decide
  have l2 : (2 : Int).natAbs.log2 < 9000 := by decide
  have m2 : mulOk 2 (((k : Int) / 2 + c.2) % 2) = true := mulOk_of 64 64 (log2_small (by decide) (by decide)) (log2_small (by omega) (by decide)) (by decide)
  unfold y1__law_going
  repeat' decreasing_trivial_pre_omega
  unfold gz gzx gzy gzp
  refine kife_d (fun h1 => ?_) fun h1 => ?_
  · rw [if_pos h1]
    repeat' decreasing_trivial_pre_omega
    refine kife_d (fun h2 => ?_) fun h2 => ?_
    · rw [if_pos h2]
      repeat' decreasing_trivial_pre_omega
      exact ⟨rfl, _, _, _, ⟨rfl, rfl, rfl⟩, rfl⟩
    · rw [if_neg h2]
      repeat' decreasing_trivial_pre_omega
      exact ⟨rfl, _, _, _, ⟨rfl, rfl, rfl⟩, rfl⟩
  · rw [if_neg h1]
    repeat' decreasing_trivial_pre_omega
    refine kife_d (fun h2 => ?_) fun h2 => ?_
    · rw [if_pos h2]
      repeat' decreasing_trivial_pre_omega
      exact ⟨rfl, _, _, _, ⟨rfl, rfl, rfl⟩, rfl⟩
    · rw [if_neg h2]
      repeat' decreasing_trivial_pre_omega
      exact ⟨rfl, _, _, _, ⟨rfl, rfl, rfl⟩, rfl⟩
theorem cup9_rng : ∀ c ∈ cup9, 0 ≤ c.1 ∧ c.1 ≤ 2 ∧ 0 ≤ c.2 ∧ c.2 ≤ 2 := by decide
theorem going_w (D : Dk) (hc : D.c + 30 ≤ 10 ^ 9) : W (m__law_going [.ow true (.l (dkT D))]) fun r e => ∃ (D' : Dk) (B : Nat) (ks : List (List Pt)), D'.c ≤ D.c + 8 ∧ (B = 2 ∨ B = 3) ∧ ks.length = 4 ∧ (∀ r ∈ ks, RowOk B 4 r) ∧ r = .r (.tuple [nT B, .tuple (ks.map kT)]) ∧ e = [.ow true (.l (dkT D'))] := by
  have ed := fun (D2 : Dk) (hD : D2.c ≤ D.c + 1) (B : Nat) (hB : B = 2 ∨ B = 3) (rs : List (List Pt)) (hl : rs.length = 4) (hr : ∀ r ∈ rs, RowOk B 4 r) (s3 s4 s5 s6 s7 s8 s9 : Sl) (a4 : lentS s4 = false) (a5 : lentS s5 = false) (a6 : lentS s6 = false) (a9 : lentS s9 = false) =>
    going_end D2 hB hl hr (by omega) s3 s4 s5 s6 s7 s8 s9 a4 a5 a6 a9 D (fun r e => ∃ (D' : Dk) (B : Nat) (ks : List (List Pt)), D'.c ≤ D.c + 8 ∧ (B = 2 ∨ B = 3) ∧ ks.length = 4 ∧ (∀ r ∈ ks, RowOk B 4 r) ∧ r = .r (.tuple [nT B, .tuple (ks.map kT)]) ∧ e = [.ow true (.l (dkT D'))]) (fun D' ks h1 h2 h3 => ⟨D', B, ks, by omega, hB, h2, h3, rfl, rfl⟩)
  generalize (fun r e => ∃ (D' : Dk) (B : Nat) (ks : List (List Pt)), D'.c ≤ D.c + 8 ∧ (B = 2 ∨ B = 3) ∧ ks.length = 4 ∧ (∀ r ∈ ks, RowOk B 4 r) ∧ r = Od.r (.tuple [nT B, .tuple (ks.map kT)]) ∧ e = [Sl.ow true (.l (dkT D'))]) = QQ at *
  unfold m__law_going
  (apply Wp.w_fun; (focus (rfl; done)); (focus (((try simp only [List.cons_append, List.nil_append, List.length_cons, List.length_nil, Nat.reduceAdd, Nat.reduceSub, Nat.zero_add, Nat.sub_zero, List.replicate_succ, List.replicate_zero, List.append_nil]); rfl); done)))
  unfold b__law_going
  refine w_seq (w_imp (P := fun fl e => fl = .nx ∧ e = [.ow true (.l (dkT D)), .v (nT 2), .ow false (.l ((rows2.take 2).map kT)), .un, .un, .un, .un, .un, .un, .un, .un, .un, .un, .un, .un, .un]) ?_ ?_)
  · clear ed
    repeat' decreasing_trivial_pre_omega
    exact ⟨rfl, rfl⟩
  rintro _ _ ⟨rfl, rfl⟩
  refine kseq_nx ?_
  refine w_seq (w_imp (P := fun fl e => fl = .nx ∧ e = [.ow true (.l (dkT D)), .v (nT 2), .ow false (.l (rows2.map kT)), .un, .un, .un, .un, .un, .un, .un, .un, .un, .un, .un, .un, .un]) ?_ ?_)
  · clear ed
    have fit : ((rows2.take 2).map kT).length + ((rows2.drop 2).map kT).length ≤ sizeLine := by unfold sizeLine; decide
    generalize hA : (rows2.take 2).map kT = A at *
    repeat' decreasing_trivial_pre_omega
    subst hA
    exact ⟨rfl, rfl⟩
  rintro _ _ ⟨rfl, rfl⟩
  refine kseq_nx ?_
  refine w_seq (w_imp (P := fun fl e => fl = .nx ∧ ∃ (D2 : Dk) (B : Nat) (rs : List (List Pt)) (s3 s4 s5 s6 s7 s8 s9 : Sl), D2.c ≤ D.c + 1 ∧ (B = 2 ∨ B = 3) ∧ rs.length = 4 ∧ (∀ r ∈ rs, RowOk B 4 r) ∧ (lentS s4 = false ∧ lentS s5 = false ∧ lentS s6 = false ∧ lentS s9 = false) ∧ e = [.ow true (.l (dkT D2)), .v (nT B), .ow false (.l (rs.map kT)), s3, s4, s5, s6, s7, s8, s9, .un, .un, .un, .un, .un, .un]) ?_ ?_)
  · clear ed
    have rl : rows2.length = 4 := rfl
    have rok := rows2_ok
    generalize rows2 = rs at *
    repeat' decreasing_trivial_pre_omega
    refine w_imp (pick_w D 3 (by decide) (by decide) (by omega)) ?_
    rintro _ _ ⟨v, D2, hv, hc2, rfl, rfl⟩
    repeat' decreasing_trivial_pre_omega
    refine kif_d (fun h0 => ?_) fun h0 => ?_
    · unfold l2__law_going
      repeat' decreasing_trivial_pre_omega
      refine kr1 (n := 4) rfl (by decide) (for_below (fun k e => ∃ s3 s4 s5 s6 s7 s8 s9, (lentS s3 = false ∧ lentS s4 = false ∧ lentS s5 = false ∧ lentS s6 = false ∧ lentS s7 = false ∧ lentS s8 = false ∧ lentS s9 = false) ∧ e = [.ow true (.l (dkT D2)), .v (nT 3), .ow false (.l (((List.range k).map row3).map kT)), s3, s4, s5, s6, s7, s8, s9, .un, .un, .un, .un, .un, .un]) ⟨.un, .un, .un, .un, .un, .un, .un, ⟨rfl, rfl, rfl, rfl, rfl, rfl, rfl⟩, rfl⟩ ?_ ?_)
      · rintro k hk e ⟨s3, s4, s5, s6, s7, s8, s9, ⟨a3, a4, a5, a6, a7, a8, a9⟩, rfl⟩
        refine ⟨_, gN_ok (by first | rfl | exact Wp.isLent_of rfl (by assumption)) rfl, ?_⟩
        have ha : (((List.range k).map row3).map kT).length < sizeLine := by rw [List.length_map, List.length_map, List.length_range]; unfold sizeLine; omega
        have e3 : ((List.range (k + 1)).map row3).map kT = ((List.range k).map row3).map kT ++ [.tuple (cup9.map (gz k))] := by
          rw [List.range_succ, List.map_append, List.map_append, row3_t k hk]
          rfl
        rw [e3]
        generalize ((List.range k).map row3).map kT = xs at *
        unfold y2__law_going l1__law_going
        repeat' decreasing_trivial_pre_omega
        show W (forS _ _ (cup9.map cT) _) _
        refine for_on_w cT cup9 (fun don e => ∃ s5 s6 s7 s8 s9, (lentS s5 = false ∧ lentS s6 = false ∧ lentS s7 = false ∧ lentS s8 = false ∧ lentS s9 = false) ∧ e = [.ow true (.l (dkT D2)), .v (nT 3), .ow false (.l xs), .v (nT k), .ow false (.l (don.map (gz k))), s5, s6, s7, s8, s9, .un, .un, .un, .un, .un, .un]) ⟨s5, s6, s7, s8, s9, ⟨a5, a6, a7, a8, a9⟩, rfl⟩ ?_ ?_
        · rintro don c rest hx e ⟨s5, s6, s7, s8, s9, ⟨a5, a6, a7, a8, a9⟩, rfl⟩
          have hcm : c ∈ cup9 := by rw [hx]; simp
          have hdl : don.length < 9 := by
            have := congrArg List.length hx
            simp [cup9] at this
            omega
          refine ⟨[.ow true (.l (dkT D2)), .v (nT 3), .ow false (.l xs), .v (nT k), .ow false (.l (don.map (gz k))), .v (.int c.1), .v (.int c.2), s7, s8, s9, .un, .un, .un, .un, .un, .un], ?_, ?_⟩
          · unfold cT
            (first | rfl | (repeat' (first | refine Wp.gN_ok (by first | rfl | exact Wp.isLent_of rfl (by assumption)) rfl | refine Wp.gsNil_ok rfl | with_reducible apply Wp.gsCons_ok | apply Wp.gT_ok rfl)))
          refine w_imp (going_cell D2 k hk c (cup9_rng c hcm) xs _ (by rw [List.length_map]; unfold sizeLine; omega) s7 s8 s9 a7 a8 a9) ?_
          rintro _ _ ⟨rfl, s7, s8, s9, ⟨a7, a8, a9⟩, rfl⟩
          refine kturn_nx ?_
          exact ⟨_, _, s7, s8, s9, ⟨rfl, rfl, a7, a8, a9⟩, by rw [List.map_append]; rfl⟩
        · rintro e ⟨s5, s6, s7, s8, s9, ⟨a5, a6, a7, a8, a9⟩, rfl⟩
          repeat' decreasing_trivial_pre_omega
          exact ⟨_, _, s5, s6, s7, s8, s9, ⟨rfl, rfl, a5, a6, a7, a8, a9⟩, rfl⟩
      · rintro e ⟨s3, s4, s5, s6, s7, s8, s9, ⟨a3, a4, a5, a6, a7, a8, a9⟩, rfl⟩
        exact ⟨rfl, D2, 3, (List.range 4).map row3, s3, s4, s5, s6, s7, s8, s9, by omega, .inr rfl, rfl, fun r hr => by
          obtain ⟨j, hj, rfl⟩ := List.mem_map.mp hr
          exact row3_ok j (List.mem_range.mp hj), ⟨a4, a5, a6, a9⟩, rfl⟩
    · repeat' decreasing_trivial_pre_omega
      exact ⟨rfl, D2, 2, rs, .un, .un, .un, .un, .un, .un, .un, by omega, .inl rfl, rl, rok, ⟨rfl, rfl, rfl, rfl⟩, rfl⟩
  rintro _ _ ⟨rfl, D2, B, rs, s3, s4, s5, s6, s7, s8, s9, hc2, hB, hl, hr, ⟨a4, a5, a6, a9⟩, rfl⟩
  exact kseq_nx (ed D2 hc2 B hB rs hl hr s3 s4 s5 s6 s7 s8 s9 a4 a5 a6 a9)

set_option linter.all false
set_option maxRecDepth 100000
set_option maxHeartbeats 4000000
open PySem PySem.Spec Ev Pu Mt Wp
/-! ### books -/
theorem row_mono {B n m : Nat} {r : List Pt} (h : RowOk B n r) (k : n ≤ m) : RowOk B m r := ⟨h.len, fun p hp => by have := h.rng p hp; omega, h.nod⟩
theorem B_nine {B : Nat} (h : B = 2 ∨ B = 3) : 1 ≤ B * B ∧ B * B ≤ 9 := by rcases h with h | h <;> rw [h] <;> decide
/-- drawn kinds at places -/
theorem draw_row (D : Dk) {B : Nat} (hB : B = 2 ∨ B = 3) {ps : List (Int × Int)} (hp : PlOk B ps) (many : Nat) (hm : 0 < many ∧ many ≤ 20) (hc : D.c + 30 ≤ 10 ^ 9) (s1 s2 s3 s4 s6 s7 s8 s9 s10 s11 s12 s13 : Sl) (a10 : lentS s10 = false) (a11 : lentS s11 = false) :
    W (x1__law_book [.ow true (.l (dkT D)), s1, s2, .v (nT B), s4, .v (nT many), s6, s7, s8, s9, s10, s11, s12, s13]) fun r e => ∃ (D' : Dk) (row : List Pt), D'.c ≤ D.c + 18 ∧ RowOk B many row ∧ r = .b (.l (row.map ptT)) ∧ e = [.ow true (.l (dkT D')), s1, s2, .v (nT B), s4, .v (nT many), s6, s7, s8, s9, s10, s11, s12, s13] := by
  have h9 := B_nine hB
  unfold x1__law_book
  repeat' decreasing_trivial_pre_omega
  refine w_imp (places_of_w D hB (by omega)) ?_
  rintro _ _ ⟨D1, qs, hc1, pl, rfl, rfl⟩
  have ql := pl.len
  repeat' decreasing_trivial_pre_omega
  refine comp_all cT qs (fun don acc e => ∃ (D' : Dk) (rs : List Pt), D'.c ≤ D1.c + don.length ∧ rs.map (fun p => (p.1, p.2.1)) = don ∧ (∀ r ∈ rs, r.2.2 < many) ∧ acc = rs.map ptT ∧ e = [.ow true (.l (dkT D')), s1, s2, .v (nT B), s4, .v (nT many), s6, s7, s8, s9, s10, s11, s12, s13]) ⟨D1, [], by simp, rfl, by simp, rfl, rfl⟩ (by unfold sizeLine; omega) ?_ ?_
  · rintro don c rest hx acc e ⟨D', rs, h1, h2, h3, rfl, rfl⟩
    have hdl : don.length < 9 := by
      have := congrArg List.length hx
      simp at this
      omega
    refine ⟨[.ow true (.l (dkT D')), s1, s2, .v (nT B), s4, .v (nT many), s6, s7, s8, s9, .v (.int c.1), .v (.int c.2), s12, s13], ?_, ?_⟩
    · unfold cT
      (first | rfl | (repeat' (first | refine Wp.gN_ok (by first | rfl | exact Wp.isLent_of rfl (by assumption)) rfl | refine Wp.gsNil_ok rfl | with_reducible apply Wp.gsCons_ok | apply Wp.gT_ok rfl)))
    repeat' decreasing_trivial_pre_omega
    refine w_imp (pick_w D' many hm.1 (by omega) (by omega)) ?_
    rintro _ _ ⟨v, D2, hv, hc2, rfl, rfl⟩
    repeat' decreasing_trivial_pre_omega
    refine ⟨D2, rs ++ [(c.1, c.2, v)], by rw [List.length_append, List.length_singleton]; omega, by rw [List.map_append, h2]; rfl, ?_, by rw [List.map_append]; rfl, rfl⟩
    intro r hr
    rcases List.mem_append.mp hr with hr | hr
    · exact h3 r hr
    · rw [List.mem_singleton.mp hr]; exact hv
  · rintro acc e ⟨D', rs, h1, h2, h3, rfl, rfl⟩
    repeat' decreasing_trivial_pre_omega
    exact ⟨D', rs, by omega, row_of pl h2 h3, rfl, rfl⟩
/-- drawn kinds at a row's places -/
theorem draw_more (D : Dk) {B : Nat} (hB : B = 2 ∨ B = 3) {n : Nat} {row : List Pt} (hr : RowOk B n row) {us : List T} (hu : us.length ≤ 19) (hc : D.c + 30 ≤ 10 ^ 9) (s1 s2 s3 s4 s5 s6 s8 s9 s10 s11 s12 : Sl) (a10 : lentS s10 = false) (a11 : lentS s11 = false) (a12 : lentS s12 = false) :
    W (x2__law_book [.ow true (.l (dkT D)), s1, s2, s3, s4, s5, s6, .v (.tuple us), s8, s9, s10, s11, s12, .v (kT row)]) fun r e => ∃ (D' : Dk) (rs : List Pt), D'.c ≤ D.c + 9 ∧ RowOk B (us.length + 1) rs ∧ r = .b (.l (rs.map ptT)) ∧ e = [.ow true (.l (dkT D')), s1, s2, s3, s4, s5, s6, .v (.tuple us), s8, s9, s10, s11, s12, .v (kT row)] := by
  have h9 := B_nine hB
  have rl := hr.len
  have hpl : PlOk B (row.map fun p => (p.1, p.2.1)) := ⟨by rw [List.length_map]; exact rl, hr.nod, fun c hc => by
    obtain ⟨p, hp, rfl⟩ := List.mem_map.mp hc
    have := hr.rng p hp
    exact ⟨this.1, this.2.1⟩⟩
  rw [show kT row = .tuple (row.map ptT) from rfl]
  unfold x2__law_book
  repeat' decreasing_trivial_pre_omega
  refine comp_all ptT row (fun don acc e => ∃ (D' : Dk) (rs : List Pt), D'.c ≤ D.c + don.length ∧ rs.map (fun p => (p.1, p.2.1)) = don.map (fun p => (p.1, p.2.1)) ∧ (∀ r ∈ rs, r.2.2 < us.length + 1) ∧ acc = rs.map ptT ∧ e = [.ow true (.l (dkT D')), s1, s2, s3, s4, s5, s6, .v (.tuple us), s8, s9, s10, s11, s12, .v (.tuple (row.map ptT))]) ⟨D, [], by simp, rfl, by simp, rfl, rfl⟩ (by unfold sizeLine; omega) ?_ ?_
  · rintro don c rest hx acc e ⟨D', rs, h1, h2, h3, rfl, rfl⟩
    have hdl : don.length < 9 := by
      have := congrArg List.length hx
      simp at this
      omega
    refine ⟨[.ow true (.l (dkT D')), s1, s2, s3, s4, s5, s6, .v (.tuple us), s8, s9, .v (.int c.1), .v (.int c.2.1), .v (.int (c.2.2 : Int)), .v (.tuple (row.map ptT))], ?_, ?_⟩
    · unfold ptT
      (first | rfl | (repeat' (first | refine Wp.gN_ok (by first | rfl | exact Wp.isLent_of rfl (by assumption)) rfl | refine Wp.gsNil_ok rfl | with_reducible apply Wp.gsCons_ok | apply Wp.gT_ok rfl)))
    repeat' decreasing_trivial_pre_omega
    rw [show (us.length : Int) + 1 = ((us.length + 1 : Nat) : Int) by omega]
    refine w_imp (pick_w D' (us.length + 1) (by omega) (by omega) (by omega)) ?_
    rintro _ _ ⟨v, D2, hv, hc2, rfl, rfl⟩
    repeat' decreasing_trivial_pre_omega
    refine ⟨D2, rs ++ [(c.1, c.2.1, v)], by rw [List.length_append, List.length_singleton]; omega, by rw [List.map_append, List.map_append, h2]; rfl, ?_, by rw [List.map_append]; rfl, rfl⟩
    intro r hr
    rcases List.mem_append.mp hr with hr | hr
    · exact h3 r hr
    · rw [List.mem_singleton.mp hr]; exact hv
  · rintro acc e ⟨D', rs, h1, h2, h3, rfl, rfl⟩
    repeat' decreasing_trivial_pre_omega
    exact ⟨D', rs, by omega, row_of hpl h2 h3, rfl, rfl⟩
/-- a part put otherwise -/
theorem set_row {B n : Nat} {r : List Pt} (h : RowOk B n r) {at' : Nat} (ha : at' < r.length) {v : Nat} (hv : v < n) : RowOk B n (r.set at' (r[at'].1, r[at'].2.1, v)) := by
  refine ⟨by rw [List.length_set]; exact h.len, fun p hp => ?_, ?_⟩
  · rcases List.mem_or_eq_of_mem_set hp with hp | rfl
    · exact h.rng p hp
    · have := h.rng _ (List.getElem_mem ha)
      exact ⟨this.1, this.2.1, hv⟩
  · have e : (r.set at' (r[at'].1, r[at'].2.1, v)).map (fun p => (p.1, p.2.1)) = r.map fun p => (p.1, p.2.1) := by
      rw [List.map_set]
      have e2 : (r.map fun p => (p.1, p.2.1))[at']'(by rw [List.length_map]; exact ha) = (r[at'].1, r[at'].2.1) := by rw [List.getElem_map]
      rw [← e2, List.set_getElem_self]
    rw [e]
    exact h.nod
theorem cutT_to {α : Type} {ts : List α} {k : Nat} (h : k ≤ ts.length) : cutT ts none (some (k : Int)) = ts.take k := by
  unfold cutT
  rw [HT.sIx_nat, HT.sIx_none, List.drop_zero, Nat.sub_zero, Nat.min_eq_left h]
theorem cutT_fr {α : Type} {ts : List α} {k : Nat} (h : k < ts.length) : cutT ts (some ((k : Int) + 1)) none = ts.drop (k + 1) := by
  unfold cutT
  rw [show (k : Int) + 1 = ((k + 1 : Nat) : Int) by omega, HT.sIx_nat, HT.sIx_none, Nat.min_eq_left (by omega)]
  exact List.take_of_length_le (by simp)
theorem set_eq {α : Type} {ts : List α} {k : Nat} (h : k < ts.length) (x : α) : ts.take k ++ ([x] ++ ts.drop (k + 1)) = ts.set k x := by
  rw [List.set_eq_take_append_cons_drop, if_pos h]
  rfl
/-- three pieces put together again -/
theorem set_cut {α : Type} {ts : List α} {k : Nat} (h : k < ts.length) (x : α) : cutT ts none (some (k : Int)) ++ [x] ++ cutT ts (some ((k : Int) + 1)) none = ts.set k x := by
  rw [cutT_to (by omega), cutT_fr h, List.append_assoc]
  exact set_eq h x

set_option linter.all false
set_option maxRecDepth 100000
set_option maxHeartbeats 4000000
open PySem PySem.Spec Ev Pu Mt Wp
def BookQ (D : Dk) (most : Nat) (c : Nat) : Od → En → Prop := fun r e => ∃ (D' : Dk) (B : Nat) (ks : List (List Pt)), D'.c ≤ D.c + c ∧ Good B ks ∧ ks.length ≤ 10 ∧ r = .r (bkT B ks) ∧ e = [.ow true (.l (dkT D')), .v (nT most)]
theorem good_rows {B : Nat} {ks : List (List Pt)} (hB : B = 2 ∨ B = 3) (h0 : 0 < ks.length) (h1 : ks.length ≤ 10) (h : ∀ r ∈ ks, RowOk B ks.length r) : Good B ks := good_of hB h0 (by omega) h
/-- a part of a row put otherwise -/
theorem turn2_w (D : Dk) {B : Nat} (hB : B = 2 ∨ B = 3) {ks : List (List Pt)} (hl : ks.length = 4) (h : ∀ r ∈ ks, RowOk B 4 r) (hc : D.c + 30 ≤ 10 ^ 9) (s1 s2 s4 s5 s6 s8 s9 s10 s11 s12 s13 : Sl) (a6 : lentS s6 = false) (a9 : lentS s9 = false) (a10 : lentS s10 = false) (a11 : lentS s11 = false) (a12 : lentS s12 = false) (a13 : lentS s13 = false) :
    W (y2__law_book [.ow true (.l (dkT D)), s1, s2, .v (nT B), s4, s5, s6, .v (.tuple (ks.map kT)), s8, s9, s10, s11, s12, s13]) fun fl e => fl = .nx ∧ ∃ (D' : Dk) (ks : List (List Pt)) (s6 s9 s10 s11 s12 s13 : Sl), (lentS s6 = false ∧ lentS s9 = false ∧ lentS s10 = false ∧ lentS s11 = false ∧ lentS s12 = false ∧ lentS s13 = false) ∧ D'.c ≤ D.c + 3 ∧ ks.length = 4 ∧ (∀ r ∈ ks, RowOk B 4 r) ∧ e = [.ow true (.l (dkT D')), s1, s2, .v (nT B), s4, s5, s6, .v (.tuple (ks.map kT)), s8, s9, s10, s11, s12, s13] := by
  have h9 := B_nine hB
  have mb : mulOk (B : Int) (B : Int) = true := by rcases hB with h | h <;> rw [h] <;> decide
  unfold y2__law_book
  repeat' decreasing_trivial_pre_omega
  refine w_imp (pick_w D 4 (by decide) (by decide) (by omega)) ?_
  rintro _ _ ⟨k, D1, hk, hc1, rfl, rfl⟩
  repeat' decreasing_trivial_pre_omega
  rw [show (B : Int) * (B : Int) = ((B * B : Nat) : Int) by simp]
  refine w_imp (pick_w D1 (B * B) (by omega) (by omega) (by omega)) ?_
  rintro _ _ ⟨a, D2, ha, hc2, rfl, rfl⟩
  have hk2 : k < ks.length := by omega
  have rk := h _ (List.getElem_mem hk2)
  have gk : gIx (.tuple (ks.map kT)) (.int (k : Int)) = some (.r (.tuple ((ks[k]).map ptT))) := gIx_t (by rw [List.getElem?_map, List.getElem?_eq_getElem hk2]; rfl)
  have sr := fun v => set_row rk (at' := a) (by rw [rk.len]; exact ha) (v := v)
  have ha2 : a < (ks[k]).length := by rw [rk.len]; exact ha
  have ga : gIx (.tuple ((ks[k]).map ptT)) (.int (a : Int)) = some (.r (.tuple [.int ((ks[k])[a]).1, .int ((ks[k])[a]).2.1, .int (((ks[k])[a]).2.2 : Int)])) := gIx_t (by rw [List.getElem?_map, List.getElem?_eq_getElem ha2]; rfl)
  have rl := rk.len
  generalize hrow : ks[k] = row at *
  generalize hp : row[a] = p at *
  have hml : (row.map ptT).length = row.length := List.length_map ..
  have hkl : (ks.map kT).length = ks.length := List.length_map ..
  have c1 : cutT (row.map ptT) none (some (a : Int)) = (row.map ptT).take a := cutT_to (by rw [hml]; omega)
  have c2 : cutT (row.map ptT) (some ((a : Int) + 1)) none = (row.map ptT).drop (a + 1) := cutT_fr (by rw [hml]; omega)
  have c3 : cutT (ks.map kT) none (some (k : Int)) = (ks.map kT).take k := cutT_to (by rw [hkl]; omega)
  have c4 : cutT (ks.map kT) (some ((k : Int) + 1)) none = (ks.map kT).drop (k + 1) := cutT_fr (by rw [hkl]; omega)
  have l1 : (cutT (row.map ptT) none (some (a : Int))).length + 1 ≤ sizeLine := by rw [c1, List.length_take, hml]; unfold sizeLine; omega
  have l2 : ∀ x : T, (cutT (row.map ptT) none (some (a : Int)) ++ [x]).length + (cutT (row.map ptT) (some ((a : Int) + 1)) none).length ≤ sizeLine := fun x => by rw [c1, c2, List.length_append, List.length_take, List.length_drop, hml, List.length_singleton]; unfold sizeLine; omega
  have l3 : (cutT (ks.map kT) none (some (k : Int))).length + 1 ≤ sizeLine := by rw [c3, List.length_take, hkl]; unfold sizeLine; omega
  have l4 : ∀ x : T, (cutT (ks.map kT) none (some (k : Int)) ++ [x]).length + (cutT (ks.map kT) (some ((k : Int) + 1)) none).length ≤ sizeLine := fun x => by rw [c3, c4, List.length_append, List.length_take, List.length_drop, hkl, List.length_singleton]; unfold sizeLine; omega
  repeat' decreasing_trivial_pre_omega
  refine w_imp (pick_w D2 4 (by decide) (by decide) (by omega)) ?_
  rintro _ _ ⟨v, D3, hv, hc3, rfl, rfl⟩
  have l2 := l2 (.tuple [.int p.1, .int p.2.1, nT v])
  have st : cutT (row.map ptT) none (some (a : Int)) ++ [.tuple [.int p.1, .int p.2.1, nT v]] ++ cutT (row.map ptT) (some ((a : Int) + 1)) none = (row.set a (p.1, p.2.1, v)).map ptT := by
    rw [set_cut (by rw [hml]; omega), List.map_set]
    rfl
  have l4 := l4 (.tuple (cutT (row.map ptT) none (some (a : Int)) ++ [.tuple [.int p.1, .int p.2.1, nT v]] ++ cutT (row.map ptT) (some ((a : Int) + 1)) none))
  have sk : ∀ r : List Pt, cutT (ks.map kT) none (some (k : Int)) ++ [.tuple (r.map ptT)] ++ cutT (ks.map kT) (some ((k : Int) + 1)) none = (ks.set k r).map kT := fun r => by
    rw [set_cut (by rw [hkl]; omega), List.map_set]
    rfl
  repeat' decreasing_trivial_pre_omega
  rw [st, sk]
  exact ⟨rfl, D3, ks.set k (row.set a (p.1, p.2.1, v)), _, _, _, _, _, _, ⟨rfl, rfl, rfl, rfl, rfl, rfl⟩, by omega, by rw [List.length_set]; exact hl, fun r hr => by
    rcases List.mem_or_eq_of_mem_set hr with hr | rfl
    · exact h r hr
    · exact sr v hv, rfl⟩
/-- one kind more -/
theorem turn3_w (D : Dk) {B : Nat} (hB : B = 2 ∨ B = 3) {ks : List (List Pt)} (hl : 0 < ks.length ∧ ks.length ≤ 18) (h : ∀ r ∈ ks, RowOk B ks.length r) (hc : D.c + 60 ≤ 10 ^ 9) (s1 s2 s3 s4 s5 s6 s8 s9 s10 s11 s12 s13 : Sl) (a10 : lentS s10 = false) (a11 : lentS s11 = false) (a12 : lentS s12 = false) (a13 : lentS s13 = false) :
    W (y3__law_book [.ow true (.l (dkT D)), s1, s2, s3, s4, s5, s6, .v (.tuple (ks.map kT)), s8, s9, s10, s11, s12, s13]) fun fl e => fl = .nx ∧ ∃ (D' : Dk) (ks' : List (List Pt)) (s10 s11 s12 s13 : Sl), (lentS s10 = false ∧ lentS s11 = false ∧ lentS s12 = false ∧ lentS s13 = false) ∧ D'.c ≤ D.c + 10 ∧ ks'.length = ks.length + 1 ∧ (∀ r ∈ ks', RowOk B ks'.length r) ∧ e = [.ow true (.l (dkT D')), s1, s2, s3, s4, s5, s6, .v (.tuple (ks'.map kT)), s8, s9, s10, s11, s12, s13] := by
  have hkl : (ks.map kT).length = ks.length := List.length_map ..
  unfold y3__law_book
  repeat' decreasing_trivial_pre_omega
  rw [hkl]
  refine w_imp (pick_w D ks.length hl.1 (by omega) (by omega)) ?_
  rintro _ _ ⟨k, D1, hk, hc1, rfl, rfl⟩
  have rk := h _ (List.getElem_mem hk)
  have gk : gIx (.tuple (ks.map kT)) (.int (k : Int)) = some (.r (kT ks[k])) := gIx_t (by rw [List.getElem?_map, List.getElem?_eq_getElem hk]; rfl)
  generalize ks[k] = row at *
  have dm := draw_more D1 hB rk (us := ks.map kT) (by rw [hkl]; omega) (by omega) s1 s2 s3 s4 s5 s6 s8 s9 s10 s11 s12 a10 a11 a12
  rw [hkl] at dm
  have fit : (ks.map kT).length + 1 ≤ sizeLine := by rw [hkl]; unfold sizeLine; omega
  have ex : ∀ r : List Pt, ks.map kT ++ [.tuple (r.map ptT)] = (ks ++ [r]).map kT := fun r => by rw [List.map_append]; rfl
  generalize ks.map kT = us at *
  repeat' decreasing_trivial_pre_omega
  refine w_imp dm ?_
  rintro _ _ ⟨D2, rs, hc2, ro, rfl, rfl⟩
  clear dm
  repeat' decreasing_trivial_pre_omega
  refine ⟨rfl, D2, ks ++ [rs], s10, s11, s12, _, ⟨a10, a11, a12, rfl⟩, by omega, by simp, fun r hr => ?_, by rw [← ex]; rfl⟩
  rw [List.length_append, List.length_singleton]
  rcases List.mem_append.mp hr with hr | hr
  · exact row_mono (h r hr) (by omega)
  · rw [List.mem_singleton.mp hr]; exact ro

set_option linter.all false
set_option maxRecDepth 100000
set_option maxHeartbeats 4000000
open PySem PySem.Spec Ev Pu Mt Wp
theorem book_w (D : Dk) (most : Nat) (hm : 4 ≤ most ∧ most ≤ 8) (hc : D.c + 1000 ≤ 10 ^ 9) : W (m__law_book [.ow true (.l (dkT D)), .v (nT most)]) (BookQ D most 300) := by
  unfold m__law_book
  (apply Wp.w_fun; (focus (rfl; done)); (focus (((try simp only [List.cons_append, List.nil_append, List.length_cons, List.length_nil, Nat.reduceAdd, Nat.reduceSub, Nat.zero_add, Nat.sub_zero, List.replicate_succ, List.replicate_zero, List.append_nil]); rfl); done)))
  unfold b__law_book
  repeat' decreasing_trivial_pre_omega
  refine w_imp (pick_w D 4 (by decide) (by decide) (by omega)) ?_
  rintro _ _ ⟨way, D1, hway, hc1, rfl, rfl⟩
  repeat' decreasing_trivial_pre_omega
  refine kif_d (fun h0 => ?_) fun h0 => ?_
  · repeat' decreasing_trivial_pre_omega
    refine w_imp (pick_w D1 3 (by decide) (by decide) (by omega)) ?_
    rintro _ _ ⟨k, D2, hk, hc2, rfl, rfl⟩
    obtain ⟨B, hx, hB⟩ : ∃ B : Nat, [PyData.int 2, PyData.int 2, PyData.int 3][k]? = some (nT B) ∧ (B = 2 ∨ B = 3) := by
      match k, hk with
      | 0, _ => exact ⟨2, rfl, .inl rfl⟩
      | 1, _ => exact ⟨2, rfl, .inl rfl⟩
      | 2, _ => exact ⟨3, rfl, .inr rfl⟩
      | k + 3, hw => omega
    repeat' decreasing_trivial_pre_omega
    refine w_imp (pick_w D2 most (by omega) (by omega) (by omega)) ?_
    rintro _ _ ⟨w, D3, hw, hc3, rfl, rfl⟩
    clear hx
    repeat' decreasing_trivial_pre_omega
    rw [show (1 : Int) + (w : Int) = ((1 + w : Nat) : Int) by omega]
    have hmm : 0 < 1 + w ∧ 1 + w ≤ 8 := by omega
    generalize 1 + w = many at hmm
    unfold l1__law_book
    repeat' decreasing_trivial_pre_omega
    refine kr1 (n := many) rfl (by omega) (for_below (fun k e => ∃ (D' : Dk) (ks : List (List Pt)) (s6 : Sl), lentS s6 = false ∧ D'.c ≤ D3.c + k * 18 ∧ ks.length = k ∧ (∀ r ∈ ks, RowOk B many r) ∧ e = [.ow true (.l (dkT D')), .v (nT most), .v (nT way), .v (nT B), .ow false (.l (ks.map kT)), .v (nT many), s6, .un, .un, .un, .un, .un, .un, .un]) ⟨D3, [], .un, rfl, by omega, rfl, by simp, rfl⟩ ?_ ?_)
    · rintro k hk e ⟨D', ks, s6, a6, f1, f2, f3, rfl⟩
      refine ⟨_, gN_ok (by first | rfl | exact Wp.isLent_of rfl (by assumption)) rfl, ?_⟩
      have ha : (ks.map kT).length < sizeLine := by rw [List.length_map]; unfold sizeLine; omega
      have ex : ∀ r : List Pt, ks.map kT ++ [.tuple (r.map ptT)] = (ks ++ [r]).map kT := fun r => by rw [List.map_append]; rfl
      generalize ks.map kT = us at *
      unfold y1__law_book
      repeat' decreasing_trivial_pre_omega
      have pl := places_of_w D' hB (by omega)
      have dr := fun ps (hp : PlOk B ps) => draw_row D' hB hp many ⟨hmm.1, by omega⟩ (by omega) (.v (nT most)) (.v (nT way)) .un (.ow false (.l us)) (.v (nT k)) .un .un .un .un .un .un .un rfl rfl
      obtain ⟨ps0, hp0⟩ : ∃ ps, PlOk B ps := ⟨_, col_ok hB⟩
      refine w_imp (dr ps0 hp0) ?_
      rintro _ _ ⟨D4, row, hc4, ro, rfl, rfl⟩
      clear dr pl
      repeat' decreasing_trivial_pre_omega
      refine ⟨D4, ks ++ [row], .v (nT k), rfl, by omega, by rw [List.length_append, f2]; rfl, fun r hr => ?_, by rw [← ex]; rfl⟩
      rcases List.mem_append.mp hr with hr | hr
      · exact f3 r hr
      · rw [List.mem_singleton.mp hr]; exact ro
    · rintro e ⟨D', ks, s6, a6, f1, f2, f3, rfl⟩
      repeat' decreasing_trivial_pre_omega
      unfold BookQ
      exact ⟨D', B, ks, by omega, good_rows hB (by omega) (by omega) (by rw [f2]; exact f3), by omega, rfl, rfl⟩
  · repeat' decreasing_trivial_pre_omega
    refine w_imp (going_w D1 (by omega)) ?_
    rintro _ _ ⟨D2, B, ks, hc2, hB, hl, hr, rfl, rfl⟩
    repeat' decreasing_trivial_pre_omega
    refine kif_d (fun h1 => ?_) fun h1 => ?_
    · repeat' decreasing_trivial_pre_omega
      unfold BookQ
      exact ⟨D2, B, ks, by omega, good_rows hB (by omega) (by omega) (by rw [hl]; exact hr), by omega, rfl, rfl⟩
    · repeat' decreasing_trivial_pre_omega
      unfold l2__law_book
      repeat' decreasing_trivial_pre_omega
      refine w_imp (pick_w D2 2 (by decide) (by decide) (by omega)) ?_
      rintro _ _ ⟨v, D3, hv, hc3, rfl, rfl⟩
      repeat' decreasing_trivial_pre_omega
      refine kr1_eq (1 + v) rfl (by omega) (by omega) (for_below (fun k e => ∃ (D' : Dk) (ks : List (List Pt)) (s6 s8 s9 s10 s11 s12 s13 : Sl), (lentS s6 = false ∧ lentS s8 = false ∧ lentS s9 = false ∧ lentS s10 = false ∧ lentS s11 = false ∧ lentS s12 = false ∧ lentS s13 = false) ∧ D'.c ≤ D3.c + k * 3 ∧ ks.length = 4 ∧ (∀ r ∈ ks, RowOk B 4 r) ∧ e = [.ow true (.l (dkT D')), .v (nT most), .v (nT way), .v (nT B), .un, .un, s6, .v (.tuple (ks.map kT)), s8, s9, s10, s11, s12, s13]) ⟨D3, ks, .un, .un, .un, .un, .un, .un, .un, ⟨rfl, rfl, rfl, rfl, rfl, rfl, rfl⟩, by omega, hl, hr, rfl⟩ ?_ ?_)
      · rintro k hk e ⟨D', ks, s6, s8, s9, s10, s11, s12, s13, ⟨a6, a8, a9, a10, a11, a12, a13⟩, f1, f2, f3, rfl⟩
        refine ⟨_, gN_ok (by first | rfl | exact Wp.isLent_of rfl (by assumption)) rfl, ?_⟩
        refine w_imp (turn2_w D' hB f2 f3 (by omega) _ _ _ _ s6 _ s9 s10 s11 s12 s13 a6 a9 a10 a11 a12 a13) ?_
        rintro _ _ ⟨rfl, D4, ks, s6, s9, s10, s11, s12, s13, ⟨a6, a9, a10, a11, a12, a13⟩, f4, f5, f6, rfl⟩
        refine kturn_nx ?_
        exact ⟨D4, ks, s6, _, s9, s10, s11, s12, s13, ⟨a6, rfl, a9, a10, a11, a12, a13⟩, by omega, f5, f6, rfl⟩
      · rintro e ⟨D', ks, s6, s8, s9, s10, s11, s12, s13, ⟨a6, a8, a9, a10, a11, a12, a13⟩, f1, f2, f3, rfl⟩
        refine kseq_nx ?_
        refine w_seq ?_
        unfold l3__law_book
        -- how many more
        have rest : ∀ (n : Nat) (D4 : Dk), n ≤ 5 → D4.c ≤ D'.c + 1 → W (forS (gN 8) y3__law_book (below n) [.ow true (.l (dkT D4)), .v (nT most), .v (nT way), .v (nT B), .un, .un, s6, .v (.tuple (ks.map kT)), s8, s9, s10, s11, s12, s13]) (KSeq (sRet (eTup (aCons (eVar 3) (aCons (eVar 7) aNil)))) (KFun [.ow true (.l (dkT D)), .v (nT most)] (BookQ D most 300))) := by
          intro n D4 hn hc4
          refine for_below (fun k e => ∃ (D' : Dk) (ks : List (List Pt)) (s8 s10 s11 s12 s13 : Sl), (lentS s8 = false ∧ lentS s10 = false ∧ lentS s11 = false ∧ lentS s12 = false ∧ lentS s13 = false) ∧ D'.c ≤ D4.c + k * 10 ∧ ks.length = 4 + k ∧ (∀ r ∈ ks, RowOk B ks.length r) ∧ e = [.ow true (.l (dkT D')), .v (nT most), .v (nT way), .v (nT B), .un, .un, s6, .v (.tuple (ks.map kT)), s8, s9, s10, s11, s12, s13]) ⟨D4, ks, s8, s10, s11, s12, s13, ⟨a8, a10, a11, a12, a13⟩, by omega, by omega, by rw [f2]; exact f3, rfl⟩ ?_ ?_
          · rintro k hk e ⟨D5, ks, s8, s10, s11, s12, s13, ⟨a8, a10, a11, a12, a13⟩, g1, g2, g3, rfl⟩
            refine ⟨_, gN_ok (by first | rfl | exact Wp.isLent_of rfl (by assumption)) rfl, ?_⟩
            refine w_imp (turn3_w D5 hB (by omega) g3 (by omega) _ _ _ _ _ _ _ _ s10 s11 s12 s13 a10 a11 a12 a13) ?_
            rintro _ _ ⟨rfl, D6, ks', s10, s11, s12, s13, ⟨a10, a11, a12, a13⟩, g4, g5, g6, rfl⟩
            refine kturn_nx ?_
            exact ⟨D6, ks', _, s10, s11, s12, s13, ⟨rfl, a10, a11, a12, a13⟩, by omega, by omega, g6, rfl⟩
          · rintro e ⟨D5, ks, s8, s10, s11, s12, s13, ⟨a8, a10, a11, a12, a13⟩, g1, g2, g3, rfl⟩
            repeat' decreasing_trivial_pre_omega
            unfold BookQ
            exact ⟨D5, B, ks, by omega, good_rows hB (by omega) (by omega) g3, by omega, rfl, rfl⟩
        repeat' decreasing_trivial_pre_omega
        refine kife_d (fun h3 => ?_) fun h3 => ?_
        · have gs : gSub (.int (most : Int)) (.int 3) = some (.r (nT (most - 3))) := by
            show some (Od.r (PyData.int ((most : Int) - 3))) = _
            rw [show (most : Int) - 3 = ((most - 3 : Nat) : Int) by omega]
          repeat' decreasing_trivial_pre_omega
          refine w_imp (pick_w D' (most - 3) (by omega) (by omega) (by omega)) ?_
          rintro _ _ ⟨n, D4, hn, hc4, rfl, rfl⟩
          clear gs
          repeat' decreasing_trivial_pre_omega
          exact kr1 (n := n) rfl (by omega) (rest n D4 (by omega) hc4)
        · repeat' decreasing_trivial_pre_omega
          exact kr1 (n := 0) rfl (by omega) (rest 0 D' (by omega) (by omega))

set_option linter.all false
set_option maxRecDepth 100000
set_option maxHeartbeats 4000000
open PySem PySem.Spec Ev Pu Mt Wp
/-! ### cells that are taken -/
def mkC (ts : List (Int × Int)) : List (T × T) := ts.map fun c => (cT c, .bool true)
theorem keyM_c (c : Int × Int) : keyM (cT c) = some [Sum.inl c.1, Sum.inl c.2] := rfl
theorem mEq_c (a b : Int × Int) : mEq (cT a) (cT b) = decide (a = b) := by
  unfold mEq
  rw [keyM_c, keyM_c]
  by_cases h : a = b
  · subst h; simp
  · rw [decide_eq_false h]
    refine decide_eq_false fun z => h ?_
    injection z with z
    injection z with z1 z
    injection z with z2 z
    injection z1 with z1
    injection z2 with z2
    exact Prod.ext z1 z2
theorem look_c (ts : List (Int × Int)) (c : Int × Int) : (mLook (mkC ts) (cT c)).isSome = decide (c ∈ ts) := by
  by_cases h : c ∈ ts
  · rw [decide_eq_true h]
    unfold mLook
    cases q : (mkC ts).find? fun z => mEq z.1 (cT c) with
    | some z => rfl
    | none =>
      have := List.find?_eq_none.mp q (cT c, .bool true) (List.mem_map.mpr ⟨c, h, rfl⟩)
      rw [mEq_c] at this
      simp at this
  · rw [decide_eq_false h]
    unfold mLook
    rw [List.find?_eq_none.mpr fun z hz => ?_]
    · rfl
    · obtain ⟨q, hq, rfl⟩ := List.mem_map.mp hz
      rw [mEq_c]
      have : q ≠ c := fun e => h (e ▸ hq)
      simpa using this
theorem put_c (ts : List (Int × Int)) (c : Int × Int) : ∃ us, mPut (mkC ts) (cT c) (.bool true) = mkC us ∧ (∀ d, d ∈ us ↔ d ∈ ts ∨ d = c) ∧ us.length ≤ ts.length + 1 := by
  unfold mPut
  split
  · rename_i h
    refine ⟨ts, ?_, fun d => ⟨.inl, fun z => z.elim id fun e => ?_⟩, by omega⟩
    · unfold mkC
      rw [List.map_map]
      refine List.map_congr_left fun d _ => ?_
      show (if mEq (cT d) (cT c) = true then (cT d, PyData.bool true) else (cT d, .bool true)) = _
      split <;> rfl
    · obtain ⟨z, hz, q⟩ := List.any_eq_true.mp h
      obtain ⟨b, hb, rfl⟩ := List.mem_map.mp hz
      rw [mEq_c] at q
      have := of_decide_eq_true q
      rw [e, ← this]
      exact hb
  · exact ⟨ts ++ [c], by unfold mkC; rw [List.map_append]; rfl, fun d => by simp, by simp⟩
/-! ### the least and the greatest of two -/
def mnC (c : Int × Int) : Int := -(if -c.1 < -c.2 then -c.2 else -c.1)
def mxC (c : Int × Int) : Int := if c.1 < c.2 then c.2 else c.1
theorem gMin_c (c : Int × Int) : gMinT [cT c] = some (.r (.int (mnC c))) := rfl
theorem gMax_c (c : Int × Int) : gMaxT [cT c] = some (.r (.int (mxC c))) := rfl
def wayB (ts : List (Int × Int)) (c : Int × Int) : Bool := !decide (c ∈ ts) && (decide (0 ≤ mnC c) && decide (mxC c ≤ 20))
theorem wayB_ok {ts : List (Int × Int)} {c : Int × Int} (h : wayB ts c = true) : (0 ≤ c.1 ∧ c.1 ≤ 20) ∧ (0 ≤ c.2 ∧ c.2 ≤ 20) := by
  unfold wayB mnC mxC at h
  simp only [Bool.and_eq_true, decide_eq_true_eq] at h
  obtain ⟨_, h1, h2⟩ := h
  split at h1 <;> split at h2 <;> omega
theorem ways_w (ts ws : List (Int × Int)) (hl : ws.length ≤ 4) (s0 s1 s2 s3 s4 s5 s7 s8 s9 s10 s12 : Sl) (a12 : lentS s12 = false) :
    W (x1__law_field [s0, s1, s2, s3, s4, s5, .ow false (.m (mkC ts)), s7, s8, s9, s10, .ow false (.l (ws.map cT)), s12]) fun r e => r = .b (.l ((ws.filter (wayB ts)).map cT)) ∧ e = [s0, s1, s2, s3, s4, s5, .ow false (.m (mkC ts)), s7, s8, s9, s10, .v (.list (ws.map cT)), s12] := by
  unfold x1__law_field
  repeat' decreasing_trivial_pre_omega
  refine comp_filter_w cT cT (wayB ts) ws (by unfold sizeLine; omega) (fun c hc => ?_) ?_
  · refine ⟨_, rfl, ?_⟩
    have lk := look_c ts c
    have gmn := gMin_c c
    have gmx := gMax_c c
    have km := keyM_c c
    unfold wayB
    generalize decide (c ∈ ts) = b at *
    generalize mkC ts = M at *
    generalize cT c = t at *
    repeat' decreasing_trivial_pre_omega
    refine kmin rfl rfl km lk ?_
    repeat' decreasing_trivial_pre_omega
    cases b with
    | true =>
      refine kand_f rfl ?_
      exact ⟨rfl, fun _ => rfl, fun e => (by cases e)⟩
    | false =>
      refine kand_t rfl ?_
      repeat' decreasing_trivial_pre_omega
      by_cases h1 : 0 ≤ mnC c
      · refine kand_t (decide_eq_true (by omega)) ?_
        rw [decide_eq_true h1]
        repeat' decreasing_trivial_pre_omega
        refine ⟨?_, fun _ => rfl, fun _ => ?_⟩
        · simp
        · repeat' decreasing_trivial_pre_omega
          exact ⟨rfl, rfl⟩
      · refine kand_f (decide_eq_false (by omega)) ?_
        rw [decide_eq_false h1]
        exact ⟨rfl, fun _ => rfl, fun e => (by cases e)⟩
  · exact ⟨rfl, rfl⟩

set_option linter.all false
set_option maxRecDepth 100000
set_option maxHeartbeats 4000000
open PySem PySem.Spec Ev Pu Mt Wp
/-- squares that have been drawn -/
structure SqI (n : Nat) (k : Nat) (qs : List Pt) (ts : List (Int × Int)) : Prop where
  few : qs.length ≤ k
  tl : ts.length ≤ k
  ne : 0 < k → 0 < qs.length
  e0 : k = 0 → ts = []
  rng : ∀ p ∈ qs, (0 ≤ p.1 ∧ p.1 ≤ 20) ∧ (0 ≤ p.2.1 ∧ p.2.1 ≤ 20) ∧ p.2.2 < n
  nod : (qs.map fun p => (p.1, p.2.1)).Nodup
  sub : ∀ p ∈ qs, (p.1, p.2.1) ∈ ts
theorem add_w (D : Dk) {B : Nat} {ks : List (List Pt)} (g : 0 < ks.length ∧ ks.length ≤ 20) {k : Nat} (hk : k < 12) {qs : List Pt} {ts : List (Int × Int)} (h : SqI ks.length k qs ts) (c : Int × Int) (hr : (0 ≤ c.1 ∧ c.1 ≤ 20) ∧ (0 ≤ c.2 ∧ c.2 ≤ 20)) (hc : D.c + 60 ≤ 10 ^ 9) (s1 s2 s4 s9 s10 s11 s12 : Sl) :
    W ((sSeq (sIf (tb (eMIn true 6 (eTup (aCons (eVar 7) (aCons (eVar 8) aNil))))) (sDrop (eMut 5 gAppend (aCons (eTup (aCons (eVar 7) (aCons (eVar 8) (aCons (eIf (tb (eOp2 (gEq id) (eCall 2 m__law_pick (aCons (eVar 0) (aCons (eK (.int 2)) aNil))) (eK (.int 0)))) (eCall 2 m__law_pick (aCons (eVar 0) (aCons (eFn gLen (aCons (eOp2 gIx (eVar 3) (eK (.int 1))) aNil)) aNil))) (eK (.int 0))) aNil)))) aNil))) sNil) (sMPut 6 (eTup (aCons (eVar 7) (aCons (eVar 8) aNil))) (eK (.bool true)))) [.ow true (.l (dkT D)), s1, s2, .v (bkT B ks), s4, .ow false (.l (qs.map ptT)), .ow false (.m (mkC ts)), .v (.int c.1), .v (.int c.2), s9, s10, s11, s12]) fun fl e => fl = .nx ∧ ∃ (D' : Dk) (qs : List Pt) (ts : List (Int × Int)), D'.c ≤ D.c + 2 ∧ SqI ks.length (k + 1) qs ts ∧ e = [.ow true (.l (dkT D')), s1, s2, .v (bkT B ks), s4, .ow false (.l (qs.map ptT)), .ow false (.m (mkC ts)), .v (.int c.1), .v (.int c.2), s9, s10, s11, s12] := by
  have hkl : (ks.map kT).length = ks.length := List.length_map ..
  have lk := look_c ts c
  have km := keyM_c c
  have ml : (mkC ts).length < sizeLine := by unfold mkC; rw [List.length_map]; have := h.tl; unfold sizeLine; omega
  obtain ⟨us, hp, hu, hul⟩ := put_c ts c
  have ql : (qs.map ptT).length < sizeLine := by rw [List.length_map]; have := h.few; unfold sizeLine; omega
  have ex : ∀ p : Pt, qs.map ptT ++ [ptT p] = (qs ++ [p]).map ptT := fun r => by rw [List.map_append]; rfl
  repeat' decreasing_trivial_pre_omega
  by_cases hin : c ∈ ts
  · rw [decide_eq_true hin]
    refine kif_f rfl ?_
    repeat' decreasing_trivial_pre_omega
    refine ⟨rfl, D, qs, us, by omega, ?_, by rw [← hp]; rfl⟩
    exact ⟨by have := h.few; omega, by have := h.tl; omega, fun _ => Nat.pos_of_ne_zero fun z => by
      have e0 := h.e0
      have ne := h.ne
      by_cases k0 : k = 0
      · rw [e0 k0] at hin; cases hin
      · have := ne (by omega); omega, fun z => by omega, h.rng, h.nod, fun p hp => (hu _).mpr (.inl (h.sub p hp))⟩
  · rw [decide_eq_false hin]
    refine kif_t rfl ?_
    have put : ∀ (D' : Dk) (v : Nat), v < ks.length → D'.c ≤ D.c + 2 → SqI ks.length (k + 1) (qs ++ [(c.1, c.2, v)]) us := fun D' v hv _ => ⟨by have := h.few; simp; omega, by have := h.tl; omega, fun _ => by simp, fun z => by omega, fun p hp => by
        rcases List.mem_append.mp hp with hp | hp
        · exact h.rng p hp
        · rw [List.mem_singleton.mp hp]; exact ⟨hr.1, hr.2, hv⟩, by
        rw [List.map_append]
        refine List.nodup_append.mpr ⟨h.nod, by simp, fun a ha b hb => ?_⟩
        obtain ⟨p, hp, rfl⟩ := List.mem_map.mp ha
        rw [show b = c by simpa using hb]
        exact fun z => hin (z ▸ h.sub p hp), fun p hp => by
        rcases List.mem_append.mp hp with hp | hp
        · exact (hu _).mpr (.inl (h.sub p hp))
        · rw [List.mem_singleton.mp hp]; exact (hu _).mpr (.inr rfl)⟩
    repeat' decreasing_trivial_pre_omega
    refine w_imp (pick_w D 2 (by decide) (by decide) (by omega)) ?_
    rintro _ _ ⟨v, D1, hv, hc1, rfl, rfl⟩
    repeat' decreasing_trivial_pre_omega
    refine kife_d (fun h3 => ?_) fun h3 => ?_
    · unfold bkT
      repeat' decreasing_trivial_pre_omega
      rw [hkl]
      refine w_imp (pick_w D1 ks.length g.1 (by omega) (by omega)) ?_
      rintro _ _ ⟨v, D2, hv, hc2, rfl, rfl⟩
      repeat' decreasing_trivial_pre_omega
      exact ⟨rfl, D2, qs ++ [(c.1, c.2, v)], us, by omega, put D2 v hv (by omega), by rw [← hp, ← ex]; rfl⟩
    · repeat' decreasing_trivial_pre_omega
      exact ⟨rfl, D1, qs ++ [(c.1, c.2, 0)], us, by omega, put D1 0 g.1 (by omega), by rw [← hp, ← ex]; rfl⟩

set_option linter.all false
set_option maxRecDepth 100000
set_option maxHeartbeats 4000000
open PySem PySem.Spec Ev Pu Mt Wp
def fdQ (B : Nat) (ks : List (List Pt)) (qs : List Pt) : T := .tuple [bkT B ks, kT qs]
def StepQ (D : Dk) (B : Nat) (ks : List (List Pt)) (k : Nat) (s1 s2 s4 s9 s10 : Sl) : Fl → En → Prop := fun fl e =>
  (fl = .nx ∧ ∃ (D' : Dk) (qs : List Pt) (ts : List (Int × Int)) (c : Int × Int) (s11 s12 : Sl), D'.c ≤ D.c + 4 ∧ SqI ks.length (k + 1) qs ts ∧ ((0 ≤ c.1 ∧ c.1 ≤ 20) ∧ (0 ≤ c.2 ∧ c.2 ≤ 20)) ∧ (lentS s11 = false ∧ lentS s12 = false) ∧ e = [.ow true (.l (dkT D')), s1, s2, .v (bkT B ks), s4, .ow false (.l (qs.map ptT)), .ow false (.m (mkC ts)), .v (.int c.1), .v (.int c.2), s9, s10, s11, s12]) ∨
  (∃ (D' : Dk) (qs : List Pt) (ts : List (Int × Int)) (s3 s4 s5 s6 s7 s8 s9 s10 s11 s12 : Sl), D'.c ≤ D.c + 4 ∧ SqI ks.length k qs ts ∧ 0 < qs.length ∧ fl = .rt (.r (fdQ B ks qs)) ∧ e = [.ow true (.l (dkT D')), s1, s2, s3, s4, s5, s6, s7, s8, s9, s10, s11, s12])
theorem step_w (D : Dk) {B : Nat} {ks : List (List Pt)} (g : 0 < ks.length ∧ ks.length ≤ 20) {k : Nat} (hk : k < 12) {qs : List Pt} {ts : List (Int × Int)} (h : SqI ks.length k qs ts) (c : Int × Int) (hr : (0 ≤ c.1 ∧ c.1 ≤ 20) ∧ (0 ≤ c.2 ∧ c.2 ≤ 20)) (hc : D.c + 100 ≤ 10 ^ 9) (nr : Bool) (s1 s2 s4 s11 s12 : Sl) (a11 : lentS s11 = false) (a12 : lentS s12 = false) :
    W (y1__law_field [.ow true (.l (dkT D)), s1, s2, .v (bkT B ks), s4, .ow false (.l (qs.map ptT)), .ow false (.m (mkC ts)), .v (.int c.1), .v (.int c.2), .v (.bool nr), .v (nT k), s11, s12]) (StepQ D B ks k s1 s2 s4 (.v (.bool nr)) (.v (nT k))) := by
  have go : ∀ (D' : Dk) (c : Int × Int) (s11 s12 : Sl), D'.c ≤ D.c + 2 → ((0 ≤ c.1 ∧ c.1 ≤ 20) ∧ (0 ≤ c.2 ∧ c.2 ≤ 20)) → lentS s11 = false → lentS s12 = false →
      W ((sSeq (sIf (tb (eMIn true 6 (eTup (aCons (eVar 7) (aCons (eVar 8) aNil))))) (sDrop (eMut 5 gAppend (aCons (eTup (aCons (eVar 7) (aCons (eVar 8) (aCons (eIf (tb (eOp2 (gEq id) (eCall 2 m__law_pick (aCons (eVar 0) (aCons (eK (.int 2)) aNil))) (eK (.int 0)))) (eCall 2 m__law_pick (aCons (eVar 0) (aCons (eFn gLen (aCons (eOp2 gIx (eVar 3) (eK (.int 1))) aNil)) aNil))) (eK (.int 0))) aNil)))) aNil))) sNil) (sMPut 6 (eTup (aCons (eVar 7) (aCons (eVar 8) aNil))) (eK (.bool true)))) [.ow true (.l (dkT D')), s1, s2, .v (bkT B ks), s4, .ow false (.l (qs.map ptT)), .ow false (.m (mkC ts)), .v (.int c.1), .v (.int c.2), .v (.bool nr), .v (nT k), s11, s12]) (StepQ D B ks k s1 s2 s4 (.v (.bool nr)) (.v (nT k))) := by
    intro D' c s11 s12 h1 h2 a11 a12
    refine w_imp (add_w D' g hk h c h2 (by omega) s1 s2 s4 _ _ s11 s12) ?_
    rintro _ _ ⟨rfl, D2, qs', ts', h3, h4, rfl⟩
    exact .inl ⟨rfl, D2, qs', ts', c, s11, s12, by omega, h4, h2, ⟨a11, a12⟩, rfl⟩
  have ne : 0 < k → ∀ (D' : Dk) (s3 z4 s5 s6 s7 s8 s9 s10 s11 s12 : Sl), D'.c ≤ D.c + 2 → StepQ D B ks k s1 s2 s4 (.v (.bool nr)) (.v (nT k)) (.rt (.r (fdQ B ks qs))) [.ow true (.l (dkT D')), s1, s2, s3, z4, s5, s6, s7, s8, s9, s10, s11, s12] :=
    fun z D' s3 z4 s5 s6 s7 s8 s9 s10 s11 s12 h1 => .inr ⟨D', qs, ts, s3, z4, s5, s6, s7, s8, s9, s10, s11, s12, by omega, h, h.ne z, rfl, rfl⟩
  unfold y1__law_field
  generalize hT : (sSeq (sIf (tb (eMIn true 6 (eTup (aCons (eVar 7) (aCons (eVar 8) aNil))))) (sDrop (eMut 5 gAppend (aCons (eTup (aCons (eVar 7) (aCons (eVar 8) (aCons (eIf (tb (eOp2 (gEq id) (eCall 2 m__law_pick (aCons (eVar 0) (aCons (eK (.int 2)) aNil))) (eK (.int 0)))) (eCall 2 m__law_pick (aCons (eVar 0) (aCons (eFn gLen (aCons (eOp2 gIx (eVar 3) (eK (.int 1))) aNil)) aNil))) (eK (.int 0))) aNil)))) aNil))) sNil) (sMPut 6 (eTup (aCons (eVar 7) (aCons (eVar 8) aNil))) (eK (.bool true)))) = tl at *
  unfold fdQ kT at ne
  generalize StepQ D B ks k s1 s2 s4 (.v (.bool nr)) (.v (nT k)) = QQ at ne go ⊢
  have early : W (sIf (tb (eOp2 gGt (eVar 10) (eK (.int 0)))) (sPar [7, 8] (aCons (eCall 2 m__law_pick (aCons (eVar 0) (aCons (eK (.int 21)) aNil))) (aCons (eCall 2 m__law_pick (aCons (eVar 0) (aCons (eK (.int 21)) aNil))) aNil))) sNil [.ow true (.l (dkT D)), s1, s2, .v (bkT B ks), s4, .ow false (.l (qs.map ptT)), .ow false (.m (mkC ts)), .v (.int c.1), .v (.int c.2), .v (.bool nr), .v (nT k), s11, s12]) (KSeq tl QQ) := by
    generalize bkT B ks = bk0 at *
    repeat' decreasing_trivial_pre_omega
    refine kif_d (fun h1 => ?_) fun h1 => ?_
    · repeat' decreasing_trivial_pre_omega
      refine w_imp (pick_w D 21 (by decide) (by decide) (by omega)) ?_
      rintro _ _ ⟨v, D1, hv, hc1, rfl, rfl⟩
      repeat' decreasing_trivial_pre_omega
      refine w_imp (pick_w D1 21 (by decide) (by decide) (by omega)) ?_
      rintro _ _ ⟨u, D2, hu, hc2, rfl, rfl⟩
      repeat' decreasing_trivial_pre_omega
      exact go D2 (v, u) s11 s12 (by omega) ⟨⟨by show (0 : Int) ≤ (v : Int); omega, by show (v : Int) ≤ 20; omega⟩, ⟨by show (0 : Int) ≤ (u : Int); omega, by show (u : Int) ≤ 20; omega⟩⟩ a11 a12
    · repeat' decreasing_trivial_pre_omega
      exact go D c s11 s12 (by omega) hr a11 a12
  generalize (sIf (tb (eOp2 gGt (eVar 10) (eK (.int 0)))) (sPar [7, 8] (aCons (eCall 2 m__law_pick (aCons (eVar 0) (aCons (eK (.int 21)) aNil))) (aCons (eCall 2 m__law_pick (aCons (eVar 0) (aCons (eK (.int 21)) aNil))) aNil))) sNil) = el at *
  cases nr with
  | false =>
    repeat' decreasing_trivial_pre_omega
    exact early
  | true =>
    by_cases h1 : 0 < k
    · have n := ne h1
      clear ne
      have hi : decide ((0 : Int) < (k : Int)) = true := decide_eq_true (by omega)
      generalize hX : x1__law_field = xx at *
      generalize bkT B ks = bk0 at *
      repeat' decreasing_trivial_pre_omega
      rw [← hX]
      refine w_imp (ways_w ts [(c.1 + 1, c.2), (c.1 - 1, c.2), (c.1, c.2 + 1), (c.1, c.2 - 1)] (Nat.le_refl 4) _ _ _ _ _ _ _ _ _ _ s12 a12) ?_
      rintro _ _ ⟨rfl, rfl⟩
      generalize hF : List.filter (wayB ts) _ = fs
      have hfs : ∀ f ∈ fs, (0 ≤ f.1 ∧ f.1 ≤ 20) ∧ (0 ≤ f.2 ∧ f.2 ≤ 20) := fun f hf => by
        rw [← hF] at hf
        exact wayB_ok (List.mem_filter.mp hf).2
      have hfl : fs.length ≤ 4 := by rw [← hF]; exact List.length_filter_le ..
      have g0 := gEq_nl id (n := 1) (by decide) (xs := fs.map cT) (fun x hx => by obtain ⟨c, _, rfl⟩ := List.mem_map.mp hx; exact sh_cT 0 c)
      have fl : (fs.map cT).length = fs.length := List.length_map ..
      by_cases h2 : fs = []
      · subst h2
        repeat' decreasing_trivial_pre_omega
        exact n D _ _ _ _ _ _ _ _ _ _ (by omega)
      · have h3 : (fs.map cT).isEmpty = false := by cases fs with | nil => exact absurd rfl h2 | cons a b => rfl
        have h4 : 0 < fs.length := List.length_pos_iff.mpr h2
        rw [h3] at g0
        have gg : ∀ v (hv : v < fs.length), gIx (.list (fs.map cT)) (.int (v : Int)) = some (.r (cT fs[v])) := fun v hv => gIx_l (by rw [List.getElem?_map, List.getElem?_eq_getElem hv]; rfl)
        generalize fs.map cT = us at *
        repeat' decreasing_trivial_pre_omega
        rw [fl]
        refine w_imp (pick_w D fs.length h4 (by omega) (by omega)) ?_
        rintro _ _ ⟨v, D1, hv, hc1, rfl, rfl⟩
        have g1 := gg v hv
        have rv := hfs _ (List.getElem_mem hv)
        generalize fs[v] = f at *
        repeat' decreasing_trivial_pre_omega
        exact go D1 f _ s12 (by omega) rv rfl a12
    · have hi : decide ((0 : Int) < (k : Int)) = false := decide_eq_false (by omega)
      generalize bkT B ks = bk0 at *
      repeat' decreasing_trivial_pre_omega
      exact early

set_option linter.all false
set_option maxRecDepth 100000
set_option maxHeartbeats 4000000
open PySem PySem.Spec Ev Pu Mt Wp
/-- a field that has been made -/
structure FdOk (B : Nat) (ks : List (List Pt)) (qs : List Pt) : Prop where
  g : Good B ks
  kl : ks.length ≤ 10
  pos : 0 < qs.length
  few : qs.length ≤ 12
  rng : ∀ p ∈ qs, (0 ≤ p.1 ∧ p.1 ≤ 20) ∧ (0 ≤ p.2.1 ∧ p.2.1 ≤ 20) ∧ p.2.2 < ks.length
  nod : (qs.map fun p => (p.1, p.2.1)).Nodup
theorem SqI.fd {B : Nat} {ks : List (List Pt)} (g : Good B ks) (kl : ks.length ≤ 10) {k : Nat} (hk : k ≤ 12) {qs : List Pt} {ts : List (Int × Int)} (h : SqI ks.length k qs ts) (h0 : 0 < qs.length) : FdOk B ks qs :=
  ⟨g, kl, h0, by have := h.few; omega, h.rng, h.nod⟩
def FieldQ (D : Dk) (a b : Nat) : Od → En → Prop := fun r e => ∃ (D' : Dk) (B : Nat) (ks : List (List Pt)) (qs : List Pt), D'.c ≤ D.c + 400 ∧ FdOk B ks qs ∧ r = .r (fdQ B ks qs) ∧ e = [.ow true (.l (dkT D')), .v (nT a), .v (nT b)]
theorem field_w (D : Dk) (most kinds : Nat) (hm : 0 < most ∧ most ≤ 12) (hk : 4 ≤ kinds ∧ kinds ≤ 8) (hc : D.c + 2000 ≤ 10 ^ 9) : W (m__law_field [.ow true (.l (dkT D)), .v (nT most), .v (nT kinds)]) (FieldQ D most kinds) := by
  unfold m__law_field
  (apply Wp.w_fun; (focus (rfl; done)); (focus (((try simp only [List.cons_append, List.nil_append, List.length_cons, List.length_nil, Nat.reduceAdd, Nat.reduceSub, Nat.zero_add, Nat.sub_zero, List.replicate_succ, List.replicate_zero, List.append_nil]); rfl); done)))
  unfold b__law_field
  repeat' decreasing_trivial_pre_omega
  refine w_imp (book_w D kinds hk (by omega)) ?_
  rintro _ _ ⟨D1, B, ks, hc1, g, kl, rfl, rfl⟩
  repeat' decreasing_trivial_pre_omega
  refine w_imp (pick_w D1 most hm.1 (by omega) (by omega)) ?_
  rintro _ _ ⟨v, D2, hv, hc2, rfl, rfl⟩
  repeat' decreasing_trivial_pre_omega
  refine w_imp (pick_w D2 21 (by decide) (by decide) (by omega)) ?_
  rintro _ _ ⟨x, D3, hx, hc3, rfl, rfl⟩
  repeat' decreasing_trivial_pre_omega
  refine w_imp (pick_w D3 21 (by decide) (by decide) (by omega)) ?_
  rintro _ _ ⟨y, D4, hy, hc4, rfl, rfl⟩
  repeat' decreasing_trivial_pre_omega
  refine w_imp (pick_w D4 3 (by decide) (by decide) (by omega)) ?_
  rintro _ _ ⟨nr, D5, hnr, hc5, rfl, rfl⟩
  repeat' decreasing_trivial_pre_omega
  unfold l1__law_field
  repeat' decreasing_trivial_pre_omega
  generalize decide ((0 : Int) < (nr : Int)) = nb
  refine kr1_eq (1 + v) rfl (by omega) (by omega) (for_below (fun k e => ∃ (D' : Dk) (qs : List Pt) (ts : List (Int × Int)) (c : Int × Int) (s10 s11 s12 : Sl), D'.c ≤ D5.c + k * 4 ∧ SqI ks.length k qs ts ∧ ((0 ≤ c.1 ∧ c.1 ≤ 20) ∧ (0 ≤ c.2 ∧ c.2 ≤ 20)) ∧ (lentS s10 = false ∧ lentS s11 = false ∧ lentS s12 = false) ∧ e = [.ow true (.l (dkT D')), .v (nT most), .v (nT kinds), .v (bkT B ks), .v (.int (1 + (v : Int))), .ow false (.l (qs.map ptT)), .ow false (.m (mkC ts)), .v (.int c.1), .v (.int c.2), .v (.bool nb), s10, s11, s12])
    ⟨D5, [], [], (x, y), .un, .un, .un, by omega, ⟨by simp, by simp, fun z => by omega, fun _ => rfl, by simp, by simp, by simp⟩, ⟨⟨by show (0 : Int) ≤ (x : Int); omega, by show (x : Int) ≤ 20; omega⟩, ⟨by show (0 : Int) ≤ (y : Int); omega, by show (y : Int) ≤ 20; omega⟩⟩, ⟨rfl, rfl, rfl⟩, rfl⟩ ?_ ?_)
  · rintro k hk e ⟨D', qs, ts, c, s10, s11, s12, h1, h2, h3, ⟨a10, a11, a12⟩, rfl⟩
    refine ⟨_, gN_ok (by first | rfl | exact Wp.isLent_of rfl (by assumption)) rfl, ?_⟩
    refine w_imp (step_w D' ⟨g.pos, by omega⟩ (by omega) h2 c h3 (by omega) nb _ _ _ s11 s12 a11 a12) ?_
    rintro fl e (⟨rfl, D6, qs, ts, c, s11, s12, h4, h5, h6, ⟨a11, a12⟩, rfl⟩ | ⟨D6, qs, ts, s3, s4, s5, s6, s7, s8, s9, s10, s11, s12, h4, h5, h6, rfl, rfl⟩)
    · refine kturn_nx ?_
      exact ⟨D6, qs, ts, c, _, s11, s12, by omega, h5, h6, ⟨rfl, a11, a12⟩, rfl⟩
    · repeat' decreasing_trivial_pre_omega
      exact ⟨D6, B, ks, qs, by omega, h5.fd g kl (by omega) h6, rfl, rfl⟩
  · rintro e ⟨D', qs, ts, c, s10, s11, s12, h1, h2, h3, ⟨a10, a11, a12⟩, rfl⟩
    repeat' decreasing_trivial_pre_omega
    exact ⟨D', B, ks, qs, by omega, h2.fd g kl (by omega) (h2.ne (by omega)), rfl, rfl⟩

set_option linter.all false
set_option maxRecDepth 100000
set_option maxHeartbeats 4000000
open PySem PySem.Spec Ev Pu Mt Wp
/-- trees near fields: what is put in them is small -/
inductive Nr : Nat → Nat → T → Prop
  | non (n m : Nat) : Nr n m .none
  | bl (n m : Nat) (b : Bool) : Nr n m (.bool b)
  | int (n m : Nat) (i : Int) (h : -1 ≤ i ∧ i ≤ 20) : Nr n m (.int i)
  | str (n m : Nat) : Nr n m (.str "0")
  | tup {n m : Nat} {xs : List T} (h : ∀ x ∈ xs, Nr n m x) (hl : xs.length ≤ m) : Nr (n + 1) m (.tuple xs)
  | lst {n m : Nat} {xs : List T} (h : ∀ x ∈ xs, Nr n m x) (hl : xs.length ≤ m) : Nr (n + 1) m (.list xs)
theorem Nr.mono {n m : Nat} {t : T} (h : Nr n m t) : ∀ {n' m' : Nat}, n ≤ n' → m ≤ m' → Nr n' m' t := by
  induction h with
  | non n m => exact fun _ _ => .non _ _
  | bl n m b => exact fun _ _ => .bl _ _ b
  | int n m i h => exact fun _ _ => .int _ _ i h
  | str n m => exact fun _ _ => .str _ _
  | @tup n m xs h hl ih =>
    intro n' m' h1 h2
    match n', h1 with
    | n' + 1, h1 => exact .tup (fun x hx => ih x hx (by omega) h2) (by omega)
  | @lst n m xs h hl ih =>
    intro n' m' h1 h2
    match n', h1 with
    | n' + 1, h1 => exact .lst (fun x hx => ih x hx (by omega) h2) (by omega)
theorem law_whole_ok (t : T) (n : Int) : m__law_whole [.v t, .v (.int n)] = .ok (.r (.bool (isI n t))) [.v t, .v (.int n)] := by
  cases t with
  | int i =>
    by_cases h : 0 ≤ i
    · by_cases h2 : i < n
      · simp only [m__law_whole, b__law_whole, eMLenE, eRep, eDLen, eNNew, eNLen, eListRng, gMax1, gSum, eMIn, eMInE, sMPut, eMNew, eMDict1, eMLen, eListZip, Option.isSome_none, Option.isSome_some, eMut, gAppend, gInsert, eRev, eIndex, eLenSet, gInt, gLen, gTuple, gList, gAbs, gMax2, gMin2, gDivmod, gEq_int, runFn, sSeq, sIf, sSet, sSetIx, sRet, sRetN, sNil, sDrop, sAsg, sFor, sPar, sNever, setO, retO, setOs, presc, eVar, eK, eTwo, v2, eFn, eDisp, eTup, eLst, eCall, eCallR, eCallK, pick, toSl, toSls, sIdx, wb, bk, esc, escs, vals, aNil, aCons, tb, Ev.tNot, Ev.tAnd, Ev.tOr, gGt, gLt, gGe, gLe, gSub, gMod, gDiv, gPow, gAdd, gMul, gInt, mulOk, g1, g2, fInt, fLen, fTuple, fList, fAbs, eAnd, eOr, eNot, eIf, eNeg, eIsi, gII, gIx, gIsN, gN, gT, gsNil, gsCons, isLent_eq, lentO, lentS_v, lentS_un, lentS_f, lentS_t, lentS_z, finE, okArg, Out.bind, Od.val, slVal, Bx.tr, Bx.t, isN, L2.ixN, L2.atI, isInt, isBool, isTuple, isList, isStr, isDict, isTL, Nat.zero_le, id_eq, eq_self, Pu.c0, Pu.c1, Pu.c2, Pu.c3, Pu.c4, Pu.c5, Pu.c6, Pu.c7, Pu.c8, Pu.c9, Pu.s1, Pu.s2, Pu.s3, Pu.s4, Pu.s5, Pu.s6, Pu.s7, Pu.s8, Pu.s9, Int.reduceEq, Nat.reduceMul, Int.ofNat_eq_natCast, wipeE, restE, exists_eq_left', Option.some.injEq, Out.ok.injEq, Prod.mk.injEq, Option.bind_some, Option.bind_none, Option.bind_eq_bind, List.getElem?_cons_zero, List.getElem?_cons_succ, List.getElem?_nil, List.set_cons_zero, List.set_cons_succ, List.set_nil, List.length_cons, List.length_nil, List.replicate_succ, List.replicate_zero, List.cons_append, List.nil_append, List.append_nil, List.all_cons, List.all_nil, Bool.and_true, Bool.true_and, Bool.and_false, Bool.false_and, if_true, if_false, ite_true, ite_false, List.nodup_cons, List.nodup_nil, List.not_mem_nil, List.mem_cons, not_false_eq_true, and_true, true_and, reduceIte, Nat.reduceAdd, Nat.reduceSub, Nat.reduceEqDiff, Nat.reduceLT, Nat.reduceLeDiff, Option.map_some, Option.map_none, Option.getD_some, reduceCtorEq, or_self, or_false, false_or, not_true_eq_false, decide_true, decide_false, Bool.not_true, Bool.not_false, Bool.false_eq_true, Nat.zero_add, Nat.add_zero, forall_const, Int.reduceLT, Int.reduceLE, Int.reduceNeg, Int.reduceToNat, Int.toNat_natCast, and_self, eChn, chainK, chainO, isI, isInt, isBool, h, h2]
      · simp only [m__law_whole, b__law_whole, eMLenE, eRep, eDLen, eNNew, eNLen, eListRng, gMax1, gSum, eMIn, eMInE, sMPut, eMNew, eMDict1, eMLen, eListZip, Option.isSome_none, Option.isSome_some, eMut, gAppend, gInsert, eRev, eIndex, eLenSet, gInt, gLen, gTuple, gList, gAbs, gMax2, gMin2, gDivmod, gEq_int, runFn, sSeq, sIf, sSet, sSetIx, sRet, sRetN, sNil, sDrop, sAsg, sFor, sPar, sNever, setO, retO, setOs, presc, eVar, eK, eTwo, v2, eFn, eDisp, eTup, eLst, eCall, eCallR, eCallK, pick, toSl, toSls, sIdx, wb, bk, esc, escs, vals, aNil, aCons, tb, Ev.tNot, Ev.tAnd, Ev.tOr, gGt, gLt, gGe, gLe, gSub, gMod, gDiv, gPow, gAdd, gMul, gInt, mulOk, g1, g2, fInt, fLen, fTuple, fList, fAbs, eAnd, eOr, eNot, eIf, eNeg, eIsi, gII, gIx, gIsN, gN, gT, gsNil, gsCons, isLent_eq, lentO, lentS_v, lentS_un, lentS_f, lentS_t, lentS_z, finE, okArg, Out.bind, Od.val, slVal, Bx.tr, Bx.t, isN, L2.ixN, L2.atI, isInt, isBool, isTuple, isList, isStr, isDict, isTL, Nat.zero_le, id_eq, eq_self, Pu.c0, Pu.c1, Pu.c2, Pu.c3, Pu.c4, Pu.c5, Pu.c6, Pu.c7, Pu.c8, Pu.c9, Pu.s1, Pu.s2, Pu.s3, Pu.s4, Pu.s5, Pu.s6, Pu.s7, Pu.s8, Pu.s9, Int.reduceEq, Nat.reduceMul, Int.ofNat_eq_natCast, wipeE, restE, exists_eq_left', Option.some.injEq, Out.ok.injEq, Prod.mk.injEq, Option.bind_some, Option.bind_none, Option.bind_eq_bind, List.getElem?_cons_zero, List.getElem?_cons_succ, List.getElem?_nil, List.set_cons_zero, List.set_cons_succ, List.set_nil, List.length_cons, List.length_nil, List.replicate_succ, List.replicate_zero, List.cons_append, List.nil_append, List.append_nil, List.all_cons, List.all_nil, Bool.and_true, Bool.true_and, Bool.and_false, Bool.false_and, if_true, if_false, ite_true, ite_false, List.nodup_cons, List.nodup_nil, List.not_mem_nil, List.mem_cons, not_false_eq_true, and_true, true_and, reduceIte, Nat.reduceAdd, Nat.reduceSub, Nat.reduceEqDiff, Nat.reduceLT, Nat.reduceLeDiff, Option.map_some, Option.map_none, Option.getD_some, reduceCtorEq, or_self, or_false, false_or, not_true_eq_false, decide_true, decide_false, Bool.not_true, Bool.not_false, Bool.false_eq_true, Nat.zero_add, Nat.add_zero, forall_const, Int.reduceLT, Int.reduceLE, Int.reduceNeg, Int.reduceToNat, Int.toNat_natCast, and_self, eChn, chainK, chainO, isI, isInt, isBool, h, h2]
    · simp only [m__law_whole, b__law_whole, eMLenE, eRep, eDLen, eNNew, eNLen, eListRng, gMax1, gSum, eMIn, eMInE, sMPut, eMNew, eMDict1, eMLen, eListZip, Option.isSome_none, Option.isSome_some, eMut, gAppend, gInsert, eRev, eIndex, eLenSet, gInt, gLen, gTuple, gList, gAbs, gMax2, gMin2, gDivmod, gEq_int, runFn, sSeq, sIf, sSet, sSetIx, sRet, sRetN, sNil, sDrop, sAsg, sFor, sPar, sNever, setO, retO, setOs, presc, eVar, eK, eTwo, v2, eFn, eDisp, eTup, eLst, eCall, eCallR, eCallK, pick, toSl, toSls, sIdx, wb, bk, esc, escs, vals, aNil, aCons, tb, Ev.tNot, Ev.tAnd, Ev.tOr, gGt, gLt, gGe, gLe, gSub, gMod, gDiv, gPow, gAdd, gMul, gInt, mulOk, g1, g2, fInt, fLen, fTuple, fList, fAbs, eAnd, eOr, eNot, eIf, eNeg, eIsi, gII, gIx, gIsN, gN, gT, gsNil, gsCons, isLent_eq, lentO, lentS_v, lentS_un, lentS_f, lentS_t, lentS_z, finE, okArg, Out.bind, Od.val, slVal, Bx.tr, Bx.t, isN, L2.ixN, L2.atI, isInt, isBool, isTuple, isList, isStr, isDict, isTL, Nat.zero_le, id_eq, eq_self, Pu.c0, Pu.c1, Pu.c2, Pu.c3, Pu.c4, Pu.c5, Pu.c6, Pu.c7, Pu.c8, Pu.c9, Pu.s1, Pu.s2, Pu.s3, Pu.s4, Pu.s5, Pu.s6, Pu.s7, Pu.s8, Pu.s9, Int.reduceEq, Nat.reduceMul, Int.ofNat_eq_natCast, wipeE, restE, exists_eq_left', Option.some.injEq, Out.ok.injEq, Prod.mk.injEq, Option.bind_some, Option.bind_none, Option.bind_eq_bind, List.getElem?_cons_zero, List.getElem?_cons_succ, List.getElem?_nil, List.set_cons_zero, List.set_cons_succ, List.set_nil, List.length_cons, List.length_nil, List.replicate_succ, List.replicate_zero, List.cons_append, List.nil_append, List.append_nil, List.all_cons, List.all_nil, Bool.and_true, Bool.true_and, Bool.and_false, Bool.false_and, if_true, if_false, ite_true, ite_false, List.nodup_cons, List.nodup_nil, List.not_mem_nil, List.mem_cons, not_false_eq_true, and_true, true_and, reduceIte, Nat.reduceAdd, Nat.reduceSub, Nat.reduceEqDiff, Nat.reduceLT, Nat.reduceLeDiff, Option.map_some, Option.map_none, Option.getD_some, reduceCtorEq, or_self, or_false, false_or, not_true_eq_false, decide_true, decide_false, Bool.not_true, Bool.not_false, Bool.false_eq_true, Nat.zero_add, Nat.add_zero, forall_const, Int.reduceLT, Int.reduceLE, Int.reduceNeg, Int.reduceToNat, Int.toNat_natCast, and_self, eChn, chainK, chainO, isI, isInt, isBool, h, false_and]
  | _ => rfl

set_option linter.all false
set_option maxRecDepth 100000
set_option maxHeartbeats 4000000
open PySem PySem.Spec Ev Pu Mt Wp
theorem w_lenset {m : SemE} {Q : Od → En → Prop} {e : En} (h : W (m e) fun r e1 => ∃ ts ns, r.val e1 = some (.list ts) ∧ tupsOf ts = some ns ∧ ns.length < 64 ∧ Q (.r (.int (dd ns).length)) e1) : W (eLenSet m e) Q := by
  unfold eLenSet
  refine w_bind (w_imp h fun r e1 ⟨ts, ns, h1, h2, h3, q⟩ => ?_)
  refine w_of ?_ q
  simp only [h1, h2]
  rw [if_pos h3]
theorem for_t (xs : List T) (I : List T → En → Prop) {g : SemG} {b : SemS} {Q : Fl → En → Prop} {e : En} (h0 : I [] e)
    (hs : ∀ (don : List T) (x : T) (rest : List T), xs = don ++ x :: rest → ∀ e, I don e → ∃ e1, g x e = some e1 ∧ W (b e1) (KTurn (I (don ++ [x])) (fun r e => Q (.rt r) e) (fun e => Q .nx e)))
    (hq : ∀ e, I xs e → Q .nx e) : W (forS g b xs e) Q := by
  have q := for_on_w (fun t : T => t) xs I (g := g) (b := b) (Q := Q) (e := e) h0 hs hq
  rwa [List.map_id'] at q
theorem comp_t (out : T → T) (xs : List T) {g : SemG} {m : SemE} {vs : List Nat} {Q : Od → En → Prop} {e : En} (hl : xs.length ≤ sizeLine)
    (hs : ∀ x ∈ xs, ∃ e1, g x (wipeE e vs) = some e1 ∧ W (m e1) (KElt fun u e4 => u = out x ∧ restE e e4 vs = e))
    (q : Q (.b (.l (xs.map out))) e) : KComp g tTrue m vs Q xs e := by
  have z := comp_map_w (fun t : T => t) out xs (g := g) (m := m) (vs := vs) (Q := Q) (e := e) hl hs q
  rwa [List.map_id'] at z
theorem compf_t (p : T → Bool) (xs : List T) {g : SemG} {c : SemT} {m : SemE} {vs : List Nat} {Q : Od → En → Prop} {e : En} (hl : xs.length ≤ sizeLine)
    (hs : ∀ x ∈ xs, ∃ e1, g x (wipeE e vs) = some e1 ∧ W (c e1) fun k e2 => k = p x ∧ (p x = false → restE e e2 vs = e) ∧ (p x = true → W (m e2) (KElt fun u e4 => u = x ∧ restE e e4 vs = e)))
    (q : Q (.b (.l (xs.filter p))) e) : KComp g c m vs Q xs e := by
  have z := comp_filter_w (fun t : T => t) (fun t : T => t) p xs (g := g) (c := c) (m := m) (vs := vs) (Q := Q) (e := e) hl hs (by rwa [List.map_id'])
  rwa [List.map_id'] at z
/-- triples, by the law -/
def trB (b n : Int) : T → Bool
  | .tuple ts => ts.all (isP b n) && decide ((dd (ts.map i3)).length = ts.length)
  | _ => false
theorem trB_t (b n : Int) (ts : List T) : trB b n (.tuple ts) = (ts.all (isP b n) && decide ((dd (ts.map i3)).length = ts.length)) := rfl
theorem trip_body (b n : Int) (t one : T) (Q : Fl → En → Prop) (q1 : isP b n one = true → Q .nx [.v t, .v (.int b), .v (.int n), .v one]) (q2 : isP b n one = false → Q (.rt (.r (.bool false))) [.v t, .v (.int b), .v (.int n), .v one]) : W (y1__law_triples [.v t, .v (.int b), .v (.int n), .v one]) Q := by
  unfold y1__law_triples
  cases one with
  | tuple ts =>
    match ts with
    | [x, y, k] =>
      have ix := law_whole_ok x b
      have iy := law_whole_ok y b
      have ik := law_whole_ok k n
      have hP : isP b n (.tuple [x, y, k]) = (isI b x && (isI b y && isI n k)) := rfl
      rw [hP] at q1 q2
      generalize isI b x = b1 at *
      generalize isI b y = b2 at *
      generalize isI n k = b3 at *
      clear hP
      repeat' decreasing_trivial_pre_omega
      refine w_of ik ?_
      clear ik
      cases b3 with
      | false =>
        repeat' decreasing_trivial_pre_omega
        exact q2 (by cases b1 <;> cases b2 <;> rfl)
      | true =>
        repeat' decreasing_trivial_pre_omega
        refine w_of ix ?_
        clear ix
        cases b1 with
        | false =>
          repeat' decreasing_trivial_pre_omega
          exact q2 rfl
        | true =>
          repeat' decreasing_trivial_pre_omega
          refine w_of iy ?_
          clear iy
          cases b2 with
          | false =>
            repeat' decreasing_trivial_pre_omega
            exact q2 rfl
          | true =>
            repeat' decreasing_trivial_pre_omega
            exact q1 rfl
    | [] =>
      repeat' decreasing_trivial_pre_omega
      exact q2 rfl
    | [_] =>
      repeat' decreasing_trivial_pre_omega
      exact q2 rfl
    | [_, _] =>
      repeat' decreasing_trivial_pre_omega
      exact q2 rfl
    | x :: y :: k :: z :: ts =>
      have h : decide (((x :: y :: k :: z :: ts).length : Int) = 3) = false := decide_eq_false (by simp only [List.length_cons]; omega)
      repeat' decreasing_trivial_pre_omega
      exact q2 rfl
  | _ =>
    repeat' decreasing_trivial_pre_omega
    exact q2 rfl
theorem cut_i3 {b n : Int} {t : T} (h : isP b n t = true) : ∃ xs, t = .tuple xs ∧ .tuple (cutT xs none (some 2)) = pl t := by
  obtain ⟨x, y, k, rfl, _⟩ := isP_form h
  exact ⟨_, rfl, rfl⟩
theorem triples_w (t : T) (b n : Int) (hl : ∀ ts, t = .tuple ts → ts.length < 64) : W (m__law_triples [.v t, .v (.int b), .v (.int n)]) fun r e => r = .r (.bool (trB b n t)) ∧ e = [.v t, .v (.int b), .v (.int n)] := by
  unfold m__law_triples
  (apply Wp.w_fun; (focus (rfl; done)); (focus (((try simp only [List.cons_append, List.nil_append, List.length_cons, List.length_nil, Nat.reduceAdd, Nat.reduceSub, Nat.zero_add, Nat.sub_zero, List.replicate_succ, List.replicate_zero, List.append_nil]); rfl); done)))
  unfold b__law_triples
  cases t with
  | tuple ts =>
    have hl := hl ts rfl
    repeat' decreasing_trivial_pre_omega
    unfold l1__law_triples
    repeat' decreasing_trivial_pre_omega
    refine for_t ts (fun don e => (∀ x ∈ don, isP b n x = true) ∧ ∃ s3, lentS s3 = false ∧ e = [.v (.tuple ts), .v (.int b), .v (.int n), s3]) ⟨by simp, .un, rfl, rfl⟩ ?_ ?_
    · rintro don x rest hx e ⟨h1, s3, h2, rfl⟩
      refine ⟨_, gN_ok (by first | rfl | exact Wp.isLent_of rfl (by assumption)) rfl, ?_⟩
      refine trip_body b n _ x _ (fun h => ?_) fun h => ?_
      · repeat' decreasing_trivial_pre_omega
        refine ⟨fun y hy => ?_, _, rfl, rfl⟩
        rcases List.mem_append.mp hy with hy | hy
        · exact h1 y hy
        · rw [List.mem_singleton.mp hy]; exact h
      · repeat' decreasing_trivial_pre_omega
        refine ⟨?_, rfl⟩
        have : trB b n (.tuple ts) = false := by
          rw [trB_t]
          rw [show ts.all (isP b n) = false from by rw [hx, List.all_append, List.all_cons, show isP b n x = false from h]; simp, Bool.false_and]
        rw [this]
    · rintro e ⟨h1, s3, h2, rfl⟩
      repeat' decreasing_trivial_pre_omega
      refine w_lenset ?_
      unfold x1__law_triples
      repeat' decreasing_trivial_pre_omega
      have tp := tups_places h1
      refine comp_t pl ts (by unfold sizeLine; omega) (fun x hx => ⟨_, rfl, ?_⟩) ?_
      · obtain ⟨xs, e1, e2⟩ := cut_i3 (h1 x hx)
        subst e1
        repeat' decreasing_trivial_pre_omega
        exact ⟨e2, rfl⟩
      · refine ⟨_, _, rfl, tp, by rw [List.length_map]; exact hl, ?_⟩
        repeat' decreasing_trivial_pre_omega
        refine ⟨congrArg (fun b => Od.r (.bool b)) ?_, rfl⟩
        rw [trB_t, List.all_eq_true.mpr h1, Bool.true_and]
        exact decide_eq_decide.mpr (by omega)
  | _ =>
    repeat' decreasing_trivial_pre_omega
    exact ⟨rfl, rfl⟩

set_option linter.all false
set_option maxRecDepth 100000
set_option maxHeartbeats 4000000
open PySem PySem.Spec Ev Pu Mt Wp
theorem strOk_0 : PyData.strOk ("0" : Str) = true := by decide +kernel
theorem Nr.sh {n m : Nat} {t : T} (h : Nr n m t) : Sh n t := by
  induction h with
  | non n m => exact .non _
  | bl n m b => exact .bl _ b
  | int n m i h => exact .int _ i
  | str n m => exact .str _ strOk_0
  | tup h hl ih => exact .tup ih
  | lst h hl ih => exact .lst ih
theorem Nr.tupLen {n m : Nat} {ts : List T} (h : Nr n m (.tuple ts)) : ts.length ≤ m := by cases h; assumption
theorem Nr.tupIn {n m : Nat} {ts : List T} (h : Nr (n + 1) m (.tuple ts)) : ∀ x ∈ ts, Nr n m x := by cases h; assumption
theorem Nr.tupIn' {n m : Nat} {ts : List T} (h : Nr n m (.tuple ts)) : ∀ x ∈ ts, Nr n m x := by
  cases h
  rename_i h _
  exact fun x hx => (h x hx).mono (by omega) (Nat.le_refl _)
/-- its length is b * b -/
def lenB (b : Int) : T → Bool
  | .tuple ts => decide ((ts.length : Int) = b * b)
  | _ => false
theorem kd_eq (b n : Int) (t : T) : isKd b n t = (trB b n t && lenB b t) := by
  cases t with
  | tuple ts =>
    show (decide ((ts.length : Int) = b * b) && ((ts.map (isP b n)).all id && decide (((dd (ts.map i3)).length : Int) = b * b))) = ((ts.all (isP b n) && decide ((dd (ts.map i3)).length = ts.length)) && decide ((ts.length : Int) = b * b))
    have e : (ts.map (isP b n)).all id = ts.all (isP b n) := by rw [List.all_map]; rfl
    rw [e]
    by_cases h : (ts.length : Int) = b * b
    · rw [decide_eq_true h, Bool.true_and, Bool.and_true]
      congr 1
      exact decide_eq_decide.mpr (by omega)
    · rw [decide_eq_false h, Bool.false_and, Bool.and_false]
  | _ => rfl
theorem book_kinds (t : T) {b : Nat} (hb : b = 2 ∨ b = 3) {ks : List T} {n m : Nat} (h : ∀ x ∈ ks, Nr n m x) (hm : m ≤ 60) (hl : ks.length ≤ 60) :
    W (x1__law_is_book [.v t, .v (nT b), .v (.tuple ks), .un]) fun r e => r = .b (.l (ks.filter fun k => !isKd b ks.length k)) ∧ e = [.v t, .v (nT b), .v (.tuple ks), .un] := by
  unfold x1__law_is_book
  have mb : mulOk (b : Int) (b : Int) = true := by rcases hb with rfl | rfl <;> decide
  repeat' decreasing_trivial_pre_omega
  refine compf_t (fun k => !isKd b ks.length k) ks (by unfold sizeLine; omega) (fun x hx => ⟨_, rfl, ?_⟩) ?_
  · have tw := triples_w x b ks.length fun ts e => by
      have := (e ▸ h x hx : Nr n m (.tuple ts)).tupLen
      omega
    rw [kd_eq]
    repeat' decreasing_trivial_pre_omega
    refine w_imp tw ?_
    rintro _ _ ⟨rfl, rfl⟩
    clear tw
    cases x with
    | tuple ts =>
      rw [show lenB (b : Int) (.tuple ts) = decide ((ts.length : Int) = (b : Int) * (b : Int)) from rfl]
      cases trB (b : Int) (ks.length : Int) (.tuple ts) with
      | true =>
        repeat' decreasing_trivial_pre_omega
        refine ⟨by rw [Bool.true_and, ← decide_not], fun _ => rfl, fun _ => ?_⟩
        repeat' decreasing_trivial_pre_omega
        exact ⟨rfl, rfl⟩
      | false =>
        repeat' decreasing_trivial_pre_omega
        refine ⟨rfl, fun _ => rfl, fun _ => ?_⟩
        repeat' decreasing_trivial_pre_omega
        exact ⟨rfl, rfl⟩
    | _ =>
      repeat' decreasing_trivial_pre_omega
      refine ⟨rfl, fun _ => rfl, fun _ => ?_⟩
      repeat' decreasing_trivial_pre_omega
      exact ⟨rfl, rfl⟩
  · exact ⟨rfl, rfl⟩
theorem isBk_t (b : Int) (ks : List T) : isBk (.tuple [.int b, .tuple ks]) = ((decide (2 = b) || decide (3 = b)) && (decide (0 < ks.length) && (ks.map (isKd b ks.length)).all id)) := rfl
theorem filter_none (p : T → Bool) (ks : List T) : (ks.filter fun k => !p k).isEmpty = (ks.map p).all id := by
  induction ks with
  | nil => rfl
  | cons k ks ih =>
    rw [List.filter_cons, List.map_cons, List.all_cons]
    cases p k with
    | true => exact ih
    | false => rfl
theorem law_is_book_w {n m : Nat} {t : T} (h : Nr n m t) (hn : n ≤ 40) (hm : m ≤ 60) : W (m__law_is_book [.v t]) fun r e => r = .r (.bool (isBk t)) ∧ e = [.v t] := by
  unfold m__law_is_book
  (apply Wp.w_fun; (focus (rfl; done)); (focus (((try simp only [List.cons_append, List.nil_append, List.length_cons, List.length_nil, Nat.reduceAdd, Nat.reduceSub, Nat.zero_add, Nat.sub_zero, List.replicate_succ, List.replicate_zero, List.append_nil]); rfl); done)))
  unfold b__law_is_book
  cases t with
  | tuple ts =>
    match ts, h with
    | [bt, kt], h =>
      have wk := law_whole_ok bt 4
      cases hi : isI 4 bt with
      | false =>
        rw [hi] at wk
        have no : isBk (.tuple [bt, kt]) = false := by
          cases bt with
          | int b =>
            cases kt with
            | tuple ks =>
              rw [isBk_t]
              have hb : ¬ (0 ≤ b ∧ b < 4) := of_decide_eq_false hi
              rw [decide_eq_false (by omega : ¬ 2 = b), decide_eq_false (by omega : ¬ 3 = b)]
              rfl
            | _ => rfl
          | _ => rfl
        rw [no]
        repeat' decreasing_trivial_pre_omega
        refine w_of wk ?_
        clear wk
        repeat' decreasing_trivial_pre_omega
        exact ⟨rfl, rfl⟩
      | true =>
        rw [hi] at wk
        cases bt with
        | int b =>
          have hb : 0 ≤ b ∧ b < 4 := of_decide_eq_true hi
          by_cases h2 : b < 2
          · have no : isBk (.tuple [.int b, kt]) = false := by
              cases kt with
              | tuple ks =>
                rw [isBk_t, decide_eq_false (by omega : ¬ 2 = b), decide_eq_false (by omega : ¬ 3 = b)]
                rfl
              | _ => rfl
            rw [no]
            have h2 := decide_eq_true h2
            repeat' decreasing_trivial_pre_omega
            refine w_of wk ?_
            clear wk
            repeat' decreasing_trivial_pre_omega
            exact ⟨rfl, rfl⟩
          · obtain ⟨B, rfl⟩ : ∃ B : Nat, b = (B : Int) := ⟨b.toNat, by omega⟩
            have hB : B = 2 ∨ B = 3 := by omega
            have two : (decide ((2 : Int) = (B : Int)) || decide ((3 : Int) = (B : Int))) = true := by rcases hB with rfl | rfl <;> rfl
            have h2 := decide_eq_false h2
            cases kt with
            | tuple ks =>
              have hk := h.tupIn' (.tuple ks) (by simp)
              have g0 := gEq_tl id (n := n) (by omega) (xs := ks) (fun x hx => (hk.tupIn' x hx).sh)
              have kl := hk.tupLen
              rw [isBk_t, two, Bool.true_and]
              cases ks with
              | nil =>
                repeat' decreasing_trivial_pre_omega
                refine w_of wk ?_
                clear wk
                repeat' decreasing_trivial_pre_omega
                exact ⟨rfl, rfl⟩
              | cons k0 ks0 =>
                generalize hks : k0 :: ks0 = ks at *
                have em : ks.isEmpty = false := by rw [← hks]; rfl
                have pos : 0 < ks.length := by rw [← hks]; simp
                rw [em] at g0
                have bk := book_kinds (.tuple [nT B, .tuple ks]) hB hk.tupIn' hm (by omega)
                have fn := filter_none (isKd (B : Int) (ks.length : Int)) ks
                have g1 := gEq_nl id (n := n) (by omega) (xs := ks.filter fun k => !isKd (B : Int) (ks.length : Int) k) (fun x hx => (hk.tupIn' x (List.mem_filter.mp hx).1).sh)
                rw [fn] at g1
                repeat' decreasing_trivial_pre_omega
                refine w_of wk ?_
                clear wk
                repeat' decreasing_trivial_pre_omega
                refine w_imp bk ?_
                rintro _ _ ⟨rfl, rfl⟩
                repeat' decreasing_trivial_pre_omega
                refine ⟨?_, rfl⟩
                rw [decide_eq_true pos, Bool.true_and]
                rfl
            | _ =>
              repeat' decreasing_trivial_pre_omega
              refine w_of wk ?_
              clear wk
              repeat' decreasing_trivial_pre_omega
              exact ⟨rfl, rfl⟩
        | _ => cases hi
    | [], h =>
      repeat' decreasing_trivial_pre_omega
      exact ⟨rfl, rfl⟩
    | [x], h =>
      repeat' decreasing_trivial_pre_omega
      exact ⟨by cases x <;> rfl, rfl⟩
    | x :: y :: z :: us, h =>
      have hl : decide (((x :: y :: z :: us).length : Int) = 2) = false := decide_eq_false (by simp only [List.length_cons]; omega)
      repeat' decreasing_trivial_pre_omega
      exact ⟨by cases x <;> first | rfl | (cases y <;> rfl), rfl⟩
  | _ =>
    repeat' decreasing_trivial_pre_omega
    exact ⟨rfl, rfl⟩

set_option linter.all false
set_option maxRecDepth 100000
set_option maxHeartbeats 4000000
open PySem PySem.Spec Ev Pu Mt Wp
def isS (n : Int) : T → Bool
  | .tuple [x, y, k] => isC x && (isC y && isI n k)
  | _ => false
theorem is_square_ok (n : Int) (t : T) : m__is_square [.v (.int n), .v t] = .ok (.r (.bool (isS n t))) [.v (.int n), .v t] := by
  cases t with
  | tuple ts =>
    match ts with
    | [x, y, k] =>
      cases hx : isC x <;> cases hy : isC y <;> simp only [m__is_square, b__is_square, is_count_ok, is_index_ok, eMLenE, eRep, eDLen, eNNew, eNLen, eListRng, gMax1, gSum, eMIn, eMInE, sMPut, eMNew, eMDict1, eMLen, eListZip, Option.isSome_none, Option.isSome_some, eMut, gAppend, gInsert, eRev, eIndex, eLenSet, gInt, gLen, gTuple, gList, gAbs, gMax2, gMin2, gDivmod, gEq_int, runFn, sSeq, sIf, sSet, sSetIx, sRet, sRetN, sNil, sDrop, sAsg, sFor, sPar, sNever, setO, retO, setOs, presc, eVar, eK, eTwo, v2, eFn, eDisp, eTup, eLst, eCall, eCallR, eCallK, pick, toSl, toSls, sIdx, wb, bk, esc, escs, vals, aNil, aCons, tb, Ev.tNot, Ev.tAnd, Ev.tOr, gGt, gLt, gGe, gLe, gSub, gMod, gDiv, gPow, gAdd, gMul, gInt, mulOk, g1, g2, fInt, fLen, fTuple, fList, fAbs, eAnd, eOr, eNot, eIf, eNeg, eIsi, gII, gIx, gIsN, gN, gT, gsNil, gsCons, isLent_eq, lentO, lentS_v, lentS_un, lentS_f, lentS_t, lentS_z, finE, okArg, Out.bind, Od.val, slVal, Bx.tr, Bx.t, isN, L2.ixN, L2.atI, isInt, isBool, isTuple, isList, isStr, isDict, isTL, Nat.zero_le, id_eq, eq_self, Pu.c0, Pu.c1, Pu.c2, Pu.c3, Pu.c4, Pu.c5, Pu.c6, Pu.c7, Pu.c8, Pu.c9, Pu.s1, Pu.s2, Pu.s3, Pu.s4, Pu.s5, Pu.s6, Pu.s7, Pu.s8, Pu.s9, Int.reduceEq, Nat.reduceMul, Int.ofNat_eq_natCast, wipeE, restE, exists_eq_left', Option.some.injEq, Out.ok.injEq, Prod.mk.injEq, Option.bind_some, Option.bind_none, Option.bind_eq_bind, List.getElem?_cons_zero, List.getElem?_cons_succ, List.getElem?_nil, List.set_cons_zero, List.set_cons_succ, List.set_nil, List.length_cons, List.length_nil, List.replicate_succ, List.replicate_zero, List.cons_append, List.nil_append, List.append_nil, List.all_cons, List.all_nil, Bool.and_true, Bool.true_and, Bool.and_false, Bool.false_and, if_true, if_false, ite_true, ite_false, List.nodup_cons, List.nodup_nil, List.not_mem_nil, List.mem_cons, not_false_eq_true, and_true, true_and, reduceIte, Nat.reduceAdd, Nat.reduceSub, Nat.reduceEqDiff, Nat.reduceLT, Nat.reduceLeDiff, Option.map_some, Option.map_none, Option.getD_some, reduceCtorEq, or_self, or_false, false_or, not_true_eq_false, decide_true, decide_false, Bool.not_true, Bool.not_false, Bool.false_eq_true, Nat.zero_add, Nat.add_zero, forall_const, Int.reduceLT, Int.reduceLE, Int.reduceNeg, Int.reduceToNat, Int.toNat_natCast, and_self, isS, hx, hy]
    | [] => rfl
    | [_] => rfl
    | [_, _] => rfl
    | x :: y :: k :: z :: ts =>
      have h : decide (((ts.length + 1 + 1 + 1 + 1 : Nat) : Int) = 3) = false := by simp; omega
      simp only [m__is_square, b__is_square, is_index_ok, eMLenE, eRep, eDLen, eNNew, eNLen, eListRng, gMax1, gSum, eMIn, eMInE, sMPut, eMNew, eMDict1, eMLen, eListZip, Option.isSome_none, Option.isSome_some, eMut, gAppend, gInsert, eRev, eIndex, eLenSet, gInt, gLen, gTuple, gList, gAbs, gMax2, gMin2, gDivmod, gEq_int, runFn, sSeq, sIf, sSet, sSetIx, sRet, sRetN, sNil, sDrop, sAsg, sFor, sPar, sNever, setO, retO, setOs, presc, eVar, eK, eTwo, v2, eFn, eDisp, eTup, eLst, eCall, eCallR, eCallK, pick, toSl, toSls, sIdx, wb, bk, esc, escs, vals, aNil, aCons, tb, Ev.tNot, Ev.tAnd, Ev.tOr, gGt, gLt, gGe, gLe, gSub, gMod, gDiv, gPow, gAdd, gMul, gInt, mulOk, g1, g2, fInt, fLen, fTuple, fList, fAbs, eAnd, eOr, eNot, eIf, eNeg, eIsi, gII, gIx, gIsN, gN, gT, gsNil, gsCons, isLent_eq, lentO, lentS_v, lentS_un, lentS_f, lentS_t, lentS_z, finE, okArg, Out.bind, Od.val, slVal, Bx.tr, Bx.t, isN, L2.ixN, L2.atI, isInt, isBool, isTuple, isList, isStr, isDict, isTL, Nat.zero_le, id_eq, eq_self, Pu.c0, Pu.c1, Pu.c2, Pu.c3, Pu.c4, Pu.c5, Pu.c6, Pu.c7, Pu.c8, Pu.c9, Pu.s1, Pu.s2, Pu.s3, Pu.s4, Pu.s5, Pu.s6, Pu.s7, Pu.s8, Pu.s9, Int.reduceEq, Nat.reduceMul, Int.ofNat_eq_natCast, wipeE, restE, exists_eq_left', Option.some.injEq, Out.ok.injEq, Prod.mk.injEq, Option.bind_some, Option.bind_none, Option.bind_eq_bind, List.getElem?_cons_zero, List.getElem?_cons_succ, List.getElem?_nil, List.set_cons_zero, List.set_cons_succ, List.set_nil, List.length_cons, List.length_nil, List.replicate_succ, List.replicate_zero, List.cons_append, List.nil_append, List.append_nil, List.all_cons, List.all_nil, Bool.and_true, Bool.true_and, Bool.and_false, Bool.false_and, if_true, if_false, ite_true, ite_false, List.nodup_cons, List.nodup_nil, List.not_mem_nil, List.mem_cons, not_false_eq_true, and_true, true_and, reduceIte, Nat.reduceAdd, Nat.reduceSub, Nat.reduceEqDiff, Nat.reduceLT, Nat.reduceLeDiff, Option.map_some, Option.map_none, Option.getD_some, reduceCtorEq, or_self, or_false, false_or, not_true_eq_false, decide_true, decide_false, Bool.not_true, Bool.not_false, Bool.false_eq_true, Nat.zero_add, Nat.add_zero, forall_const, Int.reduceLT, Int.reduceLE, Int.reduceNeg, Int.reduceToNat, Int.toNat_natCast, and_self, isS, h]
  | _ => rfl
def nK : T → Nat
  | .tuple [_, .tuple ks] => ks.length
  | _ => 0
def isFd : T → Bool
  | .tuple [bt, .tuple qs] => isBk bt && (decide (0 < qs.length) && (qs.all (isS (nK bt)) && decide ((dd (qs.map i3)).length = qs.length)))
  | _ => false
theorem isFd_t (bt : T) (qs : List T) : isFd (.tuple [bt, .tuple qs]) = (isBk bt && (decide (0 < qs.length) && (qs.all (isS (nK bt)) && decide ((dd (qs.map i3)).length = qs.length)))) := rfl
theorem isBk_form {t : T} (h : isBk t = true) : ∃ (b : Int) (ks : List T), t = .tuple [.int b, .tuple ks] := by
  unfold isBk at h
  split at h
  · exact ⟨_, _, rfl⟩
  · cases h
theorem isS_form {n : Int} {t : T} (h : isS n t = true) : ∃ x y k : Int, t = .tuple [.int x, .int y, .int k] ∧ 0 ≤ x ∧ 0 ≤ y ∧ 0 ≤ k ∧ k < n := by
  unfold isS at h
  split at h
  · rename_i x y k
    rw [Bool.and_eq_true, Bool.and_eq_true] at h
    obtain ⟨h1, h2, h3⟩ := h
    cases x <;> simp only [isC, Bool.false_eq_true] at h1
    cases y <;> simp only [isC, Bool.false_eq_true] at h2
    cases k <;> simp only [isI, Bool.false_eq_true] at h3
    exact ⟨_, _, _, rfl, of_decide_eq_true h1, of_decide_eq_true h2, of_decide_eq_true h3⟩
  · cases h
theorem tups_squares {n : Int} : ∀ {ts : List T}, (∀ t ∈ ts, isS n t = true) → tupsOf (ts.map pl) = some (ts.map i3)
  | [], _ => rfl
  | t :: ts, h => by
    obtain ⟨x, y, k, rfl, _⟩ := isS_form (h t List.mem_cons_self)
    have ih := tups_squares fun t ht => h t (List.mem_cons_of_mem _ ht)
    show (match intsOf [.int x, .int y], tupsOf (ts.map pl) with | some a, some b => some (a :: b) | _, _ => none) = _
    rw [ih]
    rfl
theorem isP_isS {n m : Nat} (k : Int) {t : T} (h : Nr n m t) : isP 1000000000 k t = isS k t := by
  cases h with
  | @tup n' m xs h hl =>
    match xs with
    | [x, y, z] =>
      have e : ∀ u ∈ [x, y, z], isI 1000000000 u = isC u := fun u hu => by
        cases h u hu with
        | int _ _ i hi => exact decide_eq_decide.mpr (by omega)
        | _ => rfl
      show (isI 1000000000 x && (isI 1000000000 y && isI k z)) = (isC x && (isC y && isI k z))
      rw [e x (by simp), e y (by simp)]
    | [] => rfl
    | [_] => rfl
    | [_, _] => rfl
    | _ :: _ :: _ :: _ :: _ => rfl
  | _ => rfl
theorem few_nr {n m : Nat} {t : T} (h : Nr n m t) (hm : m ≤ 60) : fewK t = true := by
  cases t with
  | tuple ts =>
    match ts, h with
    | [x, .tuple ks], h => exact decide_eq_true (by have := (h.tupIn' (.tuple ks) (by simp)).tupLen; unfold sizeLine; omega)
    | [], _ => rfl
    | [_], _ => rfl
    | _ :: y :: _ :: _, _ => cases y <;> rfl
    | [_, .none], _ => rfl
    | [_, .bool _], _ => rfl
    | [_, .int _], _ => rfl
    | [_, .str _], _ => rfl
    | [_, .list _], _ => rfl
    | [_, .dict _], _ => rfl
  | _ => rfl
theorem is_field_ok {n m : Nat} {t : T} (h : Nr n m t) (hn : n ≤ 40) (hm : m ≤ 60) : m_is_field [.v t] = .ok (.r (.bool (isFd t))) [.v t] := by
  refine w_eq ?_
  unfold m_is_field
  (apply Wp.w_fun; (focus (rfl; done)); (focus (((try simp only [List.cons_append, List.nil_append, List.length_cons, List.length_nil, Nat.reduceAdd, Nat.reduceSub, Nat.zero_add, Nat.sub_zero, List.replicate_succ, List.replicate_zero, List.append_nil]); rfl); done)))
  unfold b_is_field
  cases t with
  | tuple ts =>
    match ts, h with
    | [bt, qt], h =>
      have ib := is_book_ok bt (few_nr (h.tupIn' bt (by simp)) hm)
      cases hb : isBk bt with
      | false =>
        rw [hb] at ib
        have no : isFd (.tuple [bt, qt]) = false := by
          cases qt with
          | tuple qs => rw [isFd_t, hb]; rfl
          | _ => rfl
        rw [no]
        repeat' decreasing_trivial_pre_omega
        refine w_of ib ?_
        clear ib
        repeat' decreasing_trivial_pre_omega
        exact ⟨rfl, rfl⟩
      | true =>
        rw [hb] at ib
        cases qt with
        | tuple qs =>
          rw [isFd_t, hb, Bool.true_and]
          have hq := h.tupIn' (.tuple qs) (by simp)
          have ql := hq.tupLen
          cases qs with
          | nil =>
            repeat' decreasing_trivial_pre_omega
            refine w_of ib ?_
            clear ib
            repeat' decreasing_trivial_pre_omega
            exact ⟨rfl, rfl⟩
          | cons q0 qs0 =>
            generalize hqs : q0 :: qs0 = qs at *
            have pos : 0 < qs.length := by rw [← hqs]; simp
            have z0 : decide ((qs.length : Int) = 0) = false := decide_eq_false (by omega)
            rw [decide_eq_true pos, Bool.true_and]
            obtain ⟨b, ks, rfl⟩ := isBk_form hb
            rw [show nK (.tuple [.int b, .tuple ks]) = ks.length from rfl]
            have ga := gAll_bools (qs.map (isS ks.length))
            rw [show (qs.map (isS ks.length)).all id = qs.all (isS ks.length) from by rw [List.all_map]; rfl] at ga
            repeat' decreasing_trivial_pre_omega
            refine w_of ib ?_
            clear ib
            repeat' decreasing_trivial_pre_omega
            unfold x1_is_field
            repeat' decreasing_trivial_pre_omega
            refine comp_t (fun t => .bool (isS ks.length t)) qs (by unfold sizeLine; omega) (fun x hx => ⟨_, rfl, ?_⟩) ?_
            · have tt := is_square_ok ks.length x
              clear ga
              repeat' decreasing_trivial_pre_omega
              refine w_of tt ?_
              clear tt
              repeat' decreasing_trivial_pre_omega
              exact ⟨rfl, rfl⟩
            · rw [List.map_map] at ga
              cases hs : qs.all (isS ks.length) with
              | false =>
                rw [hs] at ga
                repeat' decreasing_trivial_pre_omega
                exact ⟨rfl, rfl⟩
              | true =>
                rw [hs] at ga
                have all := List.all_eq_true.mp hs
                have pw := places_ok qs (by unfold sizeLine; omega) fun t ht => by
                  obtain ⟨x, y, k, rfl, _⟩ := isS_form (all t ht)
                  exact ⟨_, _, _, rfl⟩
                have tn := tups_squares all
                repeat' decreasing_trivial_pre_omega
                refine w_lenset ?_
                repeat' decreasing_trivial_pre_omega
                refine w_of pw ?_
                clear pw
                repeat' decreasing_trivial_pre_omega
                refine ⟨_, _, rfl, tn, by rw [List.length_map]; omega, ?_⟩
                repeat' decreasing_trivial_pre_omega
                refine ⟨congrArg (fun b => Od.r (.bool b)) ?_, rfl⟩
                rw [Bool.true_and]
                exact decide_eq_decide.mpr (by omega)
        | _ =>
          repeat' decreasing_trivial_pre_omega
          refine w_of ib ?_
          clear ib
          repeat' decreasing_trivial_pre_omega
          exact ⟨rfl, rfl⟩
    | [], h =>
      repeat' decreasing_trivial_pre_omega
      exact ⟨rfl, rfl⟩
    | [x], h =>
      repeat' decreasing_trivial_pre_omega
      exact ⟨by cases x <;> rfl, rfl⟩
    | x :: y :: z :: us, h =>
      have hl : decide (((x :: y :: z :: us).length : Int) = 2) = false := decide_eq_false (by simp only [List.length_cons]; omega)
      repeat' decreasing_trivial_pre_omega
      exact ⟨by cases y <;> rfl, rfl⟩
  | _ =>
    repeat' decreasing_trivial_pre_omega
    exact ⟨rfl, rfl⟩

set_option linter.all false
set_option maxRecDepth 100000
set_option maxHeartbeats 4000000
open PySem PySem.Spec Ev Pu Mt Wp
theorem trB_S {n m : Nat} (k : Int) {qs : List T} (h : ∀ q ∈ qs, Nr n m q) : trB 1000000000 k (.tuple qs) = (qs.all (isS k) && decide ((dd (qs.map i3)).length = qs.length)) := by
  rw [trB_t]
  congr 1
  rw [Bool.eq_iff_iff, List.all_eq_true, List.all_eq_true]
  exact ⟨fun q x hx => by rw [← isP_isS k (h x hx)]; exact q x hx, fun q x hx => by rw [isP_isS k (h x hx)]; exact q x hx⟩
theorem law_is_field_w {n m : Nat} {t : T} (h : Nr n m t) (hn : n ≤ 40) (hm : m ≤ 60) : W (m__law_is_field [.v t]) fun r e => r = .r (.bool (isFd t)) ∧ e = [.v t] := by
  unfold m__law_is_field
  (apply Wp.w_fun; (focus (rfl; done)); (focus (((try simp only [List.cons_append, List.nil_append, List.length_cons, List.length_nil, Nat.reduceAdd, Nat.reduceSub, Nat.zero_add, Nat.sub_zero, List.replicate_succ, List.replicate_zero, List.append_nil]); rfl); done)))
  unfold b__law_is_field
  cases t with
  | tuple ts =>
    match ts, h with
    | [bt, qt], h =>
      have ib := law_is_book_w (h.tupIn' bt (by simp)) hn hm
      cases hb : isBk bt with
      | false =>
        rw [hb] at ib
        have no : isFd (.tuple [bt, qt]) = false := by
          cases qt with
          | tuple qs => rw [isFd_t, hb]; rfl
          | _ => rfl
        rw [no]
        repeat' decreasing_trivial_pre_omega
        refine w_imp ib ?_
        rintro _ _ ⟨rfl, rfl⟩
        clear ib
        repeat' decreasing_trivial_pre_omega
        exact ⟨rfl, rfl⟩
      | true =>
        rw [hb] at ib
        obtain ⟨b, ks, rfl⟩ := isBk_form hb
        have pw : gPow (.int 10) (.int 9) = some (.r (.int 1000000000)) := by rfl
        have tw := triples_w qt 1000000000 ks.length fun ts e => by
          have := (e ▸ h.tupIn' qt (by simp) : Nr n m (.tuple ts)).tupLen
          omega
        cases qt with
        | tuple qs =>
          have hq := h.tupIn' (.tuple qs) (by simp)
          have g0 := gEq_tl not (n := n) (by omega) (xs := qs) (fun x hx => (hq.tupIn' x hx).sh)
          rw [trB_S _ hq.tupIn'] at tw
          rw [isFd_t, hb, Bool.true_and, show nK (.tuple [.int b, .tuple ks]) = ks.length from rfl]
          have em : (!qs.isEmpty) = decide (0 < qs.length) := by cases qs <;> simp
          rw [show (not qs.isEmpty) = decide (0 < qs.length) from em] at g0
          generalize (qs.all (isS ks.length) && decide ((dd (qs.map i3)).length = qs.length)) = b1 at *
          repeat' decreasing_trivial_pre_omega
          refine w_imp ib ?_
          rintro _ _ ⟨rfl, rfl⟩
          clear ib
          repeat' decreasing_trivial_pre_omega
          refine w_imp tw ?_
          rintro _ _ ⟨rfl, rfl⟩
          clear tw
          cases b1 with
          | false =>
            repeat' decreasing_trivial_pre_omega
            exact ⟨by rw [Bool.and_false], rfl⟩
          | true =>
            repeat' decreasing_trivial_pre_omega
            exact ⟨by rw [Bool.and_true], rfl⟩
        | _ =>
          repeat' decreasing_trivial_pre_omega
          refine w_imp ib ?_
          rintro _ _ ⟨rfl, rfl⟩
          clear ib
          repeat' decreasing_trivial_pre_omega
          refine w_imp tw ?_
          rintro _ _ ⟨rfl, rfl⟩
          clear tw
          repeat' decreasing_trivial_pre_omega
          exact ⟨rfl, rfl⟩
    | [], h =>
      repeat' decreasing_trivial_pre_omega
      exact ⟨rfl, rfl⟩
    | [x], h =>
      repeat' decreasing_trivial_pre_omega
      exact ⟨by cases x <;> rfl, rfl⟩
    | x :: y :: z :: us, h =>
      have hl : decide (((x :: y :: z :: us).length : Int) = 2) = false := decide_eq_false (by simp only [List.length_cons]; omega)
      repeat' decreasing_trivial_pre_omega
      exact ⟨by cases y <;> rfl, rfl⟩
  | _ =>
    repeat' decreasing_trivial_pre_omega
    exact ⟨rfl, rfl⟩

set_option linter.all false
set_option maxRecDepth 100000
set_option maxHeartbeats 4000000
open PySem PySem.Spec Ev Pu Mt Wp
/-! ### a tree is the same as itself -/
theorem pairs_self (ts : List T) : pairs ts ts = ts.map fun t => PyData.tuple [t, t] := by
  unfold pairs
  induction ts with
  | nil => rfl
  | cons t ts ih => rw [List.zip_cons_cons, List.map_cons, List.map_cons, ih]
theorem all_true {ts : List T} {bs : List Bool} (h : ∀ b ∈ bs, b = true) : bs.all id = true := List.all_eq_true.mpr fun b hb => h b hb
inductive Pk : Nat → T → Prop
  | bl (n : Nat) (b : Bool) : Pk n (.bool b)
  | int (n : Nat) (i : Int) : Pk n (.int i)
  | tup {n : Nat} {xs : List T} : (∀ x ∈ xs, Pk n x) → xs.length ≤ 100000 → Pk (n + 1) (.tuple xs)
  | lst {n : Nat} {xs : List T} : (∀ x ∈ xs, Pk n x) → xs.length ≤ 100000 → Pk (n + 1) (.list xs)
theorem same_x (f : FSem) (s0 s1 : Sl) (ts : List T) (hl : ts.length ≤ 100000) (h : ∀ t ∈ ts, f [.v t, .v t] = .ok (.r (.bool true)) [.v t, .v t]) (Q : Od → En → Prop)
    (gd : En → Prop) (hgd : gd [s0, s1, .un, .un]) (q : Q (.b (.l ((ts.map fun _ => true).map .bool))) [s0, s1, .un, .un]) : KCompG (gT 2 (gsCons (gN 2) (gsCons (gN 3) gsNil))) tTrue (eCall 2 f (aCons (eVar 2) (aCons (eVar 3) aNil))) [2, 3] Q (pairs ts ts, gd) [s0, s1, .un, .un] := by
  rw [pairs_self]
  refine compG_map_w (fun t => PyData.tuple [t, t]) (fun _ => PyData.bool true) ts hgd (by unfold sizeLine; omega) (fun t ht => ⟨_, rfl, ?_⟩) ?_
  · have := h t ht
    repeat' decreasing_trivial_pre_omega
    refine w_of this ?_
    repeat' decreasing_trivial_pre_omega
    exact ⟨rfl, rfl⟩
  · rw [List.map_map] at q
    exact q
theorem same_t : ∀ (n : Nat) (t : T), Pk n t → ∀ fuel, n < fuel → m__law_alike fuel [.v t, .v t] = .ok (.r (.bool true)) [.v t, .v t] := by
  intro n t h
  induction h with
  | bl n b =>
    intro fuel hf
    obtain ⟨f, rfl⟩ : ∃ f, fuel = f + 1 := ⟨fuel - 1, by omega⟩
    refine w_eq ?_
    rw [m__law_alike]
    (apply Wp.w_fun; (focus (rfl; done)); (focus (((try simp only [List.cons_append, List.nil_append, List.length_cons, List.length_nil, Nat.reduceAdd, Nat.reduceSub, Nat.zero_add, Nat.sub_zero, List.replicate_succ, List.replicate_zero, List.append_nil]); rfl); done)))
    repeat' decreasing_trivial_pre_omega
    exact ⟨by cases b <;> rfl, rfl⟩
  | int n i =>
    intro fuel hf
    obtain ⟨f, rfl⟩ : ∃ f, fuel = f + 1 := ⟨fuel - 1, by omega⟩
    refine w_eq ?_
    rw [m__law_alike]
    (apply Wp.w_fun; (focus (rfl; done)); (focus (((try simp only [List.cons_append, List.nil_append, List.length_cons, List.length_nil, Nat.reduceAdd, Nat.reduceSub, Nat.zero_add, Nat.sub_zero, List.replicate_succ, List.replicate_zero, List.append_nil]); rfl); done)))
    repeat' decreasing_trivial_pre_omega
    exact ⟨by simp, rfl⟩
  | @tup n xs h hl ih =>
    intro fuel hf
    obtain ⟨f, rfl⟩ : ∃ f, fuel = f + 1 := ⟨fuel - 1, by omega⟩
    refine w_eq ?_
    rw [m__law_alike]
    (apply Wp.w_fun; (focus (rfl; done)); (focus (((try simp only [List.cons_append, List.nil_append, List.length_cons, List.length_nil, Nat.reduceAdd, Nat.reduceSub, Nat.zero_add, Nat.sub_zero, List.replicate_succ, List.replicate_zero, List.append_nil]); rfl); done)))
    repeat' decreasing_trivial_pre_omega
    refine kande_t (by simp) ?_
    unfold x1__law_alike
    repeat' decreasing_trivial_pre_omega
    refine same_x (m__law_alike f) _ _ xs hl (fun t ht => ih t ht f (by omega)) _ _ ⟨rfl, rfl⟩ ?_
    repeat' decreasing_trivial_pre_omega
    refine kfng rfl (gAll_b _) ?_
    repeat' decreasing_trivial_pre_omega
    exact ⟨by rw [all_true (ts := []) (by simp)], rfl⟩
  | @lst n xs h hl ih =>
    intro fuel hf
    obtain ⟨f, rfl⟩ : ∃ f, fuel = f + 1 := ⟨fuel - 1, by omega⟩
    refine w_eq ?_
    rw [m__law_alike]
    (apply Wp.w_fun; (focus (rfl; done)); (focus (((try simp only [List.cons_append, List.nil_append, List.length_cons, List.length_nil, Nat.reduceAdd, Nat.reduceSub, Nat.zero_add, Nat.sub_zero, List.replicate_succ, List.replicate_zero, List.append_nil]); rfl); done)))
    repeat' decreasing_trivial_pre_omega
    refine kande_t (by simp) ?_
    unfold x1__law_alike
    repeat' decreasing_trivial_pre_omega
    refine same_x (m__law_alike f) _ _ xs hl (fun t ht => ih t ht f (by omega)) _ _ ⟨rfl, rfl⟩ ?_
    repeat' decreasing_trivial_pre_omega
    refine kfng rfl (gAll_b _) ?_
    repeat' decreasing_trivial_pre_omega
    exact ⟨by rw [all_true (ts := []) (by simp)], rfl⟩

set_option linter.all false
set_option maxRecDepth 100000
set_option maxHeartbeats 4000000
open PySem PySem.Spec Ev Pu Mt Wp
/-! ### how long a tree is when it is shown -/
mutual
def sz : T → Nat
  | .list xs => szs xs + 4
  | .tuple xs => szs xs + 4
  | .dict _ => 6
  | .none => 6
  | .bool _ => 6
  | .int _ => 6
  | .str _ => 6
def szs : List T → Nat
  | [] => 0
  | x :: xs => sz x + 2 + szs xs
end
theorem sz_t (xs : List T) : sz (.tuple xs) = szs xs + 4 := by rw [sz]
theorem sz_l (xs : List T) : sz (.list xs) = szs xs + 4 := by rw [sz]
theorem szs_app (xs ys : List T) : szs (xs ++ ys) = szs xs + szs ys := by
  induction xs with
  | nil => rw [List.nil_append, szs, Nat.zero_add]
  | cons x xs ih => rw [List.cons_append, szs, szs, ih]; omega
theorem szs_one (x : T) : szs [x] = sz x + 2 := by rw [szs, szs]
theorem szs_rev (xs : List T) : szs xs.reverse = szs xs := by
  induction xs with
  | nil => rfl
  | cons x xs ih => rw [List.reverse_cons, szs_app, szs_one, ih, szs]; omega
theorem szs_cut {xs : List T} {k : Nat} (h : k < xs.length) : szs xs = szs (xs.take k) + (sz xs[k] + 2) + szs (xs.drop (k + 1)) := by
  have e : xs = xs.take k ++ ([xs[k]] ++ xs.drop (k + 1)) := by
    rw [set_eq h, List.set_getElem_self]
  have := congrArg szs e
  rw [szs_app, szs_app, szs_one] at this
  omega
theorem szs_cut0 (xs : List T) (k : Nat) : szs xs = szs (xs.take k) + szs (xs.drop k) := by
  rw [← szs_app, List.take_append_drop]
def oddL : List T := [.none, .bool true, .bool false, .int (-1), .int 0, .int 1, .int 2, .int 3, .int 9, .tuple [], .list [], .str "0", .tuple [.int 0, .int 0, .int 0], .tuple [.int 0, .int 0]]
theorem odd_nr {x : T} (h : x ∈ oddL) : Nr 1 3 x ∧ sz x ≤ 28 := by
  unfold oddL at h
  simp only [List.mem_cons, List.not_mem_nil, or_false] at h
  have i0 : ∀ y ∈ [PyData.int 0, .int 0, .int 0], Nr 0 3 y := fun y hy => by
    simp only [List.mem_cons, List.not_mem_nil, or_false] at hy
    rcases hy with rfl | rfl | rfl <;> exact .int _ _ _ (by decide)
  have i1 : ∀ y ∈ [PyData.int 0, .int 0], Nr 0 3 y := fun y hy => by
    simp only [List.mem_cons, List.not_mem_nil, or_false] at hy
    rcases hy with rfl | rfl <;> exact .int _ _ _ (by decide)
  rcases h with rfl | rfl | rfl | rfl | rfl | rfl | rfl | rfl | rfl | rfl | rfl | rfl | rfl | rfl
  · exact ⟨.non _ _, by simp [sz]⟩
  · exact ⟨.bl _ _ _, by simp [sz]⟩
  · exact ⟨.bl _ _ _, by simp [sz]⟩
  · exact ⟨.int _ _ _ (by decide), by simp [sz]⟩
  · exact ⟨.int _ _ _ (by decide), by simp [sz]⟩
  · exact ⟨.int _ _ _ (by decide), by simp [sz]⟩
  · exact ⟨.int _ _ _ (by decide), by simp [sz]⟩
  · exact ⟨.int _ _ _ (by decide), by simp [sz]⟩
  · exact ⟨.int _ _ _ (by decide), by simp [sz]⟩
  · exact ⟨.tup (by simp) (by simp), by simp [sz, szs]⟩
  · exact ⟨.lst (by simp) (by simp), by simp [sz, szs]⟩
  · exact ⟨.str _ _, by simp [sz]⟩
  · exact ⟨.tup i0 (by simp), by simp [sz, szs]⟩
  · exact ⟨.tup i1 (by simp), by simp [sz, szs]⟩
theorem odd_w (D : Dk) (hc : D.c + 5 ≤ 10 ^ 9) (s1 s2 s4 s5 : Sl) : W ((eOp2 gIx (eVar 3) (eCall 2 m__law_pick (aCons (eVar 0) (aCons (eK (.int 14)) aNil)))) [.ow true (.l (dkT D)), s1, s2, .ow false (.l oddL), s4, s5]) fun r e => ∃ (D' : Dk) (x : T), D'.c ≤ D.c + 1 ∧ (Nr 1 3 x ∧ sz x ≤ 28) ∧ r = .r x ∧ e = [.ow true (.l (dkT D')), s1, s2, .ow false (.l oddL), s4, s5] := by
  have gg : ∀ v (hv : v < oddL.length), gIx (.list oddL) (.int (v : Int)) = some (.r oddL[v]) := fun v hv => gIx_l (List.getElem?_eq_getElem hv)
  have od : ∀ v (hv : v < oddL.length), Nr 1 3 oddL[v] ∧ sz oddL[v] ≤ 28 := fun v hv => odd_nr (List.getElem_mem hv)
  have ol : oddL.length = 14 := rfl
  generalize oddL = L at *
  repeat' decreasing_trivial_pre_omega
  refine w_imp (pick_w D 14 (by decide) (by decide) (by omega)) ?_
  rintro _ _ ⟨v, D1, hv, hc1, rfl, rfl⟩
  have g1 := gg v (by omega)
  have o1 := od v (by omega)
  generalize L[v] = x at *
  repeat' decreasing_trivial_pre_omega
  exact ⟨D1, x, hc1, o1, rfl, rfl⟩
theorem cutT_fr0 {α : Type} {ts : List α} {k : Nat} (h : k ≤ ts.length) : cutT ts (some (k : Int)) none = ts.drop k := by
  unfold cutT
  rw [HT.sIx_nat, HT.sIx_none, Nat.min_eq_left h]
  exact List.take_of_length_le (by simp)

set_option linter.all false
set_option maxRecDepth 100000
set_option maxHeartbeats 4000000
open PySem PySem.Spec Ev Pu Mt Wp
/-- a value that comes as a tree or as a new list -/
def RT (t : T) (r : Od) : Prop := r = .r t ∨ ∃ xs, t = .list xs ∧ r = .b (.l xs)
def PutQ (D : Dk) (deep n m : Nat) (t : T) : Od → En → Prop := fun r e => ∃ (D' : Dk) (t' : T), D'.c ≤ D.c + 3 * (deep + 1) ∧ Nr (n + 1) (m + 1) t' ∧ sz t' ≤ 2 * sz t + 60 ∧ RT t' r ∧ e = [.ow true (.l (dkT D')), .v t, .v (nT deep)]
theorem nr_odd {n m : Nat} {x : T} (h : Nr 1 3 x) (hn : 1 ≤ n) (hm : 3 ≤ m) : Nr n m x := h.mono hn hm
/-- what stands at one place, put otherwise -/
theorem put_at {n m : Nat} {ts : List T} (h : ∀ x ∈ ts, Nr n m x) (hl : ts.length ≤ m) {a : Nat} (ha : a < ts.length) {x : T} (hx : Nr (n + 1) (m + 1) x) : Nr (n + 2) (m + 1) (.tuple (ts.take a ++ [x] ++ ts.drop (a + 1))) := by
  refine .tup (fun y hy => ?_) (by simp; omega)
  simp only [List.mem_append, List.mem_singleton] at hy
  rcases hy with (hy | rfl) | hy
  · exact (h y (List.mem_of_mem_take hy)).mono (by omega) (by omega)
  · exact hx
  · exact (h y (List.mem_of_mem_drop hy)).mono (by omega) (by omega)
theorem put_in {n m : Nat} {ts : List T} (h : ∀ x ∈ ts, Nr n m x) (hl : ts.length ≤ m) {a : Nat} (ha : a < ts.length) {x : T} (hx : Nr (n + 1) (m + 1) x) : Nr (n + 2) (m + 1) (.tuple (ts.take a ++ [x] ++ ts.drop a)) := by
  refine .tup (fun y hy => ?_) (by simp; omega)
  simp only [List.mem_append, List.mem_singleton] at hy
  rcases hy with (hy | rfl) | hy
  · exact (h y (List.mem_of_mem_take hy)).mono (by omega) (by omega)
  · exact hx
  · exact (h y (List.mem_of_mem_drop hy)).mono (by omega) (by omega)
theorem put_out {n m : Nat} {ts : List T} (h : ∀ x ∈ ts, Nr n m x) (hl : ts.length ≤ m) (a : Nat) : Nr (n + 2) (m + 1) (.tuple (ts.take a ++ ts.drop (a + 1))) := by
  refine .tup (fun y hy => ?_) (by simp; omega)
  simp only [List.mem_append] at hy
  rcases hy with hy | hy
  · exact (h y (List.mem_of_mem_take hy)).mono (by omega) (by omega)
  · exact (h y (List.mem_of_mem_drop hy)).mono (by omega) (by omega)
theorem put_w : ∀ (fuel : Nat) (D : Dk) (n m : Nat) (t : T) (deep : Nat), deep < fuel → deep ≤ 10 → Nr n m t → n ≤ 40 → 3 ≤ m → m ≤ 50 → D.c + 100 ≤ 10 ^ 9 - 3 * (deep + 1) →
    W (m__law_put fuel [.ow true (.l (dkT D)), .v t, .v (nT deep)]) (PutQ D deep n m t)
  | 0, _, _, _, _, deep, h, _, _, _, _, _, _ => absurd h (Nat.not_lt_zero _)
  | fuel + 1, D, n, m, t, deep, hf, hd, h, hn, hm0, hm, hc => by
    have od := fun s1 s2 s4 s5 => odd_w D (by omega) s1 s2 s4 s5
    have leaf : ∀ (D' : Dk) (x : T), D'.c ≤ D.c + 1 → (Nr 1 3 x ∧ sz x ≤ 28) → PutQ D deep n m t (.r x) [.ow true (.l (dkT D')), .v t, .v (nT deep)] := fun D' x h1 h2 => ⟨D', x, by omega, h2.1.mono (by omega) (by omega), by omega, .inl rfl, rfl⟩
    rw [m__law_put]
    generalize hO : (eOp2 gIx (eVar 3) (eCall 2 m__law_pick (aCons (eVar 0) (aCons (eK (.int 14)) aNil)))) = oe at *
    have mk : ∀ (D' : Dk) (t' : T) (r : Od), D'.c ≤ D.c + 3 * (deep + 1) → Nr (n + 1) (m + 1) t' → sz t' ≤ 2 * sz t + 60 → RT t' r → PutQ D deep n m t r [.ow true (.l (dkT D')), .v t, .v (nT deep)] := fun D' t' r h1 h2 h3 h4 => ⟨D', t', h1, h2, h3, h4, rfl⟩
    generalize PutQ D deep n m t = QQ at leaf mk ⊢
    (apply Wp.w_fun; (focus (rfl; done)); (focus (((try simp only [List.cons_append, List.nil_append, List.length_cons, List.length_nil, Nat.reduceAdd, Nat.reduceSub, Nat.zero_add, Nat.sub_zero, List.replicate_succ, List.replicate_zero, List.append_nil]); rfl); done)))
    unfold oddL at od
    cases t with
    | tuple ts =>
      match n, h, hn, mk with
      | n + 1, h, hn, mk =>
      have hx := h.tupIn
      have hl := h.tupLen
      have g0 := gEq_tl id (n := n) (by omega) (xs := ts) (fun x hx => (h.tupIn x hx).sh)
      by_cases hts : ts = []
      · subst hts
        repeat' decreasing_trivial_pre_omega
        refine w_imp (od _ _ _ _) ?_
        rintro _ _ ⟨D1, x, h1, h2, rfl, rfl⟩
        repeat' decreasing_trivial_pre_omega
        exact leaf D1 x h1 h2
      have em : ts.isEmpty = false := by cases ts with | nil => exact absurd rfl hts | cons a b => rfl
      have pos : 0 < ts.length := List.length_pos_iff.mpr hts
      rw [em] at g0
      match deep, hf, hd, hc, leaf, mk with
      | 0, hf, hd, hc, leaf, mk =>
        repeat' decreasing_trivial_pre_omega
        refine w_imp (od _ _ _ _) ?_
        rintro _ _ ⟨D1, x, h1, h2, rfl, rfl⟩
        repeat' decreasing_trivial_pre_omega
        exact leaf D1 x h1 h2
      | d + 1, hf, hd, hc, leaf, mk =>
        have dz : decide (((d + 1 : Nat) : Int) = 0) = false := decide_eq_false (by omega)
        repeat' decreasing_trivial_pre_omega
        refine w_imp (pick_w D ts.length pos (by omega) (by omega)) ?_
        rintro _ _ ⟨a, D1, ha, hc1, rfl, rfl⟩
        repeat' decreasing_trivial_pre_omega
        refine w_imp (pick_w D1 10 (by decide) (by decide) (by omega)) ?_
        rintro _ _ ⟨w, D2, hw, hc2, rfl, rfl⟩
        clear od
        have od := fun s1 s2 s4 s5 => odd_w D2 (by omega) s1 s2 s4 s5
        rw [hO] at od
        unfold oddL at od
        have ga : gIx (.tuple ts) (.int (a : Int)) = some (.r ts[a]) := gIx_t (List.getElem?_eq_getElem ha)
        have c1 : cutT ts none (some (a : Int)) = ts.take a := cutT_to (by omega)
        have c2 : cutT ts (some ((a : Int) + 1)) none = ts.drop (a + 1) := cutT_fr ha
        have c3 : cutT ts (some (a : Int)) none = ts.drop a := cutT_fr0 (by omega)
        have l1 : (cutT ts none (some (a : Int))).length + 1 ≤ sizeLine := by rw [c1, List.length_take]; unfold sizeLine; omega
        have l2 : ∀ x : T, (cutT ts none (some (a : Int)) ++ [x]).length + (cutT ts (some ((a : Int) + 1)) none).length ≤ sizeLine := fun x => by rw [c1, c2, List.length_append, List.length_take, List.length_drop, List.length_singleton]; unfold sizeLine; omega
        have l3 : ∀ x : T, (cutT ts none (some (a : Int)) ++ [x]).length + (cutT ts (some (a : Int)) none).length ≤ sizeLine := fun x => by rw [c1, c3, List.length_append, List.length_take, List.length_drop, List.length_singleton]; unfold sizeLine; omega
        have l4 : (cutT ts none (some (a : Int))).length + (cutT ts (some ((a : Int) + 1)) none).length ≤ sizeLine := by rw [c1, c2, List.length_take, List.length_drop]; unfold sizeLine; omega
        have s1 := szs_cut ha
        have s2 := szs_cut0 ts a
        have st := sz_t ts
        have nx := hx _ (List.getElem_mem ha)
        by_cases w0 : w = 0
        · subst w0
          repeat' decreasing_trivial_pre_omega
          refine mk D2 _ _ (by omega) ?_ ?_ (.inl rfl)
          · rw [c1, c2]; exact put_out hx hl a
          · rw [c1, c2, sz_t, szs_app]; omega
        by_cases w1 : w = 1
        · subst w1
          have l3 := l3 ts[a]
          generalize hy : ts[a] = y at *
          repeat' decreasing_trivial_pre_omega
          refine mk D2 _ _ (by omega) ?_ ?_ (.inl rfl)
          · rw [c1, c3]; exact put_in hx hl ha (nx.mono (by omega) (by omega))
          · rw [c1, c3, sz_t, szs_app, szs_app, szs_one]; omega
        by_cases w2 : w = 2
        · subst w2
          repeat' decreasing_trivial_pre_omega
          refine mk D2 _ _ (by omega) ?_ ?_ (.inl rfl)
          · exact .tup (fun y hy => (hx y (List.mem_reverse.mp hy)).mono (by omega) (by omega)) (by rw [List.length_reverse]; omega)
          · rw [sz_t, szs_rev]; omega
        by_cases w3 : w = 3
        · subst w3
          repeat' decreasing_trivial_pre_omega
          refine mk D2 (.list ts) _ (by omega) ?_ ?_ (.inr ⟨ts, rfl, rfl⟩)
          · exact .lst (fun y hy => (hx y hy).mono (by omega) (by omega)) (by omega)
          · rw [sz_l]; omega
        by_cases w4 : w = 4
        · subst w4
          repeat' decreasing_trivial_pre_omega
          refine w_imp (od _ _ _ _) ?_
          rintro _ _ ⟨D3, x, h1, h2, rfl, rfl⟩
          clear od
          have l3 := l3 x
          repeat' decreasing_trivial_pre_omega
          refine mk D3 _ _ (by omega) ?_ ?_ (.inl rfl)
          · rw [c1, c3]; exact put_in hx hl ha (nr_odd h2.1 (by omega) (by omega))
          · rw [c1, c3, sz_t, szs_app, szs_app, szs_one]; omega
        clear od
        have d0 : decide ((w : Int) = 0) = false := decide_eq_false (by omega)
        have d1 : decide ((w : Int) = 1) = false := decide_eq_false (by omega)
        have d2 : decide ((w : Int) = 2) = false := decide_eq_false (by omega)
        have d3 : decide ((w : Int) = 3) = false := decide_eq_false (by omega)
        have d4 : decide ((w : Int) = 4) = false := decide_eq_false (by omega)
        have gs : gSub (.int ((d + 1 : Nat) : Int)) (.int 1) = some (.r (nT d)) := by
          show some (Od.r (PyData.int (((d + 1 : Nat) : Int) - 1))) = _
          rw [show ((d + 1 : Nat) : Int) - 1 = (d : Int) by omega]
        have ih := put_w fuel D2 n m ts[a] d (by omega) (by omega) nx (by omega) hm0 hm (by omega)
        generalize hy : ts[a] = y at *
        repeat' decreasing_trivial_pre_omega
        refine w_imp ih ?_
        rintro r _ ⟨D3, t', h1, h2, h3, h4, rfl⟩
        have l2 := l2 t'
        rcases h4 with rfl | ⟨us, rfl, rfl⟩
        · repeat' decreasing_trivial_pre_omega
          refine mk D3 _ _ (by omega) ?_ ?_ (.inl rfl)
          · rw [c1, c2]; exact put_at hx hl ha h2
          · rw [c1, c2, sz_t, szs_app, szs_app, szs_one]; omega
        · repeat' decreasing_trivial_pre_omega
          refine mk D3 _ _ (by omega) ?_ ?_ (.inl rfl)
          · rw [c1, c2]; exact put_at hx hl ha h2
          · rw [c1, c2, sz_t, szs_app, szs_app, szs_one]; omega
    | _ =>
      repeat' decreasing_trivial_pre_omega
      refine w_imp (od _ _ _ _) ?_
      rintro _ _ ⟨D1, x, h1, h2, rfl, rfl⟩
      repeat' decreasing_trivial_pre_omega
      exact leaf D1 x h1 h2

set_option linter.all false
set_option maxRecDepth 100000
set_option maxHeartbeats 4000000
open PySem PySem.Spec Ev Pu Mt Wp
/-! ### how a tree is shown -/
theorem ok_of (s : String) : PyData.strOk (Str.ofString s) = true := by
  rw [Str.ofString_eq_toList]
  unfold PyData.strOk
  rw [Array.all_eq_true']
  intro n hn
  rw [List.mem_toArray] at hn
  obtain ⟨c, _, rfl⟩ := List.mem_map.mp hn
  refine decide_eq_true ?_
  have h := c.valid
  show c.val.toNat < 1114112
  rcases h with h | h
  · have : c.val.toNat < 55296 := h
    omega
  · exact h.2
theorem ok_app {x y : Str} (h1 : PyData.strOk x = true) (h2 : PyData.strOk y = true) : PyData.strOk (x ++ y) = true := by
  unfold PyData.strOk at h1 h2 ⊢
  show (x.cps ++ y.cps).all _ = true
  rw [Array.all_append, h1, h2]
  rfl
theorem ok_sjoin {sep : Str} (h : PyData.strOk sep = true) : ∀ ys : List Str, (∀ y ∈ ys, PyData.strOk y = true) → PyData.strOk (Str.join sep ys) = true
  | [], _ => by simp [Str.join, PyData.strOk, Str.empty]
  | [x], h2 => h2 x (by simp)
  | x :: y :: ys, h2 => by
    have ih := ok_sjoin h (y :: ys) fun z hz => h2 z (List.mem_cons_of_mem _ hz)
    rw [Str.join]
    · exact ok_app (ok_app (h2 x List.mem_cons_self) h) ih
    · intro z; cases z
theorem app_len (x y : Str) : (x ++ y).length = x.length + y.length := Array.size_append
theorem sjoin_len (sep : Str) (hs : sep.length = 2) : ∀ xs : List T, (∀ x ∈ xs, (PyData.shown x).length ≤ sz x) → (Str.join sep (PyData.shownAll xs)).length ≤ szs xs
  | [], _ => by rw [PyData.shownAll, Str.join]; exact Nat.zero_le _
  | [x], h => by
    rw [PyData.shownAll, PyData.shownAll, Str.join, szs]
    have := h x (by simp)
    omega
  | x :: y :: ys, h => by
    have ih := sjoin_len sep hs (y :: ys) fun z hz => h z (List.mem_cons_of_mem _ hz)
    have h0 := h x (by simp)
    rw [PyData.shownAll, szs, Str.join, app_len, app_len]
    · omega
    · intro z
      rw [PyData.shownAll] at z
      cases z
theorem int_len {i : Int} (h : -1 ≤ i ∧ i ≤ 20) : (Str.ofString (toString i)).length ≤ 6 := by
  have all : ∀ k : Fin 22, (Str.ofString (toString ((k.val : Int) - 1))).length ≤ 6 := by decide +kernel
  have := all ⟨(i + 1).toNat, by omega⟩
  rw [show (((i + 1).toNat : Nat) : Int) - 1 = i by omega] at this
  exact this
theorem shownAll_ok {xs : List T} (h : ∀ x ∈ xs, PyData.strOk (PyData.shown x) = true) : ∀ y ∈ PyData.shownAll xs, PyData.strOk y = true := by
  induction xs with
  | nil => intro y hy; rw [PyData.shownAll] at hy; cases hy
  | cons x xs ih =>
    intro y hy
    rw [PyData.shownAll] at hy
    rcases List.mem_cons.mp hy with rfl | hy
    · exact h x (by simp)
    · exact ih (fun z hz => h z (List.mem_cons_of_mem _ hz)) y hy
theorem hasD_all : ∀ {xs : List T}, (∀ x ∈ xs, x.hasDict = false) → PyData.hasDictAll xs = false
  | [], _ => by rw [PyData.hasDictAll]
  | x :: xs, h => by rw [PyData.hasDictAll, h x (by simp), hasD_all fun z hz => h z (List.mem_cons_of_mem _ hz)]; rfl
theorem noD_all : ∀ {xs : List T}, (∀ x ∈ xs, noD x = true) → noDs xs = true
  | [], _ => by rw [noDs]
  | x :: xs, h => by rw [noDs, h x (by simp), noD_all fun z hz => h z (List.mem_cons_of_mem _ hz)]; rfl
structure Shw (t : T) : Prop where
  a : t.showable = true
  b : t.hasDict = false
  len : t.shown.length ≤ sz t
  d : noD t = true
  ok : PyData.strOk t.shown = true
theorem Nr.shw {n m : Nat} {t : T} (h : Nr n m t) : Shw t := by
  induction h with
  | non n m => exact ⟨rfl, rfl, by decide +kernel, rfl, by decide +kernel⟩
  | bl n m b => cases b <;> exact ⟨rfl, rfl, by decide +kernel, rfl, by decide +kernel⟩
  | int n m i h =>
    refine ⟨?_, rfl, ?_, rfl, ?_⟩
    · show decide (i.natAbs.log2 < 1920) = true
      have := log2_small (i := i) (k := 5) (by omega) (by omega)
      exact decide_eq_true (by omega)
    · rw [PyData.shown, sz]
      exact int_len h
    · rw [PyData.shown]
      exact ok_of _
  | str n m => exact ⟨rfl, rfl, by decide +kernel, rfl, by decide +kernel⟩
  | @tup n m xs h hl ih =>
    refine ⟨?_, ?_, ?_, ?_, ?_⟩
    · show PyData.showableAll xs = true
      exact showableAll_of fun x hx => (ih x hx).a
    · show PyData.hasDictAll xs = false
      exact hasD_all fun x hx => (ih x hx).b
    · rw [PyData.shown_tuple, app_len, app_len, sz_t]
      have j := sjoin_len ", " rfl xs fun x hx => (ih x hx).len
      have l1 : (Str.ofString "(").length = 1 := by decide +kernel
      have l2 : (Str.ofString (if (xs.length == 1) = true then ",)" else ")" : String)).length ≤ 2 := by split <;> decide +kernel
      omega
    · show noDs xs = true
      exact noD_all fun x hx => (ih x hx).d
    · rw [PyData.shown_tuple]
      exact ok_app (ok_app (ok_of _) (ok_sjoin (ok_of _) _ (shownAll_ok fun x hx => (ih x hx).ok))) (ok_of _)
  | @lst n m xs h hl ih =>
    refine ⟨?_, ?_, ?_, ?_, ?_⟩
    · show PyData.showableAll xs = true
      exact showableAll_of fun x hx => (ih x hx).a
    · show PyData.hasDictAll xs = false
      exact hasD_all fun x hx => (ih x hx).b
    · rw [PyData.shown_list, app_len, app_len, sz_l]
      have j := sjoin_len ", " rfl xs fun x hx => (ih x hx).len
      have l1 : (Str.ofString "[").length = 1 := by decide +kernel
      have l2 : (Str.ofString "]").length = 1 := by decide +kernel
      omega
    · show noDs xs = true
      exact noD_all fun x hx => (ih x hx).d
    · rw [PyData.shown_list]
      exact ok_app (ok_app (ok_of _) (ok_sjoin (ok_of _) _ (shownAll_ok fun x hx => (ih x hx).ok))) (ok_of _)
theorem repr_ok {n m : Nat} {t : T} (h : Nr n m t) (hn : n ≤ 40) (hs : sz t ≤ 1000000) : gRepr [t] = some (.r (.str t.shown)) := by
  have w := h.shw
  have d := h.sh.lay.2
  show fRepr t = _
  unfold fRepr
  exact if_pos ⟨w.a, w.b, by omega, by have := w.len; unfold sizeLine; omega, w.d⟩

set_option linter.all false
set_option maxRecDepth 100000
set_option maxHeartbeats 4000000
open PySem PySem.Spec Ev Pu Mt Wp
theorem gEq_str (k : Bool → Bool) {x y : Str} (hx : PyData.strOk x = true) (hy : PyData.strOk y = true) : gEq k (.str x) (.str y) = some (.r (.bool (k (x == y)))) := by
  show (if (SeqAt.shaped (.str x) && SeqAt.shaped (.str y)) = true then some (Od.r (.bool (k (PyData.eqv (.str x) (.str y))))) else none) = _
  rw [(Sh.str 0 hx).shaped (by decide), (Sh.str 0 hy).shaped (by decide)]
  rfl
theorem put_wl (fuel : Nat) (D : Dk) (xs : List T) (deep : Nat) (hf : 0 < fuel) (hc : D.c + 100 ≤ 10 ^ 9) :
    W (m__law_put fuel [.ow true (.l (dkT D)), .ow true (.l xs), .v (nT deep)]) fun r e => ∃ (D' : Dk) (x : T), D'.c ≤ D.c + 1 ∧ (Nr 1 3 x ∧ sz x ≤ 28) ∧ r = .r x ∧ e = [.ow true (.l (dkT D')), .ow true (.l xs), .v (nT deep)] := by
  obtain ⟨f, rfl⟩ : ∃ f, fuel = f + 1 := ⟨fuel - 1, by omega⟩
  have od := fun s1 s2 s4 s5 => odd_w D (by omega) s1 s2 s4 s5
  rw [m__law_put]
  generalize hO : (eOp2 gIx (eVar 3) (eCall 2 m__law_pick (aCons (eVar 0) (aCons (eK (.int 14)) aNil)))) = oe at *
  (apply Wp.w_fun; (focus (rfl; done)); (focus (((try simp only [List.cons_append, List.nil_append, List.length_cons, List.length_nil, Nat.reduceAdd, Nat.reduceSub, Nat.zero_add, Nat.sub_zero, List.replicate_succ, List.replicate_zero, List.append_nil]); rfl); done)))
  unfold oddL at od
  repeat' decreasing_trivial_pre_omega
  refine w_imp (od _ _ _ _) ?_
  rintro _ _ ⟨D1, x, h1, h2, rfl, rfl⟩
  repeat' decreasing_trivial_pre_omega
  exact ⟨D1, x, h1, h2, rfl, rfl⟩
theorem law_is_field_l (xs : List T) : W (m__law_is_field [.ow true (.l xs)]) fun r e => r = .r (.bool false) ∧ e = [.ow true (.l xs)] := by
  unfold m__law_is_field
  (apply Wp.w_fun; (focus (rfl; done)); (focus (((try simp only [List.cons_append, List.nil_append, List.length_cons, List.length_nil, Nat.reduceAdd, Nat.reduceSub, Nat.zero_add, Nat.sub_zero, List.replicate_succ, List.replicate_zero, List.append_nil]); rfl); done)))
  unfold b__law_is_field
  repeat' decreasing_trivial_pre_omega
  exact ⟨rfl, rfl⟩
theorem is_field_l (xs : List T) : W (m_is_field [.ow true (.l xs)]) fun r e => r = .r (.bool false) ∧ e = [.ow true (.l xs)] := by
  unfold m_is_field
  (apply Wp.w_fun; (focus (rfl; done)); (focus (((try simp only [List.cons_append, List.nil_append, List.length_cons, List.length_nil, Nat.reduceAdd, Nat.reduceSub, Nat.zero_add, Nat.sub_zero, List.replicate_succ, List.replicate_zero, List.append_nil]); rfl); done)))
  unfold b_is_field
  repeat' decreasing_trivial_pre_omega
  exact ⟨rfl, rfl⟩
theorem alike_t {n : Nat} {t : T} (h : Pk n t) (hn : n < 8) : m__law_alike 8 [.v t, .v t] = .ok (.r (.bool true)) [.v t, .v t] := same_t n t h 8 hn
theorem alike_l (n : Nat) (xs : List T) (h : ∀ x ∈ xs, Pk n x) (hl : xs.length ≤ 100000) (hn : n < 7) : m__law_alike 8 [.ow true (.l xs), .ow true (.l xs)] = .ok (.r (.bool true)) [.ow true (.l xs), .ow true (.l xs)] := by
  refine w_eq ?_
  rw [m__law_alike]
  (apply Wp.w_fun; (focus (rfl; done)); (focus (((try simp only [List.cons_append, List.nil_append, List.length_cons, List.length_nil, Nat.reduceAdd, Nat.reduceSub, Nat.zero_add, Nat.sub_zero, List.replicate_succ, List.replicate_zero, List.append_nil]); rfl); done)))
  repeat' decreasing_trivial_pre_omega
  refine kande_t (by simp) ?_
  unfold x1__law_alike
  repeat' decreasing_trivial_pre_omega
  refine same_x (m__law_alike 7) _ _ xs hl (fun t ht => same_t n t (h t ht) 7 (by omega)) _ _ ⟨rfl, rfl⟩ ?_
  repeat' decreasing_trivial_pre_omega
  refine kfng rfl (gAll_b _) ?_
  repeat' decreasing_trivial_pre_omega
  exact ⟨by rw [all_true (ts := []) (by simp)], rfl⟩
theorem alike_bb (b : Bool) : m__law_alike 8 [.ow true (.l [.bool b, .bool b]), .ow true (.l [.bool b, .bool b])] = .ok (.r (.bool true)) [.ow true (.l [.bool b, .bool b]), .ow true (.l [.bool b, .bool b])] :=
  alike_l 0 _ (fun x hx => by
    have : x = .bool b := by simpa using hx
    rw [this]; exact .bl _ _) (by show 2 ≤ 100000; decide) (by decide)
theorem end_v (t : T) {n m : Nat} (h : Nr n m t) (hn : n ≤ 40) (hm : m ≤ 60) (hs : sz t ≤ 1000000) (s0 s1 s2 s3 s4 s6 s7 s8 s9 s10 s11 s12 s13 s14 s15 s16 s17 s18 s19 : Sl) (a6 : lentS s6 = false) (a7 : lentS s7 = false) :
    W ((sSeq (sPar [6, 7] (aCons (eCall 1 m__law_is_field (aCons (eVar 5) aNil)) (aCons (eFn gRepr (aCons (eVar 5) aNil)) aNil))) (sIf (tOr (tNot (tb (eCall 2 (m__law_alike 8) (aCons (eLst (aCons (eCall 1 m_is_field (aCons (eVar 5) aNil)) (aCons (eCallK 1 [0] m_is_field (aCons (eVar 5) aNil)) aNil))) (aCons (eLst (aCons (eVar 6) (aCons (eVar 6) aNil))) aNil))))) (tb (eOp2 (gEq not) (eFn gRepr (aCons (eVar 5) aNil)) (eVar 7)))) (sRet (eK (.bool false))) sNil)) [s0, s1, s2, s3, s4, .v t, s6, s7, s8, s9, s10, s11, s12, s13, s14, s15, s16, s17, s18, s19]) fun fl e => fl = .nx ∧ ∃ s5 s6 s7, (lentS s5 = false ∧ lentS s6 = false ∧ lentS s7 = false) ∧ e = [s0, s1, s2, s3, s4, s5, s6, s7, s8, s9, s10, s11, s12, s13, s14, s15, s16, s17, s18, s19] := by
  have lf := law_is_field_w h hn hm
  have pf := is_field_ok h hn hm
  have rp := repr_ok h hn hs
  have ge : gEq not (.str t.shown) (.str t.shown) = some (.r (.bool false)) := by
    have q := gEq_str not h.shw.ok h.shw.ok
    simpa using q
  have ab := alike_bb (isFd t)
  generalize isFd t = b at *
  generalize PyData.shown t = y at *
  repeat' decreasing_trivial_pre_omega
  refine w_imp lf ?_
  rintro _ _ ⟨rfl, rfl⟩
  repeat' decreasing_trivial_pre_omega
  refine w_of pf ?_
  repeat' decreasing_trivial_pre_omega
  refine w_of pf ?_
  repeat' decreasing_trivial_pre_omega
  refine w_of ab ?_
  clear ab pf lf
  rw [show wb (pick [0] [Od.r t]) [Sl.v t] [s0, s1, s2, s3, s4, Sl.v t, Sl.v (PyData.bool b), Sl.v (PyData.str y), s8, s9, s10, s11, s12, s13, s14, s15, s16, s17, s18, s19] = [s0, s1, s2, s3, s4, Sl.v t, Sl.v (PyData.bool b), Sl.v (PyData.str y), s8, s9, s10, s11, s12, s13, s14, s15, s16, s17, s18, s19] from rfl]
  repeat' decreasing_trivial_pre_omega
  exact ⟨rfl, _, _, _, ⟨rfl, rfl, rfl⟩, rfl⟩
theorem end_l (xs : List T) {n m : Nat} (h : Nr n m (.list xs)) (hn : n ≤ 40) (hm : m ≤ 60) (hs : sz (.list xs) ≤ 1000000) (s0 s1 s2 s3 s4 s6 s7 s8 s9 s10 s11 s12 s13 s14 s15 s16 s17 s18 s19 : Sl) (a6 : lentS s6 = false) (a7 : lentS s7 = false) :
    W ((sSeq (sPar [6, 7] (aCons (eCall 1 m__law_is_field (aCons (eVar 5) aNil)) (aCons (eFn gRepr (aCons (eVar 5) aNil)) aNil))) (sIf (tOr (tNot (tb (eCall 2 (m__law_alike 8) (aCons (eLst (aCons (eCall 1 m_is_field (aCons (eVar 5) aNil)) (aCons (eCallK 1 [0] m_is_field (aCons (eVar 5) aNil)) aNil))) (aCons (eLst (aCons (eVar 6) (aCons (eVar 6) aNil))) aNil))))) (tb (eOp2 (gEq not) (eFn gRepr (aCons (eVar 5) aNil)) (eVar 7)))) (sRet (eK (.bool false))) sNil)) [s0, s1, s2, s3, s4, .ow false (.l xs), s6, s7, s8, s9, s10, s11, s12, s13, s14, s15, s16, s17, s18, s19]) fun fl e => fl = .nx ∧ ∃ s5 s6 s7, (lentS s5 = false ∧ lentS s6 = false ∧ lentS s7 = false) ∧ e = [s0, s1, s2, s3, s4, s5, s6, s7, s8, s9, s10, s11, s12, s13, s14, s15, s16, s17, s18, s19] := by
  have lf := law_is_field_l xs
  have pf := is_field_l xs
  have rp := repr_ok h hn hs
  have ge : gEq not (.str (PyData.list xs).shown) (.str (PyData.list xs).shown) = some (.r (.bool false)) := by
    have q := gEq_str not h.shw.ok h.shw.ok
    simpa using q
  have ab := alike_bb false
  generalize PyData.shown (.list xs) = y at *
  repeat' decreasing_trivial_pre_omega
  refine w_imp lf ?_
  rintro _ _ ⟨rfl, rfl⟩
  repeat' decreasing_trivial_pre_omega
  refine w_imp pf ?_
  rintro _ _ ⟨rfl, rfl⟩
  repeat' decreasing_trivial_pre_omega
  refine w_imp pf ?_
  rintro _ _ ⟨rfl, rfl⟩
  repeat' decreasing_trivial_pre_omega
  refine w_of ab ?_
  clear ab pf lf
  repeat' decreasing_trivial_pre_omega
  exact ⟨rfl, _, _, _, ⟨rfl, rfl, rfl⟩, rfl⟩

set_option linter.all false
set_option maxRecDepth 100000
set_option maxHeartbeats 4000000
open PySem PySem.Spec Ev Pu Mt Wp
def TurnQ (D : Dk) (s0 s1 s3 s4 s8 s9 s10 s11 s12 s13 s14 s15 s16 s17 s18 s19 : Sl) : Fl → En → Prop := fun fl e => fl = .nx ∧ ∃ (D' : Dk) (s5 s6 s7 : Sl), D'.c ≤ D.c + 100 ∧ (lentS s5 = false ∧ lentS s6 = false ∧ lentS s7 = false) ∧ e = [s0, s1, .ow false (.l (dkT D')), s3, s4, s5, s6, s7, s8, s9, s10, s11, s12, s13, s14, s15, s16, s17, s18, s19]
theorem turn_w (D : Dk) (fd : T) (h : Nr 5 12 fd) (hs : sz fd ≤ 4000) (k : Nat) (hk : k < 12) (hc : D.c + 500 ≤ 10 ^ 9) (s0 s1 s5 s6 s7 s8 s9 s10 s11 s12 s13 s14 s15 s16 s17 s18 s19 : Sl) (a5 : lentS s5 = false) (a6 : lentS s6 = false) (a7 : lentS s7 = false) :
    W (y1_law [s0, s1, .ow false (.l (dkT D)), .v fd, .v (nT k), s5, s6, s7, s8, s9, s10, s11, s12, s13, s14, s15, s16, s17, s18, s19]) (TurnQ D s0 s1 (.v fd) (.v (nT k)) s8 s9 s10 s11 s12 s13 s14 s15 s16 s17 s18 s19) := by
  have ev : ∀ (D' : Dk) (t : T) (n m : Nat), D'.c ≤ D.c + 100 → Nr n m t → n ≤ 40 → m ≤ 60 → sz t ≤ 1000000 → W ((sSeq (sPar [6, 7] (aCons (eCall 1 m__law_is_field (aCons (eVar 5) aNil)) (aCons (eFn gRepr (aCons (eVar 5) aNil)) aNil))) (sIf (tOr (tNot (tb (eCall 2 (m__law_alike 8) (aCons (eLst (aCons (eCall 1 m_is_field (aCons (eVar 5) aNil)) (aCons (eCallK 1 [0] m_is_field (aCons (eVar 5) aNil)) aNil))) (aCons (eLst (aCons (eVar 6) (aCons (eVar 6) aNil))) aNil))))) (tb (eOp2 (gEq not) (eFn gRepr (aCons (eVar 5) aNil)) (eVar 7)))) (sRet (eK (.bool false))) sNil)) [s0, s1, .ow false (.l (dkT D')), .v fd, .v (nT k), .v t, s6, s7, s8, s9, s10, s11, s12, s13, s14, s15, s16, s17, s18, s19]) (TurnQ D s0 s1 (.v fd) (.v (nT k)) s8 s9 s10 s11 s12 s13 s14 s15 s16 s17 s18 s19) := fun D' t n m h1 h2 h3 h4 h5 => by
    refine w_imp (end_v t h2 h3 h4 h5 _ _ _ _ _ s6 s7 _ _ _ _ _ _ _ _ _ _ _ _ a6 a7) ?_
    rintro _ _ ⟨rfl, s5, s6, s7, g1, rfl⟩
    exact ⟨rfl, D', s5, s6, s7, h1, g1, rfl⟩
  have el : ∀ (D' : Dk) (xs : List T) (n m : Nat), D'.c ≤ D.c + 100 → Nr n m (.list xs) → n ≤ 40 → m ≤ 60 → sz (.list xs) ≤ 1000000 → W ((sSeq (sPar [6, 7] (aCons (eCall 1 m__law_is_field (aCons (eVar 5) aNil)) (aCons (eFn gRepr (aCons (eVar 5) aNil)) aNil))) (sIf (tOr (tNot (tb (eCall 2 (m__law_alike 8) (aCons (eLst (aCons (eCall 1 m_is_field (aCons (eVar 5) aNil)) (aCons (eCallK 1 [0] m_is_field (aCons (eVar 5) aNil)) aNil))) (aCons (eLst (aCons (eVar 6) (aCons (eVar 6) aNil))) aNil))))) (tb (eOp2 (gEq not) (eFn gRepr (aCons (eVar 5) aNil)) (eVar 7)))) (sRet (eK (.bool false))) sNil)) [s0, s1, .ow false (.l (dkT D')), .v fd, .v (nT k), .ow false (.l xs), s6, s7, s8, s9, s10, s11, s12, s13, s14, s15, s16, s17, s18, s19]) (TurnQ D s0 s1 (.v fd) (.v (nT k)) s8 s9 s10 s11 s12 s13 s14 s15 s16 s17 s18 s19) := fun D' t n m h1 h2 h3 h4 h5 => by
    refine w_imp (end_l t h2 h3 h4 h5 _ _ _ _ _ s6 s7 _ _ _ _ _ _ _ _ _ _ _ _ a6 a7) ?_
    rintro _ _ ⟨rfl, s5, s6, s7, g1, rfl⟩
    exact ⟨rfl, D', s5, s6, s7, h1, g1, rfl⟩
  unfold y1_law
  generalize (sSeq (sPar [6, 7] (aCons (eCall 1 m__law_is_field (aCons (eVar 5) aNil)) (aCons (eFn gRepr (aCons (eVar 5) aNil)) aNil))) (sIf (tOr (tNot (tb (eCall 2 (m__law_alike 8) (aCons (eLst (aCons (eCall 1 m_is_field (aCons (eVar 5) aNil)) (aCons (eCallK 1 [0] m_is_field (aCons (eVar 5) aNil)) aNil))) (aCons (eLst (aCons (eVar 6) (aCons (eVar 6) aNil))) aNil))))) (tb (eOp2 (gEq not) (eFn gRepr (aCons (eVar 5) aNil)) (eVar 7)))) (sRet (eK (.bool false))) sNil)) = tl at *
  generalize TurnQ D s0 s1 (.v fd) (.v (nT k)) s8 s9 s10 s11 s12 s13 s14 s15 s16 s17 s18 s19 = QQ at *
  repeat' decreasing_trivial_pre_omega
  refine w_imp (pick_w D 5 (by decide) (by decide) (by omega)) ?_
  rintro _ _ ⟨v, D1, hv, hc1, rfl, rfl⟩
  repeat' decreasing_trivial_pre_omega
  rw [show (1 : Int) + (v : Int) = ((1 + v : Nat) : Int) by omega]
  refine w_imp (put_w 8 D1 5 12 fd (1 + v) (by omega) (by omega) h (by decide) (by decide) (by decide) (by omega)) ?_
  rintro r _ ⟨D2, t, h1, h2, h3, h4, rfl⟩
  have gl : gLt (.int (k : Int)) (.int 8) = some (.r (.bool (decide ((k : Int) < 8)))) := rfl
  rcases h4 with rfl | ⟨xs, rfl, rfl⟩
  · repeat' decreasing_trivial_pre_omega
    refine kife_d (fun h8 => ?_) fun h8 => ?_
    · repeat' decreasing_trivial_pre_omega
      exact ev D2 t _ _ (by omega) h2 (by decide) (by decide) (by omega)
    · repeat' decreasing_trivial_pre_omega
      refine w_imp (put_w 8 D2 6 13 t 4 (by omega) (by omega) h2 (by decide) (by decide) (by decide) (by omega)) ?_
      rintro r _ ⟨D3, t2, g1, g2, g3, g4, rfl⟩
      rcases g4 with rfl | ⟨xs, rfl, rfl⟩
      · repeat' decreasing_trivial_pre_omega
        exact ev D3 t2 _ _ (by omega) g2 (by decide) (by decide) (by omega)
      · repeat' decreasing_trivial_pre_omega
        exact el D3 xs _ _ (by omega) g2 (by decide) (by decide) (by omega)
  · repeat' decreasing_trivial_pre_omega
    refine kife_d (fun h8 => ?_) fun h8 => ?_
    · repeat' decreasing_trivial_pre_omega
      exact ev D2 (.list xs) _ _ (by omega) h2 (by decide) (by decide) (by omega)
    · repeat' decreasing_trivial_pre_omega
      refine w_imp (put_wl 8 D2 xs 4 (by decide) (by omega)) ?_
      rintro _ _ ⟨D3, x, g1, g2, rfl, rfl⟩
      repeat' decreasing_trivial_pre_omega
      exact ev D3 x _ _ (by omega) g2.1 (by decide) (by decide) (by omega)

set_option linter.all false
set_option maxRecDepth 100000
set_option maxHeartbeats 4000000
open PySem PySem.Spec Ev Pu Mt Wp
theorem szs_map {α : Type} (f : α → T) (c : Nat) : ∀ xs : List α, (∀ x ∈ xs, sz (f x) + 2 ≤ c) → szs (xs.map f) ≤ xs.length * c
  | [], _ => by rw [List.map_nil, szs]; omega
  | x :: xs, h => by
    have h0 := h x (by simp)
    have ih := szs_map f c xs fun y hy => h y (List.mem_cons_of_mem _ hy)
    rw [List.map_cons, szs, List.length_cons, Nat.succ_mul]
    omega
theorem sz_pt (p : Pt) : sz (ptT p) = 28 := by unfold ptT; simp [sz, szs]
theorem sz_kT (ps : List Pt) : sz (kT ps) ≤ ps.length * 30 + 4 := by
  unfold kT
  rw [sz_t]
  have := szs_map ptT 30 ps fun p _ => by rw [sz_pt]; decide
  omega
theorem nr_pt (m : Nat) (hm : 3 ≤ m) {p : Pt} (h : (0 ≤ p.1 ∧ p.1 ≤ 20) ∧ (0 ≤ p.2.1 ∧ p.2.1 ≤ 20) ∧ p.2.2 ≤ 20) : Nr 1 m (ptT p) := .tup (fun x hx => by
  simp only [List.mem_cons, List.not_mem_nil, or_false] at hx
  rcases hx with rfl | rfl | rfl <;> exact .int _ _ _ (by omega)) hm
theorem nr_kT (m : Nat) (hm : 3 ≤ m) {ps : List Pt} (hl : ps.length ≤ m) (h : ∀ p ∈ ps, (0 ≤ p.1 ∧ p.1 ≤ 20) ∧ (0 ≤ p.2.1 ∧ p.2.1 ≤ 20) ∧ p.2.2 ≤ 20) : Nr 2 m (kT ps) := .tup (fun x hx => by
  obtain ⟨p, hp, rfl⟩ := List.mem_map.mp hx
  exact nr_pt m hm (h p hp)) (by rw [List.length_map]; exact hl)
theorem FdOk.kl3 {B : Nat} {ks : List (List Pt)} {qs : List Pt} (h : FdOk B ks qs) : B ≤ 3 := by rcases h.g.hb with e | e <;> omega
theorem FdOk.nr {B : Nat} {ks : List (List Pt)} {qs : List Pt} (h : FdOk B ks qs) : Nr 5 12 (fdQ B ks qs) := by
  have b3 := h.kl3
  have kl := h.kl
  have k1 : ∀ r ∈ ks, Nr 2 12 (kT r) := fun r hr => nr_kT 12 (by decide) (by rw [h.g.len r hr]; have := B_nine h.g.hb; omega) fun p hp => by
    have := h.g.rng r hr p hp
    omega
  have k2 : Nr 3 12 (.tuple (ks.map kT)) := .tup (fun x hx => by
    obtain ⟨r, hr, rfl⟩ := List.mem_map.mp hx
    exact k1 r hr) (by rw [List.length_map]; omega)
  have k3 : Nr 4 12 (bkT B ks) := .tup (fun x hx => by
    simp only [List.mem_cons, List.not_mem_nil, or_false] at hx
    rcases hx with rfl | rfl
    · exact .int _ _ _ (by omega)
    · exact k2) (by simp)
  refine .tup (fun x hx => ?_) (by simp)
  simp only [List.mem_cons, List.not_mem_nil, or_false] at hx
  rcases hx with rfl | rfl
  · exact k3
  · exact (nr_kT 12 (by decide) h.few fun p hp => by have := h.rng p hp; omega).mono (by decide) (by decide)
theorem FdOk.size {B : Nat} {ks : List (List Pt)} {qs : List Pt} (h : FdOk B ks qs) : sz (fdQ B ks qs) ≤ 4000 := by
  have kl := h.kl
  have few := h.few
  have s1 := sz_kT qs
  have s2 := szs_map kT 276 ks fun r hr => by
    have := sz_kT r
    have := h.g.len r hr
    have := B_nine h.g.hb
    omega
  unfold fdQ bkT
  rw [sz_t, szs, szs_one, sz_t, szs, szs_one, sz_t, sz]
  omega
theorem FdOk.fd {B : Nat} {ks : List (List Pt)} {qs : List Pt} (h : FdOk B ks qs) : isFd (fdQ B ks qs) = true := by
  have e1 : ((qs.map ptT).map i3) = (qs.map fun p => (p.1, p.2.1)).map fun c => [c.1, c.2] := by
    rw [List.map_map, List.map_map]; rfl
  have e2 : ((qs.map ptT).map i3).Nodup := by
    rw [e1]
    refine List.Pairwise.map _ (fun a b hab z => hab ?_) h.nod
    have z1 : a.1 = b.1 := by injection z
    have z2 : a.2 = b.2 := by injection z with _ z; injection z
    exact Prod.ext z1 z2
  show (isBk (bkT B ks) && (decide (0 < (qs.map ptT).length) && ((qs.map ptT).all (isS (nK (bkT B ks))) && decide ((dd ((qs.map ptT).map i3)).length = (qs.map ptT).length)))) = true
  rw [good_bk h.g, dd_nodup e2]
  have k : nK (bkT B ks) = ks.length := List.length_map ..
  rw [k]
  have pos := h.pos
  simp only [List.length_map, Bool.true_and, decide_eq_true pos, Bool.and_eq_true, decide_true, and_true, List.all_eq_true]
  intro b hb
  obtain ⟨p, hp, rfl⟩ := List.mem_map.mp hb
  have r := h.rng p hp
  show (isC (.int p.1) && (isC (.int p.2.1) && isI (ks.length : Int) (.int (p.2.2 : Int)))) = true
  simp only [isC, isI, Bool.and_eq_true, decide_eq_true_eq]
  omega
/-- a row of squares -/
def rowQ (kind many : Nat) : List Pt := (List.range many).map fun (x : Nat) => ((x : Int), (0 : Int), kind)
theorem row_ok {B : Nat} {ks : List (List Pt)} (g : Good B ks) (kl : ks.length ≤ 10) {kind many : Nat} (hk : kind < ks.length) (hm : 0 < many ∧ many ≤ 12) : FdOk B ks (rowQ kind many) := by
  refine ⟨g, kl, by unfold rowQ; simp; omega, by unfold rowQ; simp; omega, fun p hp => ?_, ?_⟩
  · obtain ⟨x, hx, rfl⟩ := List.mem_map.mp hp
    have := List.mem_range.mp hx
    refine ⟨⟨by show (0 : Int) ≤ (x : Int); omega, by show (x : Int) ≤ 20; omega⟩, ⟨by show (0 : Int) ≤ 0; omega, by show (0 : Int) ≤ 20; omega⟩, hk⟩
  · unfold rowQ
    rw [List.map_map]
    refine List.Pairwise.map _ (fun a b hab z => hab ?_) List.nodup_range
    have : (a : Int) = (b : Int) := congrArg Prod.fst z
    omega
theorem fd_is {B : Nat} {ks : List (List Pt)} {qs : List Pt} (h : FdOk B ks qs) : m_is_field [.v (fdQ B ks qs)] = .ok (.r (.bool true)) [.v (fdQ B ks qs)] := by
  have := is_field_ok h.nr (by decide) (by decide)
  rw [h.fd] at this
  exact this

set_option linter.all false
set_option maxRecDepth 100000
set_option maxHeartbeats 4000000
open PySem PySem.Spec Ev Pu Mt Wp
/-! ### what the law reckons: powers, cells -/
theorem lpower_ok (b : Int) (n : Nat) (h0 : 0 ≤ b) (h1 : b ≤ 16) (hn : n ≤ 200) : m__law_power [.v (.int b), .v (.int (n : Int))] = .ok (.r (.int (b ^ n))) [.v (.int b), .v (.int (n : Int))] := by
  have hb : b.natAbs.log2 < 5 := log2_small (by omega) (by omega)
  obtain ⟨e', h, l3, a3, rfl⟩ := for_on (g := gN 3) (b := y1__law_power) (fun (k : Nat) => PyData.int (0 + (k : Int))) (fun don e => ∃ l3, lentS l3 = false ∧ e = [.v (.int b), .v (.int (n : Int)), .v (.int (b ^ don.length)), l3]) 200 (List.range n) [] [.v (.int b), .v (.int (n : Int)), .v (.int (b ^ 0)), .un] ⟨_, rfl, rfl⟩ (by simpa using hn) fun k _ don e hd ⟨l3, a3, he⟩ => by
    subst he
    have h2 := pow_small h0 h1 don.length (by omega)
    have h3 : (b ^ don.length).natAbs.log2 + b.natAbs.log2 < 1000000 := by omega
    rw [List.length_append, List.length_singleton, Int.pow_succ]
    generalize b ^ don.length = z at h3 ⊢
    generalize don.length = dl
    refine ⟨[.v (.int b), .v (.int (n : Int)), .v (.int z), .v (.int (0 + (k : Int)))], by simp only [a3, eMLenE, eRep, eDLen, eNNew, eNLen, eListRng, gMax1, gSum, eMIn, eMInE, sMPut, eMNew, eMDict1, eMLen, eListZip, Option.isSome_none, Option.isSome_some, eMut, gAppend, gInsert, eRev, eIndex, eLenSet, gInt, gLen, gTuple, gList, gAbs, gMax2, gMin2, gDivmod, gEq_int, runFn, sSeq, sIf, sSet, sSetIx, sRet, sRetN, sNil, sDrop, sAsg, sFor, sPar, sNever, setO, retO, setOs, presc, eVar, eK, eTwo, v2, eFn, eDisp, eTup, eLst, eCall, eCallR, eCallK, pick, toSl, toSls, sIdx, wb, bk, esc, escs, vals, aNil, aCons, tb, Ev.tNot, Ev.tAnd, Ev.tOr, gGt, gLt, gGe, gLe, gSub, gMod, gDiv, gPow, gAdd, gMul, gInt, mulOk, g1, g2, fInt, fLen, fTuple, fList, fAbs, eAnd, eOr, eNot, eIf, eNeg, eIsi, gII, gIx, gIsN, gN, gT, gsNil, gsCons, isLent_eq, lentO, lentS_v, lentS_un, lentS_f, lentS_t, lentS_z, finE, okArg, Out.bind, Od.val, slVal, Bx.tr, Bx.t, isN, L2.ixN, L2.atI, isInt, isBool, isTuple, isList, isStr, isDict, isTL, Nat.zero_le, id_eq, eq_self, Pu.c0, Pu.c1, Pu.c2, Pu.c3, Pu.c4, Pu.c5, Pu.c6, Pu.c7, Pu.c8, Pu.c9, Pu.s1, Pu.s2, Pu.s3, Pu.s4, Pu.s5, Pu.s6, Pu.s7, Pu.s8, Pu.s9, Int.reduceEq, Nat.reduceMul, Int.ofNat_eq_natCast, wipeE, restE, exists_eq_left', Option.some.injEq, Out.ok.injEq, Prod.mk.injEq, Option.bind_some, Option.bind_none, Option.bind_eq_bind, List.getElem?_cons_zero, List.getElem?_cons_succ, List.getElem?_nil, List.set_cons_zero, List.set_cons_succ, List.set_nil, List.length_cons, List.length_nil, List.replicate_succ, List.replicate_zero, List.cons_append, List.nil_append, List.append_nil, List.all_cons, List.all_nil, Bool.and_true, Bool.true_and, Bool.and_false, Bool.false_and, if_true, if_false, ite_true, ite_false, List.nodup_cons, List.nodup_nil, List.not_mem_nil, List.mem_cons, not_false_eq_true, and_true, true_and, reduceIte, Nat.reduceAdd, Nat.reduceSub, Nat.reduceEqDiff, Nat.reduceLT, Nat.reduceLeDiff, Option.map_some, Option.map_none, Option.getD_some, reduceCtorEq, or_self, or_false, false_or, not_true_eq_false, decide_true, decide_false, Bool.not_true, Bool.not_false, Bool.false_eq_true, Nat.zero_add, Nat.add_zero, forall_const, Int.reduceLT, Int.reduceLE, Int.reduceNeg, Int.reduceToNat, Int.toNat_natCast, and_self], [.v (.int b), .v (.int (n : Int)), .v (.int (z * b)), .v (.int (0 + (k : Int)))], .inl ?_, _, rfl, rfl⟩
    unfold y1__law_power
    simp only [h3, eMLenE, eRep, eDLen, eNNew, eNLen, eListRng, gMax1, gSum, eMIn, eMInE, sMPut, eMNew, eMDict1, eMLen, eListZip, Option.isSome_none, Option.isSome_some, eMut, gAppend, gInsert, eRev, eIndex, eLenSet, gInt, gLen, gTuple, gList, gAbs, gMax2, gMin2, gDivmod, gEq_int, runFn, sSeq, sIf, sSet, sSetIx, sRet, sRetN, sNil, sDrop, sAsg, sFor, sPar, sNever, setO, retO, setOs, presc, eVar, eK, eTwo, v2, eFn, eDisp, eTup, eLst, eCall, eCallR, eCallK, pick, toSl, toSls, sIdx, wb, bk, esc, escs, vals, aNil, aCons, tb, Ev.tNot, Ev.tAnd, Ev.tOr, gGt, gLt, gGe, gLe, gSub, gMod, gDiv, gPow, gAdd, gMul, gInt, mulOk, g1, g2, fInt, fLen, fTuple, fList, fAbs, eAnd, eOr, eNot, eIf, eNeg, eIsi, gII, gIx, gIsN, gN, gT, gsNil, gsCons, isLent_eq, lentO, lentS_v, lentS_un, lentS_f, lentS_t, lentS_z, finE, okArg, Out.bind, Od.val, slVal, Bx.tr, Bx.t, isN, L2.ixN, L2.atI, isInt, isBool, isTuple, isList, isStr, isDict, isTL, Nat.zero_le, id_eq, eq_self, Pu.c0, Pu.c1, Pu.c2, Pu.c3, Pu.c4, Pu.c5, Pu.c6, Pu.c7, Pu.c8, Pu.c9, Pu.s1, Pu.s2, Pu.s3, Pu.s4, Pu.s5, Pu.s6, Pu.s7, Pu.s8, Pu.s9, Int.reduceEq, Nat.reduceMul, Int.ofNat_eq_natCast, wipeE, restE, exists_eq_left', Option.some.injEq, Out.ok.injEq, Prod.mk.injEq, Option.bind_some, Option.bind_none, Option.bind_eq_bind, List.getElem?_cons_zero, List.getElem?_cons_succ, List.getElem?_nil, List.set_cons_zero, List.set_cons_succ, List.set_nil, List.length_cons, List.length_nil, List.replicate_succ, List.replicate_zero, List.cons_append, List.nil_append, List.append_nil, List.all_cons, List.all_nil, Bool.and_true, Bool.true_and, Bool.and_false, Bool.false_and, if_true, if_false, ite_true, ite_false, List.nodup_cons, List.nodup_nil, List.not_mem_nil, List.mem_cons, not_false_eq_true, and_true, true_and, reduceIte, Nat.reduceAdd, Nat.reduceSub, Nat.reduceEqDiff, Nat.reduceLT, Nat.reduceLeDiff, Option.map_some, Option.map_none, Option.getD_some, reduceCtorEq, or_self, or_false, false_or, not_true_eq_false, decide_true, decide_false, Bool.not_true, Bool.not_false, Bool.false_eq_true, Nat.zero_add, Nat.add_zero, forall_const, Int.reduceLT, Int.reduceLE, Int.reduceNeg, Int.reduceToNat, Int.toNat_natCast, and_self]
  rw [List.nil_append, List.length_range, Int.pow_zero] at h
  have hl : l1__law_power [.v (.int b), .v (.int (n : Int)), .v (.int 1), .un] = .ok .nx [.v (.int b), .v (.int (n : Int)), .v (.int (b ^ n)), l3] := by
    have hi := iR1_nat (m := aCons (eVar 1) aNil) (e := [.v (.int b), .v (.int (n : Int)), .v (.int 1), .un]) (e1 := [.v (.int b), .v (.int (n : Int)), .v (.int 1), .un]) (rs := [.r (.int (n : Int))]) (n := n) rfl rfl (by omega)
    unfold l1__law_power
    rw [sFor_eq hi]
    exact h
  exact pw_st l1__law_power _ _ _ _ _ hl
theorem lpow_ok {B : Nat} (hb : B = 2 ∨ B = 3) (d : Nat) (hd : d ≤ 200) : m__law_power [.v (.int ((B : Int) * (B : Int))), .v (nT d)] = .ok (.r (nT ((B * B) ^ d))) [.v (.int ((B : Int) * (B : Int))), .v (nT d)] := by
  have hN : B * B ≤ 16 := by rcases hb with h | h <;> subst h <;> decide
  have h := lpower_ok ((B * B : Nat) : Int) d (by omega) (by omega) hd
  rw [← Int.natCast_pow, Int.natCast_mul] at h
  exact h
theorem log_pow {N : Nat} (h : N ≤ 16) (k : Nat) (hk : k ≤ 200) : ((N ^ k : Nat) : Int).natAbs.log2 < 9000 := by
  have := pow_small (b := (N : Int)) (by omega) (by omega) k hk
  rw [← Int.natCast_pow] at this
  omega
theorem bsmall {B : Nat} (h : B = 2 ∨ B = 3) : (B : Int).natAbs.log2 + (B : Int).natAbs.log2 < 1000000 := by
  have : (B : Int).natAbs.log2 < 10 := log2_small (by rcases h with h | h <;> omega) (by decide)
  omega
theorem hm_st (m : FSem) (b : Int) (tk_ td r : T) (hm : b.natAbs.log2 + b.natAbs.log2 < 1000000) (h : m [.v (.int (b * b)), .v td] = .ok (.r r) [.v (.int (b * b)), .v td]) :
    runFn 2 (sRet (eCall 2 m (aCons (eOp2 gMul (eOp2 gIx (eVar 0) (eK (.int 0))) (eOp2 gIx (eVar 0) (eK (.int 0)))) (aCons (eVar 1) aNil)))) [.v (.tuple [.int b, tk_]), .v td] = .ok (.r r) [.v (.tuple [.int b, tk_]), .v td] := by
  simp only [hm, h, eMLenE, eRep, eDLen, eNNew, eNLen, eListRng, gMax1, gSum, eMIn, eMInE, sMPut, eMNew, eMDict1, eMLen, eListZip, Option.isSome_none, Option.isSome_some, eMut, gAppend, gInsert, eRev, eIndex, eLenSet, gInt, gLen, gTuple, gList, gAbs, gMax2, gMin2, gDivmod, gEq_int, runFn, sSeq, sIf, sSet, sSetIx, sRet, sRetN, sNil, sDrop, sAsg, sFor, sPar, sNever, setO, retO, setOs, presc, eVar, eK, eTwo, v2, eFn, eDisp, eTup, eLst, eCall, eCallR, eCallK, pick, toSl, toSls, sIdx, wb, bk, esc, escs, vals, aNil, aCons, tb, Ev.tNot, Ev.tAnd, Ev.tOr, gGt, gLt, gGe, gLe, gSub, gMod, gDiv, gPow, gAdd, gMul, gInt, mulOk, g1, g2, fInt, fLen, fTuple, fList, fAbs, eAnd, eOr, eNot, eIf, eNeg, eIsi, gII, gIx, gIsN, gN, gT, gsNil, gsCons, isLent_eq, lentO, lentS_v, lentS_un, lentS_f, lentS_t, lentS_z, finE, okArg, Out.bind, Od.val, slVal, Bx.tr, Bx.t, isN, L2.ixN, L2.atI, isInt, isBool, isTuple, isList, isStr, isDict, isTL, Nat.zero_le, id_eq, eq_self, Pu.c0, Pu.c1, Pu.c2, Pu.c3, Pu.c4, Pu.c5, Pu.c6, Pu.c7, Pu.c8, Pu.c9, Pu.s1, Pu.s2, Pu.s3, Pu.s4, Pu.s5, Pu.s6, Pu.s7, Pu.s8, Pu.s9, Int.reduceEq, Nat.reduceMul, Int.ofNat_eq_natCast, wipeE, restE, exists_eq_left', Option.some.injEq, Out.ok.injEq, Prod.mk.injEq, Option.bind_some, Option.bind_none, Option.bind_eq_bind, List.getElem?_cons_zero, List.getElem?_cons_succ, List.getElem?_nil, List.set_cons_zero, List.set_cons_succ, List.set_nil, List.length_cons, List.length_nil, List.replicate_succ, List.replicate_zero, List.cons_append, List.nil_append, List.append_nil, List.all_cons, List.all_nil, Bool.and_true, Bool.true_and, Bool.and_false, Bool.false_and, if_true, if_false, ite_true, ite_false, List.nodup_cons, List.nodup_nil, List.not_mem_nil, List.mem_cons, not_false_eq_true, and_true, true_and, reduceIte, Nat.reduceAdd, Nat.reduceSub, Nat.reduceEqDiff, Nat.reduceLT, Nat.reduceLeDiff, Option.map_some, Option.map_none, Option.getD_some, reduceCtorEq, or_self, or_false, false_or, not_true_eq_false, decide_true, decide_false, Bool.not_true, Bool.not_false, Bool.false_eq_true, Nat.zero_add, Nat.add_zero, forall_const, Int.reduceLT, Int.reduceLE, Int.reduceNeg, Int.reduceToNat, Int.toNat_natCast, and_self]
theorem hm_ok {B : Nat} {ks : List (List Pt)} (g : Good B ks) (d : Nat) (hd : d ≤ 200) : m_how_many_cells [.v (bkT B ks), .v (nT d)] = .ok (.r (nT ((B * B) ^ d))) [.v (bkT B ks), .v (nT d)] := by
  have hN : B * B ≤ 16 := by rcases g.hb with h | h <;> subst h <;> decide
  have h := power_ok ((B * B : Nat) : Int) d (by omega) (by omega) hd
  rw [← Int.natCast_pow, Int.natCast_mul] at h
  exact hm_st m_power (B : Int) (.tuple (ks.map kT)) (nT d) _ (bsmall g.hb) h
theorem chk_book {B : Nat} {ks : List (List Pt)} (g : Good B ks) : m_check_book [.v (bkT B ks)] = .ok (.r .none) [.v (bkT B ks)] := by
  have ib := is_book_ok (bkT B ks) (good_few g)
  rw [good_bk g] at ib
  refine w_eq ?_
  unfold m_check_book
  (apply Wp.w_fun; (focus (rfl; done)); (focus (((try simp only [List.cons_append, List.nil_append, List.length_cons, List.length_nil, Nat.reduceAdd, Nat.reduceSub, Nat.zero_add, Nat.sub_zero, List.replicate_succ, List.replicate_zero, List.append_nil]); rfl); done)))
  unfold b_check_book
  repeat' decreasing_trivial_pre_omega
  refine w_of ib ?_
  repeat' decreasing_trivial_pre_omega
  exact ⟨rfl, rfl⟩
theorem chk_kind (B : Nat) (ks : List (List Pt)) (k : Nat) (hk : k < ks.length) : m_check_kind [.v (bkT B ks), .v (nT k)] = .ok (.r .none) [.v (bkT B ks), .v (nT k)] := by
  have hl : (ks.map kT).length = ks.length := List.length_map ..
  have ib := is_index_ok (nT k) ks.length
  rw [show isI (ks.length : Int) (nT k) = true from decide_eq_true (by omega)] at ib
  refine w_eq ?_
  unfold m_check_kind
  (apply Wp.w_fun; (focus (rfl; done)); (focus (((try simp only [List.cons_append, List.nil_append, List.length_cons, List.length_nil, Nat.reduceAdd, Nat.reduceSub, Nat.zero_add, Nat.sub_zero, List.replicate_succ, List.replicate_zero, List.append_nil]); rfl); done)))
  unfold b_check_kind bkT
  repeat' decreasing_trivial_pre_omega
  rw [hl]
  refine w_of ib ?_
  repeat' decreasing_trivial_pre_omega
  exact ⟨rfl, rfl⟩
theorem chk_from_one (n : Nat) (h : 0 < n) : m_check_from_one [.v (nT n)] = .ok (.r .none) [.v (nT n)] := by
  have ib := is_count_ok (nT n)
  rw [show isC (nT n) = true from (decide_eq_true (by omega : (0 : Int) ≤ (n : Int)))] at ib
  have z : decide ((n : Int) = 0) = false := decide_eq_false (by omega)
  refine w_eq ?_
  unfold m_check_from_one
  (apply Wp.w_fun; (focus (rfl; done)); (focus (((try simp only [List.cons_append, List.nil_append, List.length_cons, List.length_nil, Nat.reduceAdd, Nat.reduceSub, Nat.zero_add, Nat.sub_zero, List.replicate_succ, List.replicate_zero, List.append_nil]); rfl); done)))
  unfold b_check_from_one
  repeat' decreasing_trivial_pre_omega
  refine w_of ib ?_
  repeat' decreasing_trivial_pre_omega
  exact ⟨rfl, rfl⟩
theorem chk_depth (n : Nat) : m_check_depth [.v (nT n)] = .ok (.r .none) [.v (nT n)] := by
  have ib := is_count_ok (nT n)
  rw [show isC (nT n) = true from (decide_eq_true (by omega : (0 : Int) ≤ (n : Int)))] at ib
  refine w_eq ?_
  unfold m_check_depth
  (apply Wp.w_fun; (focus (rfl; done)); (focus (((try simp only [List.cons_append, List.nil_append, List.length_cons, List.length_nil, Nat.reduceAdd, Nat.reduceSub, Nat.zero_add, Nat.sub_zero, List.replicate_succ, List.replicate_zero, List.append_nil]); rfl); done)))
  unfold b_check_depth
  repeat' decreasing_trivial_pre_omega
  refine w_of ib ?_
  repeat' decreasing_trivial_pre_omega
  exact ⟨rfl, rfl⟩
theorem chk_field {B : Nat} {ks : List (List Pt)} {qs : List Pt} (h : FdOk B ks qs) : m_check_field [.v (fdQ B ks qs)] = .ok (.r .none) [.v (fdQ B ks qs)] := by
  have ib := fd_is h
  refine w_eq ?_
  unfold m_check_field
  (apply Wp.w_fun; (focus (rfl; done)); (focus (((try simp only [List.cons_append, List.nil_append, List.length_cons, List.length_nil, Nat.reduceAdd, Nat.reduceSub, Nat.zero_add, Nat.sub_zero, List.replicate_succ, List.replicate_zero, List.append_nil]); rfl); done)))
  unfold b_check_field
  repeat' decreasing_trivial_pre_omega
  refine w_of ib ?_
  repeat' decreasing_trivial_pre_omega
  exact ⟨rfl, rfl⟩
theorem row_t (kind many : Nat) : ((List.range many).map fun (x : Nat) => PyData.tuple [nT x, .int 0, nT kind]) = (rowQ kind many).map ptT := by
  unfold rowQ
  rw [List.map_map]
  rfl
theorem row_x (kind many : Nat) (hm : many ≤ 12) (t : T) : W (x1_row_field [.v t, .v (nT kind), .v (nT many), .un]) fun r e => r = .b (.l ((rowQ kind many).map ptT)) ∧ e = [.v t, .v (nT kind), .v (nT many), .un] := by
  unfold x1_row_field
  repeat' decreasing_trivial_pre_omega
  refine kr1 (n := many) rfl (by omega) ?_
  unfold below
  refine comp_map_w (fun (k : Nat) => PyData.int (k : Int)) (fun (x : Nat) => PyData.tuple [nT x, .int 0, nT kind]) (List.range many) (by rw [List.length_range]; unfold sizeLine; omega) (fun x _ => ⟨_, rfl, ?_⟩) ?_
  · repeat' decreasing_trivial_pre_omega
    exact ⟨rfl, rfl⟩
  · rw [row_t]
    exact ⟨rfl, rfl⟩
theorem row_field_ok {B : Nat} {ks : List (List Pt)} (g : Good B ks) {kind many : Nat} (hk : kind < ks.length) (hm : 0 < many ∧ many ≤ 12) : m_row_field [.v (bkT B ks), .v (nT kind), .v (nT many)] = .ok (.r (fdQ B ks (rowQ kind many))) [.v (bkT B ks), .v (nT kind), .v (nT many)] := by
  have c1 := chk_book g
  have c2 := chk_kind B ks kind hk
  have c3 := chk_from_one many hm.1
  have rx := row_x kind many hm.2 (bkT B ks)
  refine w_eq ?_
  unfold m_row_field
  (apply Wp.w_fun; (focus (rfl; done)); (focus (((try simp only [List.cons_append, List.nil_append, List.length_cons, List.length_nil, Nat.reduceAdd, Nat.reduceSub, Nat.zero_add, Nat.sub_zero, List.replicate_succ, List.replicate_zero, List.append_nil]); rfl); done)))
  unfold b_row_field fdQ kT
  repeat' decreasing_trivial_pre_omega
  refine w_of c1 ?_
  repeat' decreasing_trivial_pre_omega
  refine w_of c2 ?_
  repeat' decreasing_trivial_pre_omega
  refine w_of c3 ?_
  repeat' decreasing_trivial_pre_omega
  refine w_imp rx ?_
  rintro _ _ ⟨rfl, rfl⟩
  repeat' decreasing_trivial_pre_omega
  exact ⟨rfl, rfl⟩

set_option linter.all false
set_option maxRecDepth 100000
set_option maxHeartbeats 4000000
open PySem PySem.Spec Ev Pu Mt Wp
/-! ### the cell of a number, by the law -/
theorem ca_step (t0 t2 kds row : T) (b c0 c1 n0 n1 j kind x y px py pk : Int) (f0 : mulOk b b = true) (f1 : gDiv (.int c0) (.int (b * b)) = some (.r (.int c1))) (f2 : gDiv (.int n0) (.int c1) = some (.r (.int j))) (f3 : gMod (.int n0) (.int c1) = some (.r (.int n1)))
    (i1 : gIx kds (.int kind) = some (.r row)) (i2 : gIx row (.int j) = some (.r (.tuple [.int px, .int py, .int pk]))) (m1 : mulOk x b = true) (m2 : mulOk y b = true) (s9 s10 s11 : Sl) (a10 : lentS s10 = false) (a11 : lentS s11 = false) :
    W (y2__law_cell_at [.v t0, .v (.int kind), .v t2, .v (.int n0), .v (.int b), .v kds, .v (.int x), .v (.int y), .v (.int c0), s9, s10, s11]) fun fl e => fl = .nx ∧ e = [.v t0, .v (.int pk), .v t2, .v (.int n1), .v (.int b), .v kds, .v (.int (x * b + px)), .v (.int (y * b + py)), .v (.int c1), s9, .v (.int px), .v (.int py)] := by
  unfold y2__law_cell_at
  repeat' decreasing_trivial_pre_omega
  exact ⟨rfl, rfl⟩
theorem cb_step (t0 t1 t2 t3 kds t6 t7 : T) (b c : Int) (m1 : mulOk c b = true) (m2 : mulOk (c * b) b = true) (s9 : Sl) :
    W (y1__law_cell_at [.v t0, .v t1, .v t2, .v t3, .v (.int b), .v kds, .v t6, .v t7, .v (.int c), s9, .un, .un]) fun fl e => fl = .nx ∧ e = [.v t0, .v t1, .v t2, .v t3, .v (.int b), .v kds, .v t6, .v t7, .v (.int (c * b * b)), s9, .un, .un] := by
  unfold y1__law_cell_at
  repeat' decreasing_trivial_pre_omega
  exact ⟨rfl, rfl⟩
theorem pw16 {N : Nat} (h : N ≤ 16) (k : Nat) (hk : k ≤ 200) : ((N ^ k : Nat) : Int).natAbs.log2 < 801 := by
  have := pow_small (b := (N : Int)) (by omega) (by omega) k hk
  rw [← Int.natCast_pow] at this
  exact this
theorem b_small {B : Nat} (h : B = 2 ∨ B = 3) : (B : Int).natAbs.log2 < 10 := log2_small (by rcases h with h | h <;> omega) (by decide)
theorem law_cell_at_w {B : Nat} {ks : List (List Pt)} (g : Good B ks) {k : Nat} (hk : k < ks.length) (d n : Nat) (hd : d ≤ 60) (hn : n < (B * B) ^ d) :
    W (m__law_cell_at [.v (bkT B ks), .v (nT k), .v (nT d), .v (nT n)]) fun r e => r = .r (cT (cellF B ks k d n)) ∧ e = [.v (bkT B ks), .v (nT k), .v (nT d), .v (nT n)] := by
  have hN : 0 < B * B ∧ B * B ≤ 16 := by rcases g.hb with h | h <;> subst h <;> decide
  have hb := b_small g.hb
  have hlt := digs_lt n hN.1 d
  have hlen := digs_len (B * B) n d
  have mbb : mulOk (B : Int) (B : Int) = true := mulOk_of 10 10 hb hb (by decide)
  unfold m__law_cell_at
  (apply Wp.w_fun; (focus (rfl; done)); (focus (((try simp only [List.cons_append, List.nil_append, List.length_cons, List.length_nil, Nat.reduceAdd, Nat.reduceSub, Nat.zero_add, Nat.sub_zero, List.replicate_succ, List.replicate_zero, List.append_nil]); rfl); done)))
  have hu : bkT B ks = .tuple [nT B, .tuple (ks.map kT)] := rfl
  generalize hbk : bkT B ks = bk0 at *
  unfold b__law_cell_at
  subst hu
  repeat' decreasing_trivial_pre_omega
  unfold l1__law_cell_at
  repeat' decreasing_trivial_pre_omega
  refine kr1 (n := d) rfl (by omega) (for_below (fun t e => ∃ s9, lentS s9 = false ∧ e = [.v (.tuple [nT B, .tuple (ks.map kT)]), .v (nT k), .v (nT d), .v (nT n), .v (nT B), .v (.tuple (ks.map kT)), .v (.int 0), .v (.int 0), .v (nT ((B * B) ^ t)), s9, .un, .un]) ⟨.un, rfl, by rw [Nat.pow_zero]; rfl⟩ ?_ ?_)
  · rintro t ht e ⟨s9, a9, rfl⟩
    refine ⟨_, gN_ok (by first | rfl | exact Wp.isLent_of rfl (by assumption)) rfl, ?_⟩
    have p1 := pw16 hN.2 t (by omega)
    have m1 : mulOk (((B * B) ^ t : Nat) : Int) (B : Int) = true := mulOk_of 801 10 p1 hb (by decide)
    have m2 : mulOk ((((B * B) ^ t : Nat) : Int) * (B : Int)) (B : Int) = true := by
      have e : (((B * B) ^ t : Nat) : Int) * (B : Int) = (((B * B) ^ t * B : Nat) : Int) := by rw [Int.natCast_mul]
      rw [e]
      refine mulOk_of 900 10 ?_ hb (by decide)
      have l1 : (B * B) ^ t ≤ 16 ^ 60 := Nat.le_trans (Nat.pow_le_pow_left hN.2 t) (Nat.pow_le_pow_right (by decide) (by omega))
      have l2 : (B * B) ^ t * B ≤ 16 ^ 60 * 16 := Nat.mul_le_mul l1 (by rcases g.hb with h | h <;> omega)
      refine log2_small ?_ (by decide)
      rw [Int.natAbs_natCast]
      exact Nat.lt_of_le_of_lt l2 (by decide)
    refine w_imp (cb_step _ _ _ _ _ _ _ _ _ m1 m2 _) ?_
    rintro _ _ ⟨rfl, rfl⟩
    refine kturn_nx ⟨.v (.int (t : Int)), rfl, ?_⟩
    rw [Nat.pow_succ, show nT ((B * B) ^ t * (B * B)) = PyData.int ((((B * B) ^ t : Nat) : Int) * (B : Int) * (B : Int)) from congrArg PyData.int (by rw [Int.natCast_mul, Int.natCast_mul, Int.mul_assoc])]
  · rintro e ⟨s9, a9, rfl⟩
    repeat' decreasing_trivial_pre_omega
    unfold l2__law_cell_at
    repeat' decreasing_trivial_pre_omega
    let St (t : Nat) (l9 l10 l11 : Sl) : En := [.v (.tuple [nT B, .tuple (ks.map kT)]), .v (nT (run B ks (k, 0, 0) ((digs (B * B) n d).take t)).1), .v (nT d), .v (nT (n % (B * B) ^ (d - t))), .v (nT B), .v (.tuple (ks.map kT)), .v (.int (run B ks (k, 0, 0) ((digs (B * B) n d).take t)).2.1), .v (.int (run B ks (k, 0, 0) ((digs (B * B) n d).take t)).2.2), .v (nT ((B * B) ^ (d - t))), l9, l10, l11]
    refine kr1 (n := d) rfl (by omega) (for_below (fun t e => ∃ l9 l10 l11, (lentS l9 = false ∧ lentS l10 = false ∧ lentS l11 = false) ∧ e = St t l9 l10 l11) ⟨s9, .un, .un, ⟨a9, rfl, rfl⟩, ?_⟩ ?_ ?_)
    · show _ = [_, _, _, _, _, _, _, _, _, _, _, _]
      rw [Nat.sub_zero, Nat.mod_eq_of_lt hn]
      rfl
    · rintro t ht e ⟨l9, l10, l11, ⟨a9, a10, a11⟩, rfl⟩
      have tk := fun x (hx : x ∈ (digs (B * B) n d).take t) => hlt x (List.mem_of_mem_take hx)
      have kk := run_kind g ((digs (B * B) n d).take t) (k, 0, 0) hk tk
      have hj : n / (B * B) ^ (d - t - 1) % (B * B) < B * B := Nat.mod_lt _ hN.1
      obtain ⟨ps, q1, q2, _⟩ := g.at_ kk hj
      have sm := run_small g ((digs (B * B) n d).take t) k hk tk (by rw [List.length_take]; omega)
      have i1 := get_ks q1
      have i2 := get_ps q2
      have r1 : run B ks (k, 0, 0) ((digs (B * B) n d).take (t + 1)) = stp B ks (run B ks (k, 0, 0) ((digs (B * B) n d).take t)) (n / (B * B) ^ (d - t - 1) % (B * B)) := by rw [take_succ_digs n d t ht, run_app]; rfl
      have hpp : 0 < (B * B) ^ (d - t - 1) := Nat.pow_pos hN.1
      have lp := pw16 hN.2 (d - t - 1) (by omega)
      have f1 : gDiv (.int (((B * B) ^ (d - t) : Nat) : Int)) (.int ((B : Int) * (B : Int))) = some (.r (.int (((B * B) ^ (d - t - 1) : Nat) : Int))) := by
        have z := gDiv_ok (i := (((B * B) ^ (d - t) : Nat) : Int)) (j := (B : Int) * (B : Int)) (by rw [← Int.natCast_mul]; omega) (by
          rw [← Int.natCast_mul]
          have := log_pow hN.2 1 (by omega)
          rw [Nat.pow_one] at this
          exact this)
        rw [z, ← Int.natCast_mul, ← Int.natCast_ediv, show (B * B) ^ (d - t) = (B * B) ^ (d - t - 1) * (B * B) by rw [← Nat.pow_succ]; congr 1; omega, Nat.mul_div_cancel _ hN.1]
      have f2 : gDiv (.int ((n % (B * B) ^ (d - t) : Nat) : Int)) (.int (((B * B) ^ (d - t - 1) : Nat) : Int)) = some (.r (.int ((n / (B * B) ^ (d - t - 1) % (B * B) : Nat) : Int))) := by
        rw [gDiv_ok (by omega) (by omega), ← Int.natCast_ediv, rest_div hN.1 n d t ht]
      have f3 : gMod (.int ((n % (B * B) ^ (d - t) : Nat) : Int)) (.int (((B * B) ^ (d - t - 1) : Nat) : Int)) = some (.r (.int ((n % (B * B) ^ (d - (t + 1)) : Nat) : Int))) := by
        rw [gMod_ok (by omega) , ← Int.natCast_emod, rest_mod n d t ht]
        rfl
      refine ⟨_, gN_ok (by first | rfl | exact Wp.isLent_of rfl (by assumption)) rfl, ?_⟩
      refine w_imp (ca_step _ _ _ _ (B : Int) _ _ _ _ _ _ _ _ _ _ _ mbb f1 f2 f3 i1 i2 (decide_eq_true sm.1) (decide_eq_true sm.2) _ l10 l11 a10 a11) ?_
      rintro _ _ ⟨rfl, rfl⟩
      refine kturn_nx ⟨.v (nT t), .v (.int (Mt.part ks (run B ks (k, 0, 0) ((digs (B * B) n d).take t)).1 (n / (B * B) ^ (d - t - 1) % (B * B))).1), .v (.int (Mt.part ks (run B ks (k, 0, 0) ((digs (B * B) n d).take t)).1 (n / (B * B) ^ (d - t - 1) % (B * B))).2.1), ⟨rfl, rfl, rfl⟩, ?_⟩
      simp only [St, r1]
      rfl
    · rintro e ⟨l9, l10, l11, ⟨a9, a10, a11⟩, rfl⟩
      have tl : (digs (B * B) n d).take d = digs (B * B) n d := List.take_of_length_le (by omega)
      simp only [St, tl]
      repeat' decreasing_trivial_pre_omega
      exact ⟨rfl, rfl⟩

set_option linter.all false
set_option maxRecDepth 100000
set_option maxHeartbeats 4000000
open PySem PySem.Spec Ev Pu Mt Wp
theorem row_at (kind many a : Nat) (h : a < many) : gIx (.tuple ((rowQ kind many).map ptT)) (.int (a : Int)) = some (.r (.tuple [nT a, .int 0, nT kind])) := by
  rw [← row_t]
  exact gIx_t (by rw [List.getElem?_map, List.getElem?_range h]; rfl)
/-- a cell of a row of squares -/
def rowC (B : Nat) (ks : List (List Pt)) (kind d a i : Nat) : Int × Int := ((a : Int) * (B : Int) ^ d + (cellF B ks kind d i).1, 0 * (B : Int) ^ d + (cellF B ks kind d i).2)
theorem field_cell_w {B : Nat} {ks : List (List Pt)} (g : Good B ks) (kl : ks.length ≤ 10) {kind many : Nat} (hk : kind < ks.length) (hm : 0 < many ∧ many ≤ 12) (d a i : Nat) (hd : d ≤ 60) (ha : a < many) (hi : i < (B * B) ^ d) :
    W (m_field_cell [.v (fdQ B ks (rowQ kind many)), .v (nT d), .v (nT (a * (B * B) ^ d + i))]) fun r e => r = .r (cT (rowC B ks kind d a i)) ∧ e = [.v (fdQ B ks (rowQ kind many)), .v (nT d), .v (nT (a * (B * B) ^ d + i))] := by
  have hN : 0 < B * B ∧ B * B ≤ 16 := by rcases g.hb with h | h <;> subst h <;> decide
  have hb := b_small g.hb
  have c1 := chk_field (row_ok g kl hk hm)
  have c2 := chk_depth d
  have c3 := hm_ok g d (by omega)
  have c4 := cell_in_kind_ok g hk d i (by omega)
  have c5 := power_ok (B : Int) d (by omega) (by rcases g.hb with h | h <;> omega) (by omega)
  have ra := row_at kind many a ha
  have pw := pw16 hN.2 d (by omega)
  have pos : 0 < (B * B) ^ d := Nat.pow_pos hN.1
  have rl : (rowQ kind many).length = many := by unfold rowQ; rw [List.length_map, List.length_range]
  have bd : ((B : Int) ^ d).natAbs.log2 < 801 := pow_small (by omega) (by rcases g.hb with h | h <;> omega) d (by omega)
  have al : (a : Int).natAbs.log2 < 10 := log2_small (by omega) (by decide)
  have ml : (many : Int).natAbs.log2 < 10 := log2_small (by omega) (by decide)
  have m1 : mulOk (((B * B) ^ d : Nat) : Int) (many : Int) = true := mulOk_of 801 10 pw ml (by decide)
  have m2 : mulOk (a : Int) ((B : Int) ^ d) = true := mulOk_of 10 801 al bd (by decide)
  have m3 : mulOk (0 : Int) ((B : Int) ^ d) = true := mulOk_of 10 801 (by decide) bd (by decide)
  have g1 := gMul_ok m1
  have g2 := gMul_ok m2
  have g3 := gMul_ok m3
  clear m1 m2 m3
  have hlt : a * (B * B) ^ d + i < (B * B) ^ d * many := by
    have : (a + 1) * (B * B) ^ d ≤ many * (B * B) ^ d := Nat.mul_le_mul_right _ ha
    rw [Nat.succ_mul] at this
    rw [Nat.mul_comm ((B * B) ^ d) many]
    omega
  have c6 := is_index_ok (nT (a * (B * B) ^ d + i)) ((((B * B) ^ d : Nat) : Int) * (many : Int))
  rw [show isI ((((B * B) ^ d : Nat) : Int) * (many : Int)) (nT (a * (B * B) ^ d + i)) = true from decide_eq_true (by rw [← Int.natCast_mul]; omega)] at c6
  have q1 : (a * (B * B) ^ d + i) / (B * B) ^ d = a := by rw [Nat.add_comm, Nat.add_mul_div_right _ _ pos, Nat.div_eq_of_lt hi, Nat.zero_add]
  have q2 : (a * (B * B) ^ d + i) % (B * B) ^ d = i := by rw [Nat.add_comm, Nat.add_mul_mod_self_right, Nat.mod_eq_of_lt hi]
  have dm : gDivmodW [.int ((a * (B * B) ^ d + i : Nat) : Int), .int (((B * B) ^ d : Nat) : Int)] = some (.r (.tuple [nT a, nT i])) := by
    show (if decide (0 < (((B * B) ^ d : Nat) : Int) ∧ (((B * B) ^ d : Nat) : Int).natAbs.log2 < 9000) = true then some (Od.r (.tuple [.int (((a * (B * B) ^ d + i : Nat) : Int) / (((B * B) ^ d : Nat) : Int)), .int (((a * (B * B) ^ d + i : Nat) : Int) % (((B * B) ^ d : Nat) : Int))])) else none) = _
    rw [if_pos (decide_eq_true ⟨by omega, by omega⟩), ← Int.natCast_ediv, ← Int.natCast_emod, q1, q2]
  have gl : gLen [.tuple ((rowQ kind many).map ptT)] = some (.r (nT many)) := by
    show some (Od.r (.int ((((rowQ kind many).map ptT).length : Nat) : Int))) = _
    rw [List.length_map, rl]
  have gb : gIx (bkT B ks) (.int 0) = some (.r (.int (B : Int))) := rfl
  unfold rowC
  generalize cellF B ks kind d i = cl at *
  unfold fdQ kT at *
  generalize bkT B ks = bk0 at *
  generalize (rowQ kind many).map ptT = ts at *
  generalize a * (B * B) ^ d + i = n at *
  generalize (B * B) ^ d = C at *
  generalize (B : Int) ^ d = Z at *
  unfold m_field_cell
  (apply Wp.w_fun; (focus (rfl; done)); (focus (((try simp only [List.cons_append, List.nil_append, List.length_cons, List.length_nil, Nat.reduceAdd, Nat.reduceSub, Nat.zero_add, Nat.sub_zero, List.replicate_succ, List.replicate_zero, List.append_nil]); rfl); done)))
  unfold b_field_cell
  repeat' decreasing_trivial_pre_omega
  refine w_of c1 ?_
  clear c1
  repeat' decreasing_trivial_pre_omega
  refine w_of c2 ?_
  clear c2
  repeat' decreasing_trivial_pre_omega
  refine w_of c3 ?_
  clear c3
  repeat' decreasing_trivial_pre_omega
  refine w_of c6 ?_
  clear c6
  repeat' decreasing_trivial_pre_omega
  refine w_of c4 ?_
  clear c4
  repeat' decreasing_trivial_pre_omega
  refine w_of c5 ?_
  clear c5
  repeat' decreasing_trivial_pre_omega
  exact ⟨rfl, rfl⟩

set_option linter.all false
set_option maxRecDepth 100000
set_option maxHeartbeats 4000000
open PySem PySem.Spec Ev Pu Mt Wp
theorem pk_cT (n : Nat) (c : Int × Int) : Pk (n + 1) (cT c) := .tup (fun x hx => by
  simp only [List.mem_cons, List.not_mem_nil, or_false] at hx
  rcases hx with rfl | rfl <;> exact .int _ _) (by show 2 ≤ 100000; decide)
theorem cell_w {B : Nat} {ks : List (List Pt)} (g : Good B ks) (kl : ks.length ≤ 10) {kind many : Nat} (hk : kind < ks.length) (hm : 0 < many ∧ many ≤ 12) (d a i : Nat) (hd : d ≤ 60) (ha : a < many) (hi : i < (B * B) ^ d) (s0 s1 s2 s3 s4 s5 s6 s7 s10 s17 s18 s19 : Sl) (a17 : lentS s17 = false) (a18 : lentS s18 = false) :
    W (y2_law [s0, s1, s2, s3, s4, s5, s6, s7, .v (bkT B ks), .v (nT kind), s10, .v (nT d), .v (fdQ B ks (rowQ kind many)), .v (nT ((B * B) ^ d)), .v (.int ((B : Int) ^ d)), .v (nT a), .v (nT i), s17, s18, s19]) fun fl e => fl = .nx ∧ ∃ s17 s18, (lentS s17 = false ∧ lentS s18 = false) ∧ e = [s0, s1, s2, s3, s4, s5, s6, s7, .v (bkT B ks), .v (nT kind), s10, .v (nT d), .v (fdQ B ks (rowQ kind many)), .v (nT ((B * B) ^ d)), .v (.int ((B : Int) ^ d)), .v (nT a), .v (nT i), s17, s18, s19] := by
  have hN : 0 < B * B ∧ B * B ≤ 16 := by rcases g.hb with h | h <;> subst h <;> decide
  have ca := law_cell_at_w g hk d i hd hi
  have fc := field_cell_w g kl hk hm d a i hd ha hi
  have ra : rowC B ks kind d a i = ((a : Int) * (B : Int) ^ d + (cellF B ks kind d i).1, (cellF B ks kind d i).2) := by unfold rowC; rw [Int.zero_mul, Int.zero_add]
  rw [ra] at fc
  clear ra
  have al : (a : Int).natAbs.log2 < 10 := log2_small (by omega) (by decide)
  have pw := pw16 hN.2 d (by omega)
  have bd : ((B : Int) ^ d).natAbs.log2 < 801 := pow_small (by omega) (by rcases g.hb with h | h <;> omega) d (by omega)
  have m1 : mulOk (a : Int) (((B * B) ^ d : Nat) : Int) = true := mulOk_of 10 801 al pw (by decide)
  have m2 : mulOk (a : Int) ((B : Int) ^ d) = true := mulOk_of 10 801 al bd (by decide)
  have gm1 := gMul_ok m1
  have gm2 := gMul_ok m2
  clear m1 m2
  have ak := alike_t (pk_cT 0 ((a : Int) * (B : Int) ^ d + (cellF B ks kind d i).1, (cellF B ks kind d i).2)) (by decide)
  have e1 : nT (a * (B * B) ^ d + i) = .int ((a : Int) * (((B * B) ^ d : Nat) : Int) + (i : Int)) := congrArg PyData.int (by rw [Int.natCast_add, Int.natCast_mul])
  have cx : cT (cellF B ks kind d i) = .tuple [.int (cellF B ks kind d i).1, .int (cellF B ks kind d i).2] := rfl
  rw [cx] at ca
  clear cx
  have cy : cT ((a : Int) * (B : Int) ^ d + (cellF B ks kind d i).1, (cellF B ks kind d i).2) = .tuple [.int ((a : Int) * (B : Int) ^ d + (cellF B ks kind d i).1), .int (cellF B ks kind d i).2] := rfl
  rw [cy] at ak fc
  clear cy
  generalize (cellF B ks kind d i).1 = x at *
  generalize (cellF B ks kind d i).2 = y at *
  rw [e1] at fc
  clear e1
  generalize fdQ B ks (rowQ kind many) = fd at *
  generalize bkT B ks = bk0 at *
  generalize (B * B) ^ d = C at *
  generalize (B : Int) ^ d = Z at *
  unfold y2_law
  repeat' decreasing_trivial_pre_omega
  refine w_imp ca ?_
  rintro _ _ ⟨rfl, rfl⟩
  clear ca
  repeat' decreasing_trivial_pre_omega
  refine w_imp fc ?_
  rintro _ _ ⟨rfl, rfl⟩
  clear fc
  repeat' decreasing_trivial_pre_omega
  refine w_of ak ?_
  clear ak
  repeat' decreasing_trivial_pre_omega
  exact ⟨rfl, _, _, ⟨rfl, rfl⟩, rfl⟩
theorem cells_w {B : Nat} {ks : List (List Pt)} (g : Good B ks) (kl : ks.length ≤ 10) {kind m : Nat} (hk : kind < ks.length) (hm : m + 1 ≤ 12) (d : Nat) (hd : d ≤ 60) (s0 s1 s2 s3 s4 s5 s6 s7 s15 s16 s17 s18 s19 : Sl) (a15 : lentS s15 = false) (a16 : lentS s16 = false) (a17 : lentS s17 = false) (a18 : lentS s18 = false) :
    W (l3_law [s0, s1, s2, s3, s4, s5, s6, s7, .v (bkT B ks), .v (nT kind), .v (nT (m + 1)), .v (nT d), .v (fdQ B ks (rowQ kind (m + 1))), .v (nT ((B * B) ^ d)), .v (.int ((B : Int) ^ d)), s15, s16, s17, s18, s19]) fun fl e => fl = .nx ∧ ∃ s15 s16 s17 s18, (lentS s15 = false ∧ lentS s16 = false ∧ lentS s17 = false ∧ lentS s18 = false) ∧ e = [s0, s1, s2, s3, s4, s5, s6, s7, .v (bkT B ks), .v (nT kind), .v (nT (m + 1)), .v (nT d), .v (fdQ B ks (rowQ kind (m + 1))), .v (nT ((B * B) ^ d)), .v (.int ((B : Int) ^ d)), s15, s16, s17, s18, s19] := by
  have hN : 0 < B * B ∧ B * B ≤ 16 := by rcases g.hb with h | h <;> subst h <;> decide
  have pos : 0 < (B * B) ^ d := Nat.pow_pos hN.1
  have step := fun a i ha hi s17 s18 a17 a18 => cell_w g kl hk (many := m + 1) ⟨by omega, hm⟩ d a i hd ha hi s0 s1 s2 s3 s4 s5 s6 s7 (.v (nT (m + 1))) s17 s18 s19 a17 a18
  have gs : gSub (.int ((m + 1 : Nat) : Int)) (.int 1) = some (.r (nT m)) := by
    show some (Od.r (PyData.int (((m + 1 : Nat) : Int) - 1))) = _
    rw [show ((m + 1 : Nat) : Int) - 1 = (m : Int) by omega]
  have gc : gSub (.int (((B * B) ^ d : Nat) : Int)) (.int 1) = some (.r (nT ((B * B) ^ d - 1))) := by
    show some (Od.r (PyData.int ((((B * B) ^ d : Nat) : Int) - 1))) = _
    rw [show (((B * B) ^ d : Nat) : Int) - 1 = (((B * B) ^ d - 1 : Nat) : Int) by omega]
  generalize fdQ B ks (rowQ kind (m + 1)) = fd at *
  generalize bkT B ks = bk0 at *
  generalize (B * B) ^ d = C at *
  generalize (B : Int) ^ d = Z at *
  unfold l3_law
  repeat' decreasing_trivial_pre_omega
  refine for_on_w (fun (n : Nat) => nT n) [0, m] (fun don e => ∃ s15 s16 s17 s18, (lentS s15 = false ∧ lentS s16 = false ∧ lentS s17 = false ∧ lentS s18 = false) ∧ e = [s0, s1, s2, s3, s4, s5, s6, s7, .v bk0, .v (nT kind), .v (nT (m + 1)), .v (nT d), .v fd, .v (nT C), .v (.int Z), s15, s16, s17, s18, s19]) ⟨s15, s16, s17, s18, ⟨a15, a16, a17, a18⟩, rfl⟩ ?_ ?_
  · rintro don a rest hx e ⟨s15, s16, s17, s18, ⟨a15, a16, a17, a18⟩, rfl⟩
    have ha : a < m + 1 := by
      have : a ∈ [0, m] := by rw [hx]; simp
      simp only [List.mem_cons, List.not_mem_nil, or_false] at this
      omega
    refine ⟨_, gN_ok (by first | rfl | exact Wp.isLent_of rfl (by assumption)) rfl, ?_⟩
    unfold y3_law l2_law
    repeat' decreasing_trivial_pre_omega
    refine for_on_w (fun (n : Nat) => nT n) [0, C - 1] (fun don e => ∃ s16 s17 s18, (lentS s16 = false ∧ lentS s17 = false ∧ lentS s18 = false) ∧ e = [s0, s1, s2, s3, s4, s5, s6, s7, .v bk0, .v (nT kind), .v (nT (m + 1)), .v (nT d), .v fd, .v (nT C), .v (.int Z), .v (nT a), s16, s17, s18, s19]) ⟨s16, s17, s18, ⟨a16, a17, a18⟩, rfl⟩ ?_ ?_
    · rintro don2 i rest2 hx2 e ⟨s16, s17, s18, ⟨a16, a17, a18⟩, rfl⟩
      have hi : i < C := by
        have : i ∈ [0, C - 1] := by rw [hx2]; simp
        simp only [List.mem_cons, List.not_mem_nil, or_false] at this
        omega
      refine ⟨_, gN_ok (by first | rfl | exact Wp.isLent_of rfl (by assumption)) rfl, ?_⟩
      refine w_imp (step a i ha hi s17 s18 a17 a18) ?_
      rintro _ _ ⟨rfl, s17, s18, ⟨a17, a18⟩, rfl⟩
      exact kturn_nx ⟨_, s17, s18, ⟨rfl, a17, a18⟩, rfl⟩
    · rintro e ⟨s16, s17, s18, ⟨a16, a17, a18⟩, rfl⟩
      exact kturn_nx ⟨_, s16, s17, s18, ⟨rfl, a16, a17, a18⟩, rfl⟩
  · rintro e ⟨s15, s16, s17, s18, h, rfl⟩
    exact ⟨rfl, s15, s16, s17, s18, h, rfl⟩

set_option linter.all false
set_option maxRecDepth 100000
set_option maxHeartbeats 4000000
open PySem PySem.Spec Ev Pu Mt Wp
theorem pk_pt (n : Nat) (p : Pt) : Pk (n + 1) (ptT p) := .tup (fun x hx => by
  simp only [List.mem_cons, List.not_mem_nil, or_false] at hx
  rcases hx with rfl | rfl | rfl <;> exact .int _ _) (by show 3 ≤ 100000; decide)
theorem pk_kT (n : Nat) {ps : List Pt} (hl : ps.length ≤ 100000) : Pk (n + 2) (kT ps) := .tup (fun x hx => by
  obtain ⟨p, _, rfl⟩ := List.mem_map.mp hx
  exact pk_pt n p) (by rw [List.length_map]; exact hl)
theorem FdOk.pk {B : Nat} {ks : List (List Pt)} {qs : List Pt} (h : FdOk B ks qs) : Pk 5 (fdQ B ks qs) := by
  have kl := h.kl
  have few := h.few
  have k2 : Pk 3 (.tuple (ks.map kT)) := .tup (fun x hx => by
    obtain ⟨r, hr, rfl⟩ := List.mem_map.mp hx
    exact pk_kT 0 (by rw [h.g.len r hr]; have := B_nine h.g.hb; omega)) (by rw [List.length_map]; omega)
  have k3 : Pk 4 (bkT B ks) := .tup (fun x hx => by
    simp only [List.mem_cons, List.not_mem_nil, or_false] at hx
    rcases hx with rfl | rfl
    · exact .int _ _
    · exact k2) (by show 2 ≤ 100000; decide)
  refine .tup (fun x hx => ?_) (by show 2 ≤ 100000; decide)
  simp only [List.mem_cons, List.not_mem_nil, or_false] at hx
  rcases hx with rfl | rfl
  · exact k3
  · exact pk_kT 2 (by omega)
theorem row_lx (kind many : Nat) (hm : many ≤ 12) (s0 s1 s2 s3 s4 s5 s6 s7 s8 s11 s12 s13 s14 s15 s16 s17 s18 s19 : Sl) (a19 : lentS s19 = false) : W (x1_law [s0, s1, s2, s3, s4, s5, s6, s7, s8, .v (nT kind), .v (nT many), s11, s12, s13, s14, s15, s16, s17, s18, s19]) fun r e => r = .b (.l ((rowQ kind many).map ptT)) ∧ e = [s0, s1, s2, s3, s4, s5, s6, s7, s8, .v (nT kind), .v (nT many), s11, s12, s13, s14, s15, s16, s17, s18, s19] := by
  unfold x1_law
  repeat' decreasing_trivial_pre_omega
  refine kr1 (n := many) rfl (by omega) ?_
  unfold below
  refine comp_map_w (fun (k : Nat) => PyData.int (k : Int)) (fun (x : Nat) => PyData.tuple [nT x, .int 0, nT kind]) (List.range many) (by rw [List.length_range]; unfold sizeLine; omega) (fun x _ => ⟨_, rfl, ?_⟩) ?_
  · repeat' decreasing_trivial_pre_omega
    exact ⟨rfl, rfl⟩
  · rw [row_t]
    exact ⟨rfl, rfl⟩
structure Ns (s3 s4 s5 s6 s7 s8 s9 s10 s11 s12 s13 s14 s15 s16 s17 s18 s19 : Sl) : Prop where
  a3 : lentS s3 = false
  a4 : lentS s4 = false
  a5 : lentS s5 = false
  a6 : lentS s6 = false
  a7 : lentS s7 = false
  a8 : lentS s8 = false
  a9 : lentS s9 = false
  a10 : lentS s10 = false
  a11 : lentS s11 = false
  a12 : lentS s12 = false
  a13 : lentS s13 = false
  a14 : lentS s14 = false
  a15 : lentS s15 = false
  a16 : lentS s16 = false
  a17 : lentS s17 = false
  a18 : lentS s18 = false
  a19 : lentS s19 = false
def SpQ (s0 s1 : Sl) : Fl → En → Prop := fun fl e => fl = .nx ∧ ∃ (D : Dk) (s3 s4 s5 s6 s7 s8 s9 s10 s11 s12 s13 s14 s15 s16 s17 s18 s19 : Sl), Ns s3 s4 s5 s6 s7 s8 s9 s10 s11 s12 s13 s14 s15 s16 s17 s18 s19 ∧ e = [s0, s1, .ow false (.l (dkT D)), s3, s4, s5, s6, s7, s8, s9, s10, s11, s12, s13, s14, s15, s16, s17, s18, s19]
theorem third_w (D : Dk) {B : Nat} {ks : List (List Pt)} (g : Good B ks) (kl : ks.length ≤ 10) {kind v : Nat} (hk : kind < ks.length) (hv : v < 12) (d : Nat) (hd : d < 61) (s0 s1 s3 s4 s5 s6 s7 s13 s14 s15 s16 s17 s18 s19 : Sl) (N : Ns s3 s4 s5 s6 s7 .un .un .un .un .un s13 s14 s15 s16 s17 s18 s19) :
    W ((sSeq (sPar [13, 14] (aCons (eCall 2 m__law_power (aCons (eOp2 gMul (eOp2 gIx (eVar 8) (eK (.int 0))) (eOp2 gIx (eVar 8) (eK (.int 0)))) (aCons (eVar 11) aNil))) (aCons (eCall 2 m__law_power (aCons (eOp2 gIx (eVar 8) (eK (.int 0))) (aCons (eVar 11) aNil))) aNil))) l3_law) [s0, s1, .ow false (.l (dkT D)), s3, s4, s5, s6, s7, .v (bkT B ks), .v (nT kind), .v (nT (v + 1)), .v (nT d), .v (fdQ B ks (rowQ kind (v + 1))), s13, s14, s15, s16, s17, s18, s19]) (SpQ s0 s1) := by
  obtain ⟨a3, a4, a5, a6, a7, a8, a9, a10, a11, a12, a13, a14, a15, a16, a17, a18, a19⟩ := N
  have cw := cells_w g kl hk (m := v) (by omega) d (by omega)
  have lp := lpow_ok g.hb d (by omega)
  have lq := lpower_ok (B : Int) d (by omega) (by rcases g.hb with h | h <;> omega) (by omega)
  have hb := b_small g.hb
  have gm := gMul_ok (mulOk_of 10 10 hb hb (by decide))
  have gb : gIx (bkT B ks) (.int 0) = some (.r (.int (B : Int))) := rfl
  clear hb
  generalize fdQ B ks (rowQ kind (v + 1)) = f5 at *
  generalize bkT B ks = bk0 at *
  generalize (B * B) ^ d = C at *
  generalize (B : Int) ^ d = Z at *
  generalize nT (v + 1) = tv at *
  generalize l3_law = l3 at *
  repeat' decreasing_trivial_pre_omega
  refine w_of lp ?_
  clear lp
  repeat' decreasing_trivial_pre_omega
  refine w_of lq ?_
  clear lq
  repeat' decreasing_trivial_pre_omega
  refine w_imp (cw _ _ _ _ _ _ _ _ s15 s16 s17 s18 s19 a15 a16 a17 a18) ?_
  rintro _ _ ⟨rfl, s15, s16, s17, s18, ⟨a15, a16, a17, a18⟩, rfl⟩
  exact ⟨rfl, D, _, _, _, _, _, _, _, _, _, _, _, _, _, _, _, _, _, ⟨a3, a4, a5, a6, a7, rfl, rfl, rfl, rfl, rfl, rfl, rfl, a15, a16, a17, a18, a19⟩, rfl⟩
theorem second_w (D : Dk) (hc : D.c + 10000 ≤ 10 ^ 9) (s0 s1 s3 s4 s5 s6 s7 s8 s9 s10 s11 s12 s13 s14 s15 s16 s17 s18 s19 : Sl) (N : Ns s3 s4 s5 s6 s7 s8 s9 s10 s11 s12 s13 s14 s15 s16 s17 s18 s19) :
    W ((sSeq (sSet 3 (eCall 3 m__law_field (aCons (eVar 2) (aCons (eK (.int 12)) (aCons (eK (.int 8)) aNil))))) (sSeq (sIf (tb (eOp2 (gIsB not) (eCall 1 m_is_field (aCons (eVar 3) aNil)) (eK (.bool true)))) (sRet (eK (.bool false))) sNil) (sSeq (sPar [8, 9, 10] (aCons (eOp2 gIx (eVar 3) (eK (.int 0))) (aCons (eOp2 gIx (eOp2 gIx (eOp2 gIx (eVar 3) (eK (.int 1))) (eK (.int 0))) (eK (.int 2))) (aCons (eOp2 gAdd (eK (.int 1)) (eCall 2 m__law_pick (aCons (eVar 2) (aCons (eK (.int 12)) aNil)))) aNil)))) (sSeq (sPar [6, 11] (aCons (eTup (aCons (eVar 8) (aCons (eFn gTuple (aCons x1_law aNil)) aNil))) (aCons (eCall 2 m__law_pick (aCons (eVar 2) (aCons (eK (.int 61)) aNil))) aNil))) (sSeq (sSet 12 (eCall 3 m_row_field (aCons (eVar 8) (aCons (eVar 9) (aCons (eVar 10) aNil))))) (sSeq (sIf (tOr (tNot (tb (eCall 2 (m__law_alike 8) (aCons (eLst (aCons (eVar 12) (aCons (eCallK 3 [2, 1, 0] m_row_field (aCons (eVar 10) (aCons (eVar 9) (aCons (eVar 8) aNil)))) aNil))) (aCons (eLst (aCons (eVar 6) (aCons (eVar 6) aNil))) aNil))))) (tb (eOp2 (gIsB not) (eCall 1 m_is_field (aCons (eVar 12) aNil)) (eK (.bool true))))) (sRet (eK (.bool false))) sNil) (sSeq (sPar [13, 14] (aCons (eCall 2 m__law_power (aCons (eOp2 gMul (eOp2 gIx (eVar 8) (eK (.int 0))) (eOp2 gIx (eVar 8) (eK (.int 0)))) (aCons (eVar 11) aNil))) (aCons (eCall 2 m__law_power (aCons (eOp2 gIx (eVar 8) (eK (.int 0))) (aCons (eVar 11) aNil))) aNil))) l3_law))))))) [s0, s1, .ow false (.l (dkT D)), s3, s4, s5, s6, s7, s8, s9, s10, s11, s12, s13, s14, s15, s16, s17, s18, s19]) (SpQ s0 s1) := by
  obtain ⟨a3, a4, a5, a6, a7, a8, a9, a10, a11, a12, a13, a14, a15, a16, a17, a18, a19⟩ := N
  repeat' decreasing_trivial_pre_omega
  refine w_imp (field_w D 12 8 (by decide) (by decide) (by omega)) ?_
  rintro _ _ ⟨D1, B, ks, qs, hc1, fd, rfl, rfl⟩
  have g0 : gIx (fdQ B ks qs) (.int 0) = some (.r (bkT B ks)) := rfl
  have g1 : gIx (fdQ B ks qs) (.int 1) = some (.r (kT qs)) := rfl
  obtain ⟨q0, qs1, hq⟩ : ∃ q0 qs1, qs = q0 :: qs1 := by
    have := fd.pos
    cases qs with
    | nil => simp at this
    | cons a b => exact ⟨a, b, rfl⟩
  have g2 : gIx (kT qs) (.int 0) = some (.r (ptT q0)) := by rw [hq]; exact gIx_t (k := 0) rfl
  have g3 : gIx (ptT q0) (.int 2) = some (.r (nT q0.2.2)) := rfl
  have hk : q0.2.2 < ks.length := (fd.rng q0 (by rw [hq]; simp)).2.2
  generalize q0.2.2 = kind at *
  have f1 := fd_is fd
  have g := fd.g
  have kl := fd.kl
  generalize fdQ B ks qs = f0 at *
  generalize kT qs = f2 at *
  generalize ptT q0 = f3 at *
  repeat' decreasing_trivial_pre_omega
  refine w_of f1 ?_
  clear f1
  repeat' decreasing_trivial_pre_omega
  refine w_imp (pick_w D1 12 (by decide) (by decide) (by omega)) ?_
  rintro _ _ ⟨v, D2, hv, hc2, rfl, rfl⟩
  have ga : gAdd (.int 1) (.int (v : Int)) = some (.r (nT (v + 1))) := by
    show some (Od.r (PyData.int (1 + (v : Int)))) = _
    rw [show (1 : Int) + (v : Int) = ((v + 1 : Nat) : Int) by omega]
  clear g0 g1 g2 g3
  repeat' decreasing_trivial_pre_omega
  have rx := row_lx kind (v + 1) (by omega)
  refine w_imp (rx _ _ _ _ _ _ _ _ _ _ _ _ _ _ _ _ _ s19 a19) ?_
  rintro _ _ ⟨rfl, rfl⟩
  clear rx
  repeat' decreasing_trivial_pre_omega
  refine w_imp (pick_w D2 61 (by decide) (by decide) (by omega)) ?_
  rintro _ _ ⟨d, D3, hd, hc3, rfl, rfl⟩
  repeat' decreasing_trivial_pre_omega
  have fr := row_ok g kl hk (many := v + 1) ⟨by omega, by omega⟩
  have rf := row_field_ok g hk (many := v + 1) ⟨by omega, by omega⟩
  have fdd : PyData.tuple [bkT B ks, .tuple ((rowQ kind (v + 1)).map ptT)] = fdQ B ks (rowQ kind (v + 1)) := rfl
  have f2 := fd_is fr
  have al := alike_l 5 [fdQ B ks (rowQ kind (v + 1)), fdQ B ks (rowQ kind (v + 1))] (fun x hx => by
    have : x = fdQ B ks (rowQ kind (v + 1)) := by simpa using hx
    rw [this]; exact fr.pk) (by show 2 ≤ 100000; decide) (by decide)
  have th := fun s3 s4 s5 s6 s7 s13 s14 s15 s16 s17 s18 s19 N => third_w D3 g kl hk hv d hd s0 s1 s3 s4 s5 s6 s7 s13 s14 s15 s16 s17 s18 s19 N
  rw [fdd]
  generalize fdQ B ks (rowQ kind (v + 1)) = f5 at *
  generalize bkT B ks = bk0 at *
  generalize nT (v + 1) = tv at *
  generalize (sSeq (sPar [13, 14] (aCons (eCall 2 m__law_power (aCons (eOp2 gMul (eOp2 gIx (eVar 8) (eK (.int 0))) (eOp2 gIx (eVar 8) (eK (.int 0)))) (aCons (eVar 11) aNil))) (aCons (eCall 2 m__law_power (aCons (eOp2 gIx (eVar 8) (eK (.int 0))) (aCons (eVar 11) aNil))) aNil))) l3_law) = tl at *
  clear fdd ga hc hc1 hc2 hc3
  refine w_of rf ?_
  have thh := th (.v f0) s4 s5 (.v f5) s7 s13 s14 s15 s16 s17 s18 s19 ⟨rfl, a4, a5, rfl, a7, rfl, rfl, rfl, rfl, rfl, a13, a14, a15, a16, a17, a18, a19⟩
  clear th
  repeat' decreasing_trivial_pre_omega
  refine w_of rf ?_
  repeat' decreasing_trivial_pre_omega
  refine w_of al ?_
  clear al rf
  repeat' decreasing_trivial_pre_omega
  refine w_of f2 ?_
  clear f2
  repeat' decreasing_trivial_pre_omega
  exact thh

set_option linter.all false
set_option maxRecDepth 100000
set_option maxHeartbeats 4000000
open PySem PySem.Spec Ev Pu Mt Wp
theorem turns_w (D : Dk) (fd : T) (h : Nr 5 12 fd) (hs : sz fd ≤ 4000) (hc : D.c + 10000 ≤ 10 ^ 9) (s0 s1 s4 s5 s6 s7 s8 s9 s10 s11 s12 s13 s14 s15 s16 s17 s18 s19 : Sl) (a4 : lentS s4 = false) (a5 : lentS s5 = false) (a6 : lentS s6 = false) (a7 : lentS s7 = false) :
    W (l1_law [s0, s1, .ow false (.l (dkT D)), .v fd, s4, s5, s6, s7, s8, s9, s10, s11, s12, s13, s14, s15, s16, s17, s18, s19]) fun fl e => fl = .nx ∧ ∃ (D' : Dk) (s4 s5 s6 s7 : Sl), D'.c ≤ D.c + 1200 ∧ (lentS s4 = false ∧ lentS s5 = false ∧ lentS s6 = false ∧ lentS s7 = false) ∧ e = [s0, s1, .ow false (.l (dkT D')), .v fd, s4, s5, s6, s7, s8, s9, s10, s11, s12, s13, s14, s15, s16, s17, s18, s19] := by
  unfold l1_law
  repeat' decreasing_trivial_pre_omega
  refine kr1 (n := 12) rfl (by omega) (for_below (fun k e => ∃ (D' : Dk) (s4 s5 s6 s7 : Sl), D'.c ≤ D.c + k * 100 ∧ (lentS s4 = false ∧ lentS s5 = false ∧ lentS s6 = false ∧ lentS s7 = false) ∧ e = [s0, s1, .ow false (.l (dkT D')), .v fd, s4, s5, s6, s7, s8, s9, s10, s11, s12, s13, s14, s15, s16, s17, s18, s19]) ⟨D, s4, s5, s6, s7, by omega, ⟨a4, a5, a6, a7⟩, rfl⟩ ?_ ?_)
  · rintro k hk e ⟨D', s4, s5, s6, s7, h1, ⟨a4, a5, a6, a7⟩, rfl⟩
    refine ⟨_, gN_ok (by first | rfl | exact Wp.isLent_of rfl (by assumption)) rfl, ?_⟩
    refine w_imp (turn_w D' fd h hs k hk (by omega) s0 s1 s5 s6 s7 s8 s9 s10 s11 s12 s13 s14 s15 s16 s17 s18 s19 a5 a6 a7) ?_
    rintro _ _ ⟨rfl, D2, s5, s6, s7, h2, ⟨a5, a6, a7⟩, rfl⟩
    exact kturn_nx ⟨D2, _, s5, s6, s7, by omega, ⟨rfl, a5, a6, a7⟩, rfl⟩
  · rintro e ⟨D', s4, s5, s6, s7, h1, h2, rfl⟩
    exact ⟨rfl, D', s4, s5, s6, s7, by omega, h2, rfl⟩
theorem spot_w (ns : List Int) (hb : ∀ k ∈ ns, Builtin.Int.intBits k ≤ 1048576) (hns : ns.length ≤ 63) (p : Nat) (hp : p < 1000) (s2 s3 s4 s5 s6 s7 s8 s9 s10 s11 s12 s13 s14 s15 s16 s17 s18 s19 : Sl) (a2 : lentS s2 = false) (N : Ns s3 s4 s5 s6 s7 s8 s9 s10 s11 s12 s13 s14 s15 s16 s17 s18 s19) :
    W (y4_law [.v (scT ns), .v (nT p), s2, s3, s4, s5, s6, s7, s8, s9, s10, s11, s12, s13, s14, s15, s16, s17, s18, s19]) (SpQ (.v (scT ns)) (.v (nT p))) := by
  obtain ⟨a3, a4, a5, a6, a7, a8, a9, a10, a11, a12, a13, a14, a15, a16, a17, a18, a19⟩ := N
  have sw := second_w
  unfold y4_law
  generalize (sSeq (sSet 3 (eCall 3 m__law_field (aCons (eVar 2) (aCons (eK (.int 12)) (aCons (eK (.int 8)) aNil))))) (sSeq (sIf (tb (eOp2 (gIsB not) (eCall 1 m_is_field (aCons (eVar 3) aNil)) (eK (.bool true)))) (sRet (eK (.bool false))) sNil) (sSeq (sPar [8, 9, 10] (aCons (eOp2 gIx (eVar 3) (eK (.int 0))) (aCons (eOp2 gIx (eOp2 gIx (eOp2 gIx (eVar 3) (eK (.int 1))) (eK (.int 0))) (eK (.int 2))) (aCons (eOp2 gAdd (eK (.int 1)) (eCall 2 m__law_pick (aCons (eVar 2) (aCons (eK (.int 12)) aNil)))) aNil)))) (sSeq (sPar [6, 11] (aCons (eTup (aCons (eVar 8) (aCons (eFn gTuple (aCons x1_law aNil)) aNil))) (aCons (eCall 2 m__law_pick (aCons (eVar 2) (aCons (eK (.int 61)) aNil))) aNil))) (sSeq (sSet 12 (eCall 3 m_row_field (aCons (eVar 8) (aCons (eVar 9) (aCons (eVar 10) aNil))))) (sSeq (sIf (tOr (tNot (tb (eCall 2 (m__law_alike 8) (aCons (eLst (aCons (eVar 12) (aCons (eCallK 3 [2, 1, 0] m_row_field (aCons (eVar 10) (aCons (eVar 9) (aCons (eVar 8) aNil)))) aNil))) (aCons (eLst (aCons (eVar 6) (aCons (eVar 6) aNil))) aNil))))) (tb (eOp2 (gIsB not) (eCall 1 m_is_field (aCons (eVar 12) aNil)) (eK (.bool true))))) (sRet (eK (.bool false))) sNil) (sSeq (sPar [13, 14] (aCons (eCall 2 m__law_power (aCons (eOp2 gMul (eOp2 gIx (eVar 8) (eK (.int 0))) (eOp2 gIx (eVar 8) (eK (.int 0)))) (aCons (eVar 11) aNil))) (aCons (eCall 2 m__law_power (aCons (eOp2 gIx (eVar 8) (eK (.int 0))) (aCons (eVar 11) aNil))) aNil))) l3_law))))))) = tl at *
  generalize hl1 : l1_law = l1 at *
  repeat' decreasing_trivial_pre_omega
  refine w_imp (stock_w ns hb hns p hp) ?_
  rintro _ _ ⟨D, hD, rfl, rfl⟩
  repeat' decreasing_trivial_pre_omega
  refine w_imp (field_w D 10 6 (by decide) (by decide) (by omega)) ?_
  rintro _ _ ⟨D1, B, ks, qs, hc1, fd, rfl, rfl⟩
  have f1 := fd_is fd
  have nr := fd.nr
  have sz1 := fd.size
  generalize fdQ B ks qs = f0 at *
  repeat' decreasing_trivial_pre_omega
  refine w_of f1 ?_
  repeat' decreasing_trivial_pre_omega
  refine w_of f1 ?_
  clear f1
  repeat' decreasing_trivial_pre_omega
  subst hl1
  rw [show wb (pick [0] [Od.r f0]) [Sl.v f0] [Sl.v (scT ns), Sl.v (nT p), Sl.ow false (Bx.l (dkT D1)), Sl.v f0, s4, s5, s6, s7, s8, s9, s10, s11, s12, s13, s14, s15, s16, s17, s18, s19] = [Sl.v (scT ns), Sl.v (nT p), Sl.ow false (Bx.l (dkT D1)), Sl.v f0, s4, s5, s6, s7, s8, s9, s10, s11, s12, s13, s14, s15, s16, s17, s18, s19] from rfl]
  refine w_imp (turns_w D1 f0 nr sz1 (by omega) _ _ s4 s5 s6 s7 _ _ _ _ _ _ _ _ _ _ _ _ a4 a5 a6 a7) ?_
  rintro _ _ ⟨rfl, D2, s4, s5, s6, s7, hc2, ⟨a4, a5, a6, a7⟩, rfl⟩
  refine kseq_nx ?_
  exact sw D2 (by omega) _ _ _ _ _ _ _ _ _ _ _ _ _ _ _ _ _ _ _ ⟨rfl, a4, a5, a6, a7, a8, a9, a10, a11, a12, a13, a14, a15, a16, a17, a18, a19⟩
theorem law_n (m : Nat) : ∃ n : Nat, n ≤ 5 ∧ (if (if (m : Int) < 5 then (m : Int) else 5) > 1 then (if (m : Int) < 5 then (m : Int) else 5) else 1) = (n : Int) := by
  by_cases h : (m : Int) < 5
  · rw [if_pos h]
    by_cases h2 : (m : Int) > 1
    · rw [if_pos h2]; exact ⟨m, by omega, rfl⟩
    · rw [if_neg h2]; exact ⟨1, by omega, rfl⟩
  · rw [if_neg h, if_pos (by decide)]
    exact ⟨5, by omega, rfl⟩
theorem pure_law : ∀ ns : List Int, ns.length ≤ 63 → (∀ k ∈ ns, Builtin.Int.intBits k ≤ 1048576) → ∃ e', m_law [.v (.list (ns.map PyData.int))] = .ok (.r (.bool true)) e' := by
  intro ns hns hb
  suffices h : W (m_law [.v (scT ns)]) fun r e => r = .r (.bool true) by
    obtain ⟨r, e, h, rfl⟩ := h
    exact ⟨e, h⟩
  obtain ⟨n, hn6, hn⟩ := law_n (ns.map PyData.int).length
  unfold m_law
  (apply Wp.w_fun; (focus (rfl; done)); (focus (((try simp only [List.cons_append, List.nil_append, List.length_cons, List.length_nil, Nat.reduceAdd, Nat.reduceSub, Nat.zero_add, Nat.sub_zero, List.replicate_succ, List.replicate_zero, List.append_nil]); rfl); done)))
  unfold b_law l4_law
  repeat' decreasing_trivial_pre_omega
  refine kr1_eq n rfl hn (by omega) (for_below (fun p e => ∃ (s2 s3 s4 s5 s6 s7 s8 s9 s10 s11 s12 s13 s14 s15 s16 s17 s18 s19 : Sl), lentS s2 = false ∧ Ns s3 s4 s5 s6 s7 s8 s9 s10 s11 s12 s13 s14 s15 s16 s17 s18 s19 ∧ ∃ s1, lentS s1 = false ∧ e = [.v (scT ns), s1, s2, s3, s4, s5, s6, s7, s8, s9, s10, s11, s12, s13, s14, s15, s16, s17, s18, s19]) ⟨.un, .un, .un, .un, .un, .un, .un, .un, .un, .un, .un, .un, .un, .un, .un, .un, .un, .un, rfl, ⟨rfl, rfl, rfl, rfl, rfl, rfl, rfl, rfl, rfl, rfl, rfl, rfl, rfl, rfl, rfl, rfl, rfl⟩, .un, rfl, rfl⟩ ?_ ?_)
  · rintro p hp e ⟨s2, s3, s4, s5, s6, s7, s8, s9, s10, s11, s12, s13, s14, s15, s16, s17, s18, s19, a2, N, s1, a1, rfl⟩
    refine ⟨_, gN_ok (by first | rfl | exact Wp.isLent_of rfl (by assumption)) rfl, ?_⟩
    refine w_imp (spot_w ns hb hns p (by omega) s2 s3 s4 s5 s6 s7 s8 s9 s10 s11 s12 s13 s14 s15 s16 s17 s18 s19 a2 N) ?_
    rintro _ _ ⟨rfl, D, s3, s4, s5, s6, s7, s8, s9, s10, s11, s12, s13, s14, s15, s16, s17, s18, s19, N, rfl⟩
    exact kturn_nx ⟨_, s3, s4, s5, s6, s7, s8, s9, s10, s11, s12, s13, s14, s15, s16, s17, s18, s19, rfl, N, _, rfl, rfl⟩
  · rintro e ⟨s2, s3, s4, s5, s6, s7, s8, s9, s10, s11, s12, s13, s14, s15, s16, s17, s18, s19, a2, N, s1, a1, rfl⟩
    repeat' decreasing_trivial_pre_omega
    rfl

end Lw
set_option maxHeartbeats 4000000
namespace Lw
open PySem PySem.Spec PyProof.Rows L2 Ev Lz
theorem facts {P : Program} {w : World} {K : PySem.W.Frag} {h : Heap} {mg : Str → Option Value} {f : Addr} (X : K.In h) (G : h.Ns mainGlobals mg) (hfa : mg ("law" : Str) = some (.ref f)) (c : He.SaysD fa fn K) :
    ∃ fd : FuncData, (∀ (s : Shared) (v : Value), BindsTo s fd ⟨[v], []⟩ [("script", v)]) ∧ ∀ base : Heap, K.In base → base.Ns mainGlobals mg → FnG P w K mg base CXE 11 f fd ["script"] (spF K 1 m_law) := by
  have e := hfa.symm.trans (He.glo_ok X G (c.fact 37 (f := .glo "law") rfl))
  cases e
  obtain ⟨fd, F⟩ := c.def_ 37 (d := d_law) rfl
  have F : FunD K "law" "law" (defArgs s_law) (defBody s_law) (defScope s_law) [] [] (He.ga K "law") fd := F
  have b := FunD.bindsA (ps := ["script"]) F fun _ _ _ _ _ _ us hl => match us, hl with | [_], _ => rfl
  refine ⟨fd, fun s v => b s [v] rfl, fun base _ _ => ?_⟩
  obtain ⟨fd', F', O⟩ := ok_law (P := P) (w := w) (base := base) X G c
  have ee : fd = fd' := by
    obtain ⟨_, _, _, _, _, _, _, _, _, _, e1, l1, _⟩ := F.ex
    obtain ⟨_, _, _, _, _, _, _, _, _, _, e2, l2, _⟩ := F'.ex
    rw [l1] at l2
    cases l2
    rfl
  rw [ee]
  exact fnG_cx O
end Lw
open PySem PySem.W PySem.Calls PyProof.Rows
theorem PySem.Challenge.cw_squarethreads_k32_whole_fields_judged_holds : PySem.Challenge.rw_squarethreads_k32_whole_fields_judged.Holds := by
  w_on; o_law
  refine HandSHeadRun.head_any (r := OpenLaw.row PySem.Challenge.rw_squarethreads_k32_whole_fields_judged) (q := view (OpenLaw.row PySem.Challenge.rw_squarethreads_k32_whole_fields_judged).prog [49]) (H := Lz.hk) (ob := Lz.ob) (M := 4000) (loose := Lz.loose) (d := HandSHeadRun.topDef (OpenLaw.row PySem.Challenge.rw_squarethreads_k32_whole_fields_judged).prog 49) (kwd := []) Lz.ob_eq
    (by kernel_rfl) (fun s => by kernel_rfl) Lz.run (by kernel_rfl) (by kernel_rfl) (by kernel_rfl) (by rfl) (by first | assumption | decide +kernel) (by decide +kernel) ⟨rfl, rfl, rfl, rfl, rfl, by decide +kernel⟩ ?hw ?hc
  case hw => w_witness2
  case hc =>
    refine Ev.walk_ofG (l := PySem.Challenge.rw_squarethreads_k32_whole_fields_judged) (n := 63) (k := 11) (x := "script") (CX := Ev.CXE) rfl (by decide) (by kernel_rfl) ⟨rfl, by decide, by decide⟩ ?F Ev.law_CXE
    intro w mg fa h Y G hmg0
    obtain ⟨K, KX, c⟩ := Y
    have hmg : mg ("law" : PySem.Str) = some (.ref fa) := by
      have e : (HandSHeadRun.topDef (OpenLaw.row PySem.Challenge.rw_squarethreads_k32_whole_fields_judged).prog 49).name = ("law" : PySem.Str) := by kernel_rfl
      rw [← e]
      exact hmg0
    obtain ⟨fd, hb, hF⟩ := Lw.facts (P := (PySem.Challenge.rw_squarethreads_k32_whole_fields_judged).prog) (w := w) KX G hmg c
    exact ⟨K, fd, _, KX, hb, fun H a ns hl hbits _ hS => Ev.law_sp hS (Lw.pure_law ns hl hbits), hF⟩


