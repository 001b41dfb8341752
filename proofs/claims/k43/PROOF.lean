import PyProof.Rows.All
import Wide.All
import OpenK.AllK
import Wide.FinOn
import KE.KStateDown
import HandS.Head0
import HandS.Head1
import HandS.Head2
import HandS.HeadEnd
import HandS.HeadHook1
import HandS.HeadHook2
import HandS.HeadHook4
import HandS.Words
import HandS.Base
import HandS.Call
import HandS.HeadHook3
import HandS.ExcInit
import HandS.ExcField
import HandS.List
import HandS.Comp
import HandS.Iter
import HandS.IsInst
import HandS.Wide
import HandS.More
import HandS.ExcOwn
import KE.KeyNested
import HandS.TupAny
import HandS.Deep
import HandS.TupMul
import HandS.Style
import HandS.Zip
import HandS.Walk
import HandS.WordsExc
import HandS.Defaults
import HandS.ExcCtx
import HandS.TupSets
import PyProof.LongRange
import PyProof.RangeFor
import HandS.Dict
import HandS.TupLen
import KE.KDictDisplayH
import KE.SortData
import HandS.DictTup
import KE.KDictZip
import HandS.DictComp
import PyProof.DictMoreH
import HandS.SetKeys
import PyProof.ListRange
import HandS.Sort
import HandS.WordsDict
import HandS.Small
import PyProof.Rows.RuleB_pow
import HandS.Text
import HandS.FStr
import HandS.EndBits
import PyProof.AutoSeq1
import HandS.Steps
import HandS.StrMore
import HandS.Hot
import HandS.HotCalls
import HandS.ExcInitHot
import PyProof.StrOps2
import HandS.Replace
import HandS.ReplaceLit
import KE.DatumOrd
import PyProof.ReprRoads
import HandS.WideBits
import PySem.Challenge.RW_squarethreads_k43_refusals_of_drawings
set_option Elab.async false
set_option linter.all false
set_option maxRecDepth 100000
set_option Elab.async false
set_option linter.all false
set_option maxRecDepth 100000
namespace Ev
open PySem PySem.Spec PyProof.Rows L2
/-- whether an exception of the class c is one of the class h -/
def subE (c h : Str) : Bool := c == h || h == ("ThreadError" : Str)
abbrev iniP : Str × Option Str := ("ThreadError", some "__init__")
def oexB (K : PySem.W.Frag) (C : Addr) : Bool := match K.lookup C with
  | some ⟨.type t, _, .cls cd, sl⟩ => (match cd.mro, sl.toList with
    | .ref C' :: bm, [_, _, _, _, some (.builtin n), _] => decide (t = "type") && (decide (C' = C) && (decide (n = "ValueError.__new__") && (!cd.hasDel && (cd.hasDict && PySem.HandSPX.refsVE bm))))
    | _, _ => false)
  | _ => false
def exB1 (K : PySem.W.Frag) (cs : List Str) (c : Str) : Bool :=
  oexB K (He.ga K c) && (He.eqO (PySem.W.findIn K (.ref (He.ga K c)) "__setattr__") (some (some (.builtin "object.__setattr__"))) && (decide (PySem.W.subIn K (.ref (He.ga K c)) (.type "BaseException") = some true) &&
  (decide (PySem.W.typeIn K (.ref (He.ga K c)) = some (.type "type")) && (PySem.W.keepIn K (.ref (He.ga K c)) && (xfB K (He.ga K c) && (He.eqO (PySem.W.findIn K (.ref (He.ga K c)) "value") (some none) &&
  (He.eqO (PySem.W.findIn K (.ref (He.ga K c)) "__init__") (some (some (.ref (He.fAd K iniP)))) && ((He.Fa.glo c).ok K && cs.all fun h => decide (PySem.W.exmOne K (.ref (He.ga K c)) (.ref (He.ga K h)) = some (subE c h))))))))))
def exB (cs : List Str) (K : PySem.W.Frag) : Bool := decide (PySem.W.typeIn K (.ref (He.fAd K iniP)) = some (.type "function")) && cs.all fun c => exB1 K cs c
end Ev

set_option maxHeartbeats 4000000
namespace Lz
open PySem PySem.Spec PyProof.Rows L2
def top (i : Nat) : Stmt := PySem.Challenge.pw_squarethreads_k43_refusals_of_drawings.main.body.getD i (.Pass ⟨0, 0, 0, 0⟩)
abbrev s_is_whole : Stmt := top 1
abbrev s_is_count : Stmt := top 2
abbrev s_is_index : Stmt := top 3
abbrev s_power : Stmt := top 4
abbrev s_digits_of : Stmt := top 5
abbrev s_is_book : Stmt := top 11
abbrev s__is_kind : Stmt := top 12
abbrev s__is_part : Stmt := top 13
abbrev s_places_of : Stmt := top 14
abbrev s_check_book : Stmt := top 15
abbrev s_check_depth : Stmt := top 17
abbrev s_how_many_cells : Stmt := top 18
abbrev s_cell_in_kind : Stmt := top 19
abbrev s_whole : Stmt := top 20
abbrev s_is_near : Stmt := top 22
abbrev s_drawn : Stmt := top 24
abbrev s__step_sign : Stmt := top 25
abbrev s_numbers_drawn : Stmt := top 26
abbrev s__law_well : Stmt := top 28
abbrev s__law_draw : Stmt := top 29
abbrev s__law_same : Stmt := top 30
abbrev s__law_order : Stmt := top 31
abbrev s__law_kind : Stmt := top 32
abbrev s__law_book : Stmt := top 33
abbrev s__law_power : Stmt := top 34
abbrev s__law_bad_part : Stmt := top 35
abbrev s__law_bad_book : Stmt := top 36
abbrev s__law_told : Stmt := top 37
abbrev s__law_alike : Stmt := top 38
abbrev s_law : Stmt := top 39
def d_is_whole : He.DefD := ⟨("is_whole", none), "is_whole", "is_whole", defArgs s_is_whole, defBody s_is_whole, defScope s_is_whole, [], []⟩
def d_is_count : He.DefD := ⟨("is_count", none), "is_count", "is_count", defArgs s_is_count, defBody s_is_count, defScope s_is_count, [], []⟩
def d_is_index : He.DefD := ⟨("is_index", none), "is_index", "is_index", defArgs s_is_index, defBody s_is_index, defScope s_is_index, [], []⟩
def d_power : He.DefD := ⟨("power", none), "power", "power", defArgs s_power, defBody s_power, defScope s_power, [], []⟩
def d_digits_of : He.DefD := ⟨("digits_of", none), "digits_of", "digits_of", defArgs s_digits_of, defBody s_digits_of, defScope s_digits_of, [], []⟩
def d_is_book : He.DefD := ⟨("is_book", none), "is_book", "is_book", defArgs s_is_book, defBody s_is_book, defScope s_is_book, [], []⟩
def d__is_kind : He.DefD := ⟨("_is_kind", none), "_is_kind", "_is_kind", defArgs s__is_kind, defBody s__is_kind, defScope s__is_kind, [], []⟩
def d__is_part : He.DefD := ⟨("_is_part", none), "_is_part", "_is_part", defArgs s__is_part, defBody s__is_part, defScope s__is_part, [], []⟩
def d_places_of : He.DefD := ⟨("places_of", none), "places_of", "places_of", defArgs s_places_of, defBody s_places_of, defScope s_places_of, [], []⟩
def d_check_book : He.DefD := ⟨("check_book", none), "check_book", "check_book", defArgs s_check_book, defBody s_check_book, defScope s_check_book, [], []⟩
def d_check_depth : He.DefD := ⟨("check_depth", none), "check_depth", "check_depth", defArgs s_check_depth, defBody s_check_depth, defScope s_check_depth, [], []⟩
def d_how_many_cells : He.DefD := ⟨("how_many_cells", none), "how_many_cells", "how_many_cells", defArgs s_how_many_cells, defBody s_how_many_cells, defScope s_how_many_cells, [], []⟩
def d_cell_in_kind : He.DefD := ⟨("cell_in_kind", none), "cell_in_kind", "cell_in_kind", defArgs s_cell_in_kind, defBody s_cell_in_kind, defScope s_cell_in_kind, [], []⟩
def d_whole : He.DefD := ⟨("whole", none), "whole", "whole", defArgs s_whole, defBody s_whole, defScope s_whole, [], []⟩
def d_is_near : He.DefD := ⟨("is_near", none), "is_near", "is_near", defArgs s_is_near, defBody s_is_near, defScope s_is_near, [], []⟩
def d_drawn : He.DefD := ⟨("drawn", none), "drawn", "drawn", defArgs s_drawn, defBody s_drawn, defScope s_drawn, [], []⟩
def d__step_sign : He.DefD := ⟨("_step_sign", none), "_step_sign", "_step_sign", defArgs s__step_sign, defBody s__step_sign, defScope s__step_sign, [], []⟩
def d_numbers_drawn : He.DefD := ⟨("numbers_drawn", none), "numbers_drawn", "numbers_drawn", defArgs s_numbers_drawn, defBody s_numbers_drawn, defScope s_numbers_drawn, [], []⟩
def d__law_well : He.DefD := ⟨("_law_well", none), "_law_well", "_law_well", defArgs s__law_well, defBody s__law_well, defScope s__law_well, [], []⟩
def d__law_draw : He.DefD := ⟨("_law_draw", none), "_law_draw", "_law_draw", defArgs s__law_draw, defBody s__law_draw, defScope s__law_draw, [], []⟩
def d__law_same : He.DefD := ⟨("_law_same", none), "_law_same", "_law_same", defArgs s__law_same, defBody s__law_same, defScope s__law_same, [], []⟩
def d__law_order : He.DefD := ⟨("_law_order", none), "_law_order", "_law_order", defArgs s__law_order, defBody s__law_order, defScope s__law_order, [], []⟩
def d__law_kind : He.DefD := ⟨("_law_kind", none), "_law_kind", "_law_kind", defArgs s__law_kind, defBody s__law_kind, defScope s__law_kind, [], []⟩
def d__law_book : He.DefD := ⟨("_law_book", none), "_law_book", "_law_book", defArgs s__law_book, defBody s__law_book, defScope s__law_book, [], []⟩
def d__law_power : He.DefD := ⟨("_law_power", none), "_law_power", "_law_power", defArgs s__law_power, defBody s__law_power, defScope s__law_power, [], []⟩
def d__law_bad_part : He.DefD := ⟨("_law_bad_part", none), "_law_bad_part", "_law_bad_part", defArgs s__law_bad_part, defBody s__law_bad_part, defScope s__law_bad_part, [], []⟩
def d__law_bad_book : He.DefD := ⟨("_law_bad_book", none), "_law_bad_book", "_law_bad_book", defArgs s__law_bad_book, defBody s__law_bad_book, defScope s__law_bad_book, [], []⟩
def d__law_told : He.DefD := ⟨("_law_told", none), "_law_told", "_law_told", defArgs s__law_told, defBody s__law_told, defScope s__law_told, [], []⟩
def d__law_alike : He.DefD := ⟨("_law_alike", none), "_law_alike", "_law_alike", defArgs s__law_alike, defBody s__law_alike, defScope s__law_alike, [], []⟩
def d_law : He.DefD := ⟨("law", none), "law", "law", defArgs s_law, defBody s_law, defScope s_law, [], []⟩
abbrev s_ini : Stmt := inClass (top 7) 0
def d_ini : He.DefD := ⟨("ThreadError", some "__init__"), "__init__", "ThreadError.__init__", defArgs s_ini, defBody s_ini, defScope s_ini, [], []⟩
def fn : List He.DefD := [d_is_whole, d_is_count, d_is_index, d_power, d_digits_of, d_is_book, d__is_kind, d__is_part, d_places_of, d_check_book, d_check_depth, d_how_many_cells, d_cell_in_kind, d_whole, d_is_near, d_drawn, d__step_sign, d_numbers_drawn, d__law_well, d__law_draw, d__law_same, d__law_order, d__law_kind, d__law_book, d__law_power, d__law_bad_part, d__law_bad_book, d__law_told, d__law_alike, d_law, d_ini]
def fa : List He.Fa := [.glo "is_whole", .glo "is_count", .glo "is_index", .glo "power", .glo "digits_of", .glo "is_book", .glo "_is_kind", .glo "_is_part", .glo "places_of", .glo "check_book", .glo "check_depth", .glo "how_many_cells", .glo "cell_in_kind", .glo "whole", .glo "is_near", .glo "drawn", .glo "_step_sign", .glo "numbers_drawn", .glo "_law_well", .glo "_law_draw", .glo "_law_same", .glo "_law_order", .glo "_law_kind", .glo "_law_book", .glo "_law_power", .glo "_law_bad_part", .glo "_law_bad_book", .glo "_law_told", .glo "_law_alike", .glo "law", .free "ValueError", .free "abs", .free "all", .free "bool", .free "divmod", .free "int", .free "isinstance", .free "len", .free "list", .free "max", .free "min", .free "range", .free "set", .free "str", .free "tuple", .free "zip"]
def loose : List PySem.Str := (["__name__", "is_whole", "is_count", "is_index", "power", "digits_of", "ThreadError", "InvalidBook", "InvalidDepth", "is_book", "_is_kind", "_is_part", "places_of", "check_book", "check_depth", "how_many_cells", "cell_in_kind", "whole", "is_near", "drawn", "_step_sign", "numbers_drawn", "_law_well", "_law_draw", "_law_same", "_law_order", "_law_kind", "_law_book", "_law_power", "_law_bad_part"] : List PySem.Str) ++ (["_law_bad_book", "_law_told", "_law_alike"] : List PySem.Str)
abbrev R : PySem.W.OpenRow := PySem.W.OpenLaw.row PySem.Challenge.rw_squarethreads_k43_refusals_of_drawings
abbrev hk : PySem.W.Hook := He.hookX 5 fa fn [] [] (Ev.exB (["ThreadError", "InvalidBook", "InvalidDepth"] : List Str))
def ob (s : PySem.W.SharedT) : He.AlX := He.obsX 5 fa fn [] [] (Ev.exB (["ThreadError", "InvalidBook", "InvalidDepth"] : List Str)) (HandSHeadRun.getT s)
theorem ob_eq (s : PySem.W.SharedT) : ob s = hk.obs s.abs := He.obsX_eq (HandSHeadRun.getT_eq s)
theorem run (w : World) : HandSHeadRun.RunEq R (PySem.W.view R.prog [39]) hk ob 4000 loose w := by
  intro os
  kernel_rfl

end Lz
set_option Elab.async false
set_option linter.all false
set_option maxRecDepth 100000
namespace Ev
open PySem PySem.Spec PyProof.Rows L2

abbrev T := PyData
abbrev Sg := L2.St
/-- the one object of a dict whose keys are ints and tuples of such, nested -/
def nObj (d : Addr) (xs : List (NestedKey × Addr × V)) : HO := .ext fun h => xs.length ≤ sizeLine ∧ (d == sysModules) = false ∧
  ∃ (ys : List (NestedKey × Addr × Value)), Paired (fun (a : NestedKey × Addr × V) (b : NestedKey × Addr × Value) => a.1 = b.1 ∧ a.2.1 = b.2.1 ∧ RelV a.2.2 b.2.2) xs ys ∧
    ∃ (P : Program) (w : World) (o : Obj) (es : Array DictEntry) (ep : Nat), h.get? d = some o ∧ o.ExactDict ∧ o.data = .dict es ep ∧ es.toList = ys.map (entryOfKey (nestedKind P w)) ∧ (ys.map (·.1)).Nodup
/-- a thing that a name alone holds -/
inductive Bx where
  | l (xs : List T)
  | d (kvs : List (T × T))
  | m (kvs : List (T × T))
  | n (kvs : List (T × T))
def Bx.t : Bx → T
  | .l xs => .list xs
  | .d kvs => .dict kvs
  | .m kvs => .dict kvs
  | .n kvs => .dict kvs
/-- what a name holds -/
inductive Sl where
  | un
  | v (t : T)
  | ow (lent : Bool) (b : Bx)
  | fz (b : Bx)
abbrev En := List Sl
inductive Out (α : Type) where
  | ok (a : α) (e : En)
  | exc (c : Str) (t : T) (e : En)
  | bad
@[simp] def Out.bind {α β : Type} : Out α → (α → En → Out β) → Out β
  | .ok a e, f => f a e
  | .exc c t e, _ => .exc c t e
  | .bad, _ => .bad
/-- what an expression yields: a tree, what the name i holds, a new thing -/
inductive Od where
  | r (t : T)
  | s (i : Nat)
  | b (b : Bx)

/-- a key of a dict as a tree -/
def kyT : Key → T
  | .inl i => .int i
  | .inr x => .str x
mutual
/-- a value is a tree; its tuples are known as such -/
inductive Dp (K : PySem.W.Frag) (H : Hp) : V → PyData → Prop
  | non : Dp K H .non .none
  | bl (b : Bool) : Dp K H (.bl b) (.bool b)
  | int (i : Int) : Dp K H (.int i) (.int i)
  | str (x : Str) : Dp K H (.str x) (.str x)
  | lst {a : Addr} {xs : List V} {ds : List PyData} : SqL K H a xs → DpAll K H xs ds → Dp K H (.ref a) (.list ds)
  | tup {a : Addr} {xs : List V} {ds : List PyData} : H a = some (.tup xs) → DpAll K H xs ds → Dp K H (.ref a) (.tuple ds)
  | dct {a : Addr} {ks : List (List Key × V)} {kvs : List (PyData × PyData)} : H a = some (.dT ks) → DpKvs K H ks kvs → Dp K H (.ref a) (.dict kvs)
inductive DpAll (K : PySem.W.Frag) (H : Hp) : List V → List PyData → Prop
  | nil : DpAll K H [] []
  | cons {v : V} {vs : List V} {d : PyData} {ds : List PyData} : Dp K H v d → DpAll K H vs ds → DpAll K H (v :: vs) (d :: ds)
inductive DpKvs (K : PySem.W.Frag) (H : Hp) : List (List Key × V) → List (PyData × PyData) → Prop
  | nil : DpKvs K H [] []
  | cons {k : List Key} {v : V} {ks : List (List Key × V)} {d : PyData} {kvs : List (PyData × PyData)} : Dp K H v d → DpKvs K H ks kvs → DpKvs K H ((k, v) :: ks) ((.tuple (k.map kyT), d) :: kvs)
end
mutual
/-- no dict in it -/
def noD : T → Bool
  | .dict _ => false
  | .list ts => noDs ts
  | .tuple ts => noDs ts
  | .none => true
  | .bool _ => true
  | .int _ => true
  | .str _ => true
def noDs : List T → Bool
  | [] => true
  | t :: ts => noD t && noDs ts
end
mutual
theorem noD_lay : ∀ t : T, t.canLay0 = true → noD t = true
  | .none, _ => rfl
  | .bool _, _ => rfl
  | .int _, _ => rfl
  | .str _, _ => rfl
  | .list ts, c => by simp only [noD]; exact noDs_lay ts (by simpa [PyData.canLay0] using c)
  | .tuple ts, c => by simp only [noD]; exact noDs_lay ts (by simpa [PyData.canLay0] using c)
  | .dict _, c => nomatch c
theorem noDs_lay : ∀ ts : List T, PyData.canLayAll0 ts = true → noDs ts = true
  | [], _ => rfl
  | t :: ts, c => by
    have c' : t.canLay0 = true ∧ PyData.canLayAll0 ts = true := by simpa [PyData.canLayAll0] using c
    simp only [noDs, noD_lay t c'.1, noDs_lay ts c'.2, Bool.and_self]
end
mutual
theorem dp_hand {K : PySem.W.Frag} {H : Hp} : ∀ (t : T) {v : V}, noD t = true → Dp K H v t → L2.Dp K H v t
  | .none, _, _, h => by cases h; exact .non
  | .bool _, _, _, h => by cases h; exact .bl _
  | .int _, _, _, h => by cases h; exact .int _
  | .str _, _, _, h => by cases h; exact .str _
  | .list ts, _, c, h => by cases h with | lst a b => exact .lst a (dpAll_hand ts (by simpa [noD] using c) b)
  | .tuple ts, _, c, h => by cases h with | tup a b => exact .tup (SqT.of a) (dpAll_hand ts (by simpa [noD] using c) b)
  | .dict _, _, c, _ => nomatch c
theorem dpAll_hand {K : PySem.W.Frag} {H : Hp} : ∀ (ts : List T) {vs : List V}, noDs ts = true → DpAll K H vs ts → L2.DpAll K H vs ts
  | [], _, _, h => by cases h; exact .nil
  | t :: ts, _, c, h => by
    have c' : noD t = true ∧ noDs ts = true := by simpa [noDs] using c
    cases h with | cons a b => exact .cons (dp_hand t c'.1 a) (dpAll_hand ts c'.2 b)
end
theorem noD_sh {t : T} (h : SeqAt.shaped t = true) : noD t = true := noD_lay t (SeqAt.canLay_of_shaped h)
theorem dp_mono {K : PySem.W.Frag} {F F' : Hp} (ff : ∀ a o, F a = some o → F' a = some o) : ∀ (t : T) (v : V), Dp K F v t → Dp K F' v t := by
  have sl : ∀ {a xs}, SqL K F a xs → SqL K F' a xs := fun {a xs} h => by
    rcases h with h | h
    · rcases h with h | ⟨o, h⟩
      · exact .inl (.inl (ff _ _ h))
      · exact .inl (.inr ⟨o, ff _ _ h⟩)
    · exact .inr h
  intro t v h
  exact Dp.rec (motive_1 := fun v t _ => Dp K F' v t) (motive_2 := fun vs ts _ => DpAll K F' vs ts) (motive_3 := fun ks kvs _ => DpKvs K F' ks kvs)
    .non (fun b => .bl b) (fun i => .int i) (fun x => .str x) (fun h _ ih => .lst (sl h) ih) (fun h _ ih => .tup (ff _ _ h) ih) (fun h _ ih => .dct (ff _ _ h) ih) .nil (fun _ _ a b => .cons a b) .nil (fun _ _ a b => .cons a b) h
theorem dpAll_mono {K : PySem.W.Frag} {F F' : Hp} (ff : ∀ a o, F a = some o → F' a = some o) : ∀ {ts : List T} {vs : List V}, DpAll K F vs ts → DpAll K F' vs ts
  | [], _, h => by cases h; exact .nil
  | _ :: _, _, h => by cases h with | cons a b => exact .cons (dp_mono ff _ _ a) (dpAll_mono ff b)
theorem dpAll_len {K : PySem.W.Frag} {F : Hp} : ∀ {ts : List T} {vs : List V}, DpAll K F vs ts → vs.length = ts.length
  | [], _, h => by cases h; rfl
  | _ :: _, _, h => by cases h with | cons a b => simp [dpAll_len b]
theorem dpAll_app {K : PySem.W.Frag} {F : Hp} : ∀ {ts us : List T} {vs ws : List V}, DpAll K F vs ts → DpAll K F ws us → DpAll K F (vs ++ ws) (ts ++ us)
  | [], _, _, _, h, g => by cases h; exact g
  | _ :: _, _, _, _, h, g => by cases h with | cons a b => exact .cons a (dpAll_app b g)
theorem dpAll_get {K : PySem.W.Frag} {F : Hp} : ∀ {ts : List T} {vs : List V} {i : Nat} {t : T}, DpAll K F vs ts → ts[i]? = some t → ∃ v, vs[i]? = some v ∧ Dp K F v t
  | [], _, _, _, _, e => by simp at e
  | _ :: _, _, 0, _, h, e => by cases h with | cons a b => simp at e; subst e; exact ⟨_, rfl, a⟩
  | _ :: _, _, i + 1, _, h, e => by cases h with | cons a b => simpa using dpAll_get b (by simpa using e)
theorem dpAll_take {K : PySem.W.Frag} {F : Hp} : ∀ {ts : List T} {vs : List V} (n : Nat), DpAll K F vs ts → DpAll K F (vs.take n) (ts.take n)
  | _, _, 0, _ => .nil
  | [], _, _ + 1, h => by cases h; exact .nil
  | _ :: _, _, n + 1, h => by cases h with | cons a b => exact .cons a (dpAll_take n b)
theorem dpAll_drop {K : PySem.W.Frag} {F : Hp} : ∀ {ts : List T} {vs : List V} (n : Nat), DpAll K F vs ts → DpAll K F (vs.drop n) (ts.drop n)
  | _, _, 0, h => h
  | [], _, _ + 1, h => by cases h; exact .nil
  | _ :: _, _, n + 1, h => by cases h with | cons a b => exact dpAll_drop n b
theorem dpAll_set {K : PySem.W.Frag} {F : Hp} {t : T} {v : V} (d : Dp K F v t) : ∀ {ts : List T} {vs : List V} (n : Nat), DpAll K F vs ts → DpAll K F (vs.set n v) (ts.set n t)
  | [], _, _, h => by cases h; exact .nil
  | _ :: _, _, 0, h => by cases h with | cons a b => exact .cons d b
  | _ :: _, _, n + 1, h => by cases h with | cons a b => exact .cons a (dpAll_set d n b)

/-- a dict's entries -/
def KdR (K : PySem.W.Frag) (F : Hp) (ks : List (Key × V)) (kvs : List (T × T)) : Prop := Paired (fun p q => q.1 = kyT p.1 ∧ Dp K F p.2 q.2) ks kvs
theorem kdR_mono {K : PySem.W.Frag} {F F' : Hp} (ff : ∀ a o, F a = some o → F' a = some o) {ks : List (Key × V)} {kvs : List (T × T)} (h : KdR K F ks kvs) : KdR K F' ks kvs := by
  unfold KdR at h ⊢
  induction h with
  | nil => exact .nil
  | cons a _ ih => exact .cons ⟨a.1, dp_mono ff _ _ a.2⟩ ih
/-- the entries of a dict whose keys are tuples -/
def KmR (K : PySem.W.Frag) (F : Hp) (ks : List (List Key × V)) (kvs : List (T × T)) : Prop := Paired (fun p q => q.1 = .tuple (p.1.map kyT) ∧ Dp K F p.2 q.2) ks kvs
theorem kmR_mono {K : PySem.W.Frag} {F F' : Hp} (ff : ∀ a o, F a = some o → F' a = some o) {ks : List (List Key × V)} {kvs : List (T × T)} (h : KmR K F ks kvs) : KmR K F' ks kvs := by
  unfold KmR at h ⊢
  induction h with
  | nil => exact .nil
  | cons a _ ih => exact .cons ⟨a.1, dp_mono ff _ _ a.2⟩ ih
mutual
/-- a tree as such a key -/
def nkOf : T → Option NestedKey
  | .int i => some (.num i)
  | .tuple ts => (nkOfs ts).map .tup
  | .none => none
  | .bool _ => none
  | .str _ => none
  | .list _ => none
  | .dict _ => none
def nkOfs : List T → Option (List NestedKey)
  | [] => some []
  | t :: ts => match nkOf t, nkOfs ts with
    | some k, some ks => some (k :: ks)
    | _, _ => none
end
def nkD (t : T) : Option NestedKey := match nkOf t with
  | some k => if k.depth ≤ 8 then some k else none
  | none => none
def NmR (K : PySem.W.Frag) (F : Hp) (xs : List (NestedKey × Addr × V)) (kvs : List (T × T)) : Prop := Paired (fun q p => nkD p.1 = some q.1 ∧ Dp K F (.ref q.2.1) p.1 ∧ Dp K F q.2.2 p.2) xs kvs
theorem nmR_mono {K : PySem.W.Frag} {F F' : Hp} (ff : ∀ a o, F a = some o → F' a = some o) {xs : List (NestedKey × Addr × V)} {kvs : List (T × T)} (h : NmR K F xs kvs) : NmR K F' xs kvs := by
  unfold NmR at h ⊢
  induction h with
  | nil => exact .nil
  | cons a _ ih => exact .cons ⟨a.1, dp_mono ff _ _ a.2.1, dp_mono ff _ _ a.2.2⟩ ih
def BxAt (K : PySem.W.Frag) (F H : Hp) (p : Addr) : Bx → Prop
  | .l ts => ∃ xs, H p = some (.lst xs) ∧ DpAll K F xs ts
  | .d kvs => ∃ ks, H p = some (.dK ks) ∧ KdR K F ks kvs
  | .m kvs => ∃ ks, H p = some (.dT ks) ∧ KmR K F ks kvs
  | .n kvs => ∃ xs, H p = some (nObj p xs) ∧ NmR K F xs kvs
def RS (K : PySem.W.Frag) (F H : Hp) : Sl → Option V → Prop
  | .un, _ => True
  | .v t, o => ∃ x, o = some x ∧ Dp K F x t
  | .ow _ b, o => ∃ p, o = some (.ref p) ∧ F p = none ∧ BxAt K F H p b
  | .fz b, o => ∃ x, o = some x ∧ Dp K F x b.t
def Own (e : En) (σ : Sg) (p : Addr) : Prop := ∃ (i : Nat) (l : Bool) (b : Bx), e[i]? = some (Sl.ow l b) ∧ σ[i]? = some (some (V.ref p))
structure Rel (K : PySem.W.Frag) (e : En) (σ : Sg) (F H : Hp) : Prop where
  sub : ∀ a o, F a = some o → H a = some o
  len : e.length = σ.length
  at_ : ∀ (i : Nat) (s : Sl) (o : Option V), e[i]? = some s → σ[i]? = some o → RS K F H s o
  ne : ∀ (i j : Nat) (l : Bool) (b : Bx) (l' : Bool) (b' : Bx) (p : Addr), e[i]? = some (.ow l b) → e[j]? = some (.ow l' b') → σ[i]? = some (some (.ref p)) → σ[j]? = some (some (.ref p)) → i = j
def Lent (e : En) (i : Nat) : Prop := ∃ b, e[i]? = some (.ow true b) ∨ e[i]? = some (.fz b)
/-- what kinds of owning names there are stays -/
def SameKinds (e e1 : En) : Prop := ∀ (i : Nat) (l : Bool) (b : Bx), e1[i]? = some (Sl.ow l b) → ∃ b', e[i]? = some (Sl.ow l b')
structure Step (e e' : En) (σ : Sg) (F H F' H' : Hp) : Prop where
  ff : ∀ a o, F a = some o → F' a = some o
  keep : ∀ a o, H a = some o → ¬ Own e σ a → H' a = some o ∧ (F a = none → F' a = none)
  dom : ∀ a o, H a = some o → ∃ o', H' a = some o'
  own : ∀ a, Own e' σ a → Own e σ a
  lt : ∀ i, Lent e i → Lent e' i
  sk : SameKinds e e'
theorem Step.refl {e : En} {σ : Sg} {F H : Hp} : Step e e σ F H F H := ⟨fun _ _ h => h, fun _ _ h _ => ⟨h, fun x => x⟩, fun _ o h => ⟨o, h⟩, fun _ h => h, fun _ h => h, fun i l b h => ⟨b, h⟩⟩
theorem Step.trans {e e1 e2 : En} {σ : Sg} {F H F1 H1 F2 H2 : Hp} (a : Step e e1 σ F H F1 H1) (b : Step e1 e2 σ F1 H1 F2 H2) : Step e e2 σ F H F2 H2 where
  ff := fun x o h => b.ff _ _ (a.ff _ _ h)
  keep := fun x o h n => by
    obtain ⟨h1, f1⟩ := a.keep x o h n
    obtain ⟨h2, f2⟩ := b.keep x o h1 (fun z => n (a.own _ z))
    exact ⟨h2, fun z => f2 (f1 z)⟩
  dom := fun x o h => by
    obtain ⟨o1, h1⟩ := a.dom x o h
    exact b.dom x o1 h1
  own := fun x h => a.own _ (b.own _ h)
  lt := fun i h => b.lt _ (a.lt _ h)
  sk := fun i l z h => by
    obtain ⟨z1, h1⟩ := b.sk i l z h
    exact a.sk i l z1 h1
/-- an owned thing stands in the heap, apart from the trees -/
theorem Rel.owned {K : PySem.W.Frag} {e : En} {σ : Sg} {F H : Hp} {p : Addr} (R : Rel K e σ F H) (h : Own e σ p) : F p = none ∧ ∃ o, H p = some o := by
  obtain ⟨i, l, b, h1, h2⟩ := h
  obtain ⟨q, e1, f, x⟩ := R.at_ i _ _ h1 h2
  cases e1
  refine ⟨f, ?_⟩
  cases b with
  | l ts => obtain ⟨xs, hx, _⟩ := x; exact ⟨_, hx⟩
  | d kvs => obtain ⟨ks, hx, _⟩ := x; exact ⟨_, hx⟩
  | m kvs => obtain ⟨ks, hx, _⟩ := x; exact ⟨_, hx⟩
  | n kvs => obtain ⟨ks, hx, _⟩ := x; exact ⟨_, hx⟩

/-- what a value yielded is -/
def OdR (K : PySem.W.Frag) (σ : Sg) (Hs F H : Hp) (x : V) : Od → Prop
  | .r t => Dp K F x t
  | .s i => σ[i]? = some (some x)
  | .b b => ∃ p, x = .ref p ∧ Hs p = none ∧ F p = none ∧ BxAt K F H p b
abbrev SemE := En → Out Od
abbrev WX := Value → Option Addr → Sg → Hp → Prop
/-- an exception: of the class that the name c names, with the value t -/
def ExR (K : PySem.W.Frag) (F H : Hp) (c : Str) (t : T) (cls : Value) (d : Option Addr) : Prop :=
  cls = .ref (He.ga K c) ∧ ∃ dx v, d = some dx ∧ H dx = some (.xd [("value", v)]) ∧ Dp K F v t
end Ev

set_option Elab.async false
set_option linter.all false
set_option maxRecDepth 100000
namespace Ev
open PySem PySem.Spec PyProof.Rows L2
def Bx.tr : Bx → Option T
  | .l xs => some (.list xs)
  | .d _ => none
  | .m _ => none
  | .n _ => none
def slVal : Sl → Option T
  | .un => none
  | .v t => some t
  | .ow _ b => b.tr
  | .fz b => some b.t
def Od.val (e : En) : Od → Option T
  | .r t => some t
  | .s i => match e[i]? with
    | some z => slVal z
    | none => none
  | .b z => z.tr
section
variable {K : PySem.W.Frag} {W : WX} {e e1 e2 : En} {σ : Sg} {F H F1 H1 F2 H2 Hs : Hp} {p : Addr} {o : HO}
/-- a value; a list's own node may stand in H alone -/
def DpO (K : PySem.W.Frag) (F H : Hp) (x : V) : T → Prop
  | .list ts => ∃ p xs, x = .ref p ∧ SqL K H p xs ∧ DpAll K F xs ts
  | t => Dp K F x t
theorem sqL_mono {a : Addr} {xs : List V} (ff : ∀ a o, F a = some o → H a = some o) (h : SqL K F a xs) : SqL K H a xs := by
  rcases h with h | h
  · rcases h with h | ⟨o, h⟩
    · exact .inl (.inl (ff _ _ h))
    · exact .inl (.inr ⟨o, ff _ _ h⟩)
  · exact .inr h
theorem tupS {a : Addr} {xs : List V} (ff : ∀ a o, F a = some o → H a = some o) (h : F a = some (.tup xs)) : SqT K H a xs := SqT.of (ff _ _ h)
theorem sqT_mono {a : Addr} {xs : List V} (ff : ∀ a o, F a = some o → H a = some o) (h : SqT K F a xs) : SqT K H a xs := by
  rcases h with h | h
  · rcases h with h | ⟨o, h⟩
    · exact .inl (.inl (ff _ _ h))
    · exact .inl (.inr ⟨o, ff _ _ h⟩)
  · exact .inr h
theorem dpo_of {x : V} {t : T} (ff : ∀ a o, F a = some o → H a = some o) (d : Dp K F x t) : DpO K F H x t := by
  cases d with
  | lst a b => exact ⟨_, _, rfl, sqL_mono ff a, b⟩
  | tup a b => exact .tup a b
  | dct a b => exact .dct a b
  | non => exact .non
  | bl b => exact .bl b
  | int i => exact .int i
  | str z => exact .str z
theorem DpO.dp {x : V} {t : T} (ff : ∀ a o, F a = some o → H a = some o) (d : DpO K F H x t) : Dp K H x t := by
  cases t with
  | list ts => obtain ⟨p, xs, rfl, a, b⟩ := d; exact .lst a (dpAll_mono ff b)
  | tuple ts => exact dp_mono ff _ _ d
  | none => exact dp_mono ff _ _ d
  | bool _ => exact dp_mono ff _ _ d
  | int _ => exact dp_mono ff _ _ d
  | str _ => exact dp_mono ff _ _ d
  | dict _ => exact dp_mono ff _ _ d
theorem bx_dpo {b : Bx} {t : T} (x : BxAt K F H p b) (h : b.tr = some t) : DpO K F H (.ref p) t := by
  cases b with
  | l ts => obtain ⟨xs, hx, d⟩ := x; cases h; exact ⟨_, xs, rfl, SqL.of hx, d⟩
  | d kvs => cases h
  | m kvs => cases h
  | n kvs => cases h
theorem val_ok {x : V} {r : Od} {t : T} (R : Rel K e σ F H) (O : OdR K σ Hs F H x r) (h : r.val e = some t) : DpO K F H x t := by
  cases r with
  | r u => cases h; exact dpo_of R.sub O
  | b b => obtain ⟨p, rfl, _, _, z⟩ := O; exact bx_dpo z (by simpa [Od.val] using h)
  | s i =>
    have O : σ[i]? = some (some x) := O
    simp only [Od.val] at h
    cases q : e[i]? with
    | none => rw [q] at h; cases h
    | some s =>
      rw [q] at h
      have z := R.at_ i s _ q O
      cases s with
      | un => cases h
      | v u => cases h; obtain ⟨y, ey, d⟩ := z; cases ey; exact dpo_of R.sub d
      | ow l b => obtain ⟨p, ey, _, d⟩ := z; cases ey; exact bx_dpo d h
      | fz b => cases h; obtain ⟨y, ey, d⟩ := z; cases ey; exact dpo_of R.sub d
theorem fresh_not_own (R : Rel K e σ F H) (S : Step e e1 σ F H F1 H1) (h : H p = none) : ¬ Own e1 σ p := fun z => by
  obtain ⟨_, o, q⟩ := R.owned (S.own _ z)
  rw [h] at q; cases q
theorem bx_keep {b : Bx} (x : BxAt K F1 H1 p b) (ff : ∀ a o, F1 a = some o → F2 a = some o) (hk : ∀ o, H1 p = some o → H2 p = some o) : BxAt K F2 H2 p b := by
  cases b with
  | l ts => obtain ⟨xs, hx, d⟩ := x; exact ⟨xs, hk _ hx, dpAll_mono ff d⟩
  | d kvs => obtain ⟨ks, hx, d⟩ := x; exact ⟨ks, hk _ hx, kdR_mono ff d⟩
  | m kvs => obtain ⟨ks, hx, d⟩ := x; exact ⟨ks, hk _ hx, kmR_mono ff d⟩
  | n kvs => obtain ⟨ks, hx, d⟩ := x; exact ⟨ks, hk _ hx, nmR_mono ff d⟩
theorem bx_some {b : Bx} (x : BxAt K F1 H1 p b) : ∃ o, H1 p = some o := by
  cases b with
  | l ts => obtain ⟨xs, hx, _⟩ := x; exact ⟨_, hx⟩
  | d kvs => obtain ⟨ks, hx, _⟩ := x; exact ⟨_, hx⟩
  | m kvs => obtain ⟨ks, hx, _⟩ := x; exact ⟨_, hx⟩
  | n kvs => obtain ⟨ks, hx, _⟩ := x; exact ⟨_, hx⟩
/-- a value stays what it is while others are worked out -/
theorem od_stay {x : V} {r : Od} (O : OdR K σ H F1 H1 x r) (no : ∀ p, H p = none → ¬ Own e1 σ p) (S : Step e1 e2 σ F1 H1 F2 H2) : OdR K σ H F2 H2 x r := by
  cases r with
  | r t => exact dp_mono S.ff _ _ O
  | s i => exact O
  | b b =>
    obtain ⟨p, rfl, hn, hf, z⟩ := O
    obtain ⟨o, ho⟩ := bx_some z
    have k := S.keep p o ho (no p hn)
    exact ⟨p, rfl, hn, k.2 hf, bx_keep z S.ff fun o' h' => by rw [ho] at h'; cases h'; exact k.1⟩
theorem od_back {x : V} {r : Od} (O : OdR K σ H1 F2 H2 x r) (S : Step e e1 σ F H F1 H1) : OdR K σ H F2 H2 x r := by
  cases r with
  | r t => exact O
  | s i => exact O
  | b b =>
    obtain ⟨p, rfl, hn, hf, z⟩ := O
    refine ⟨p, rfl, ?_, hf, z⟩
    cases q : H p with
    | none => rfl
    | some o => obtain ⟨o', e'⟩ := S.dom _ _ q; rw [hn] at e'; cases e'
/-! ### new things -/
theorem laid_own (R : Rel K e σ F H) (hp : H p = none) : Rel K e σ F (upd H p o) := by
  refine ⟨fun a u h => ?_, R.len, fun i s u h1 h2 => ?_, R.ne⟩
  · have := R.sub _ _ h
    rw [upd_ne (ne_of_none this hp)]; exact this
  · have z := R.at_ i s u h1 h2
    cases s with
    | un => trivial
    | v t => exact z
    | fz b => exact z
    | ow l b =>
      obtain ⟨q, eq, hf, x⟩ := z
      refine ⟨q, eq, hf, bx_keep x (fun _ _ h => h) fun o' h' => ?_⟩
      rw [upd_ne (ne_of_none h' hp)]; exact h'
theorem laid_own_step (hp : H p = none) : Step e e σ F H F (upd H p o) :=
  ⟨fun _ _ h => h, fun a u h _ => ⟨by rw [upd_ne (ne_of_none h hp)]; exact h, fun z => z⟩, fun a u h => ⟨u, by rw [upd_ne (ne_of_none h hp)]; exact h⟩, fun _ h => h, fun _ h => h, fun i l b h => ⟨b, h⟩⟩
theorem sub_none (R : Rel K e σ F H) (hp : H p = none) : F p = none := by
  cases q : F p with
  | none => rfl
  | some o => rw [R.sub _ _ q] at hp; cases hp
/-- F grows by what stands in H, apart from what is owned -/
theorem frz_rel (R : Rel K e σ F H) (hp : H p = some o) (no : ¬ Own e σ p) (hf : F p = none) : Rel K e σ (upd F p o) H := by
  have ff : ∀ a u, F a = some u → upd F p o a = some u := fun a u h => by rw [upd_ne (ne_of_none h hf)]; exact h
  refine ⟨fun a u h => ?_, R.len, fun i s u h1 h2 => ?_, R.ne⟩
  · by_cases q : a = p
    · subst q; rw [upd_same] at h; cases h; exact hp
    · rw [upd_ne q] at h; exact R.sub _ _ h
  · have z := R.at_ i s u h1 h2
    cases s with
    | un => trivial
    | v t => obtain ⟨x, ex, d⟩ := z; exact ⟨x, ex, dp_mono ff _ _ d⟩
    | fz b => obtain ⟨x, ex, d⟩ := z; exact ⟨x, ex, dp_mono ff _ _ d⟩
    | ow l b =>
      obtain ⟨q, eq, hf', x⟩ := z
      have ne : q ≠ p := fun z => no ⟨i, l, b, h1, by rw [h2, eq, z]⟩
      exact ⟨q, eq, by rw [upd_ne ne]; exact hf', bx_keep x ff fun _ h => h⟩
theorem frz_step (S : Step e e1 σ F H F1 H1) (hp : H p = none) (hf : F1 p = none) : Step e e1 σ F H (upd F1 p o) H1 :=
  ⟨fun a u h => by rw [upd_ne (ne_of_none (S.ff _ _ h) hf)]; exact S.ff _ _ h, fun a u h n => ⟨(S.keep a u h n).1, fun z => by rw [upd_ne (ne_of_none h hp)]; exact (S.keep a u h n).2 z⟩, S.dom, S.own, S.lt, S.sk⟩
theorem laid_frz (R : Rel K e σ F H) (hp : H p = none) : Rel K e σ (upd F p o) (upd H p o) :=
  frz_rel (laid_own R hp) upd_same (fun z => by obtain ⟨_, u, q⟩ := R.owned z; rw [hp] at q; cases q) (sub_none R hp)
theorem laid_frz_step (R : Rel K e σ F H) (S : Step e1 e σ F1 H1 F H) (hp : H p = none) : Step e1 e σ F1 H1 (upd F p o) (upd H p o) := by
  have h1 : H1 p = none := by
    cases q : H1 p with
    | none => rfl
    | some u => obtain ⟨o', e'⟩ := S.dom _ _ q; rw [hp] at e'; cases e'
  exact frz_step (S.trans (laid_own_step hp)) h1 (sub_none R hp)
/-! ### readings -/
/-- what an outcome asks of what is wanted behind it; rel: how a value is told (the heap ahead, F, H behind) -/
def OutX {α β : Type} (K : PySem.W.Frag) (W : WX) (rel : Hp → Hp → Hp → β → α → Prop) (r : Out α) (e : En) (σ : Sg) (F H : Hp) (Q : β → Hp → Prop) : Prop := match r with
  | .ok r e' => ∀ x F' H', Rel K e' σ F' H' → Step e e' σ F H F' H' → rel H F' H' x r → Q x H'
  | .exc c t e' => ∀ F' H' cls d, Rel K e' σ F' H' → Step e e' σ F H F' H' → ExR K F' H' c t cls d → W cls d σ H'
  | .bad => False
/-- the reading of a meaning -/
def tX {α β : Type} (K : PySem.W.Frag) (W : WX) (rel : Sg → Hp → Hp → Hp → β → α → Prop) (m : En → Out α) (σ : Sg) (H : Hp) (Q : β → Hp → Prop) : Prop := ∃ e F, Rel K e σ F H ∧ OutX K W (rel σ) (m e) e σ F H Q
theorem tX_bind {α β γ δ : Type} {rel : Sg → Hp → Hp → Hp → β → α → Prop} {rel' : Hp → Hp → Hp → δ → γ → Prop} {m : En → Out α} {f : α → En → Out γ} {Q : δ → Hp → Prop} (R1 : Rel K e1 σ F1 H1) (S1 : Step e e1 σ F H F1 H1) (h : OutX K W rel' ((m e1).bind f) e σ F H Q) :
    tX K W rel m σ H1 (fun x H2 => ∃ r e2 F2, Rel K e2 σ F2 H2 ∧ Step e1 e2 σ F1 H1 F2 H2 ∧ rel σ H1 F2 H2 x r ∧ OutX K W rel' (f r e2) e σ F H Q) := by
  refine ⟨e1, F1, R1, ?_⟩
  cases q : m e1 with
  | ok r e' => rw [q] at h; exact fun x F' H' R' S' O => ⟨r, e', F', R', S', O, h⟩
  | exc c t e' => rw [q] at h; exact fun F' H' cls d R' S' X => h F' H' cls d R' (S1.trans S') X
  | bad => rw [q] at h; exact h
theorem OutX.imp {α β : Type} {rel : Hp → Hp → Hp → β → α → Prop} {r : Out α} {Q Q' : β → Hp → Prop} (h : OutX K W rel r e σ F H Q) (m : ∀ x H', Q x H' → Q' x H') : OutX K W rel r e σ F H Q' := by
  cases r with
  | ok r e' => exact fun x F' H' R S O => m _ _ (h x F' H' R S O)
  | exc c t e' => exact h
  | bad => exact h
theorem tX_imp {α β : Type} {rel : Sg → Hp → Hp → Hp → β → α → Prop} {m : En → Out α} {Q Q' : β → Hp → Prop} (h : tX K W rel m σ H Q) (k : ∀ x H', Q x H' → Q' x H') : tX K W rel m σ H Q' := by
  obtain ⟨e, F, R, h⟩ := h
  exact ⟨e, F, R, h.imp k⟩
/-- what is asked where an operation hands r back, the heap being H -/
def Fin (K : PySem.W.Frag) (F H : Hp) (Q : VK) : Od → Prop
  | .r w => (∀ v, Dp K F v w → Q v H) ∧ ∀ ts p xs, w = .tuple ts → H p = none → DpAll K F xs ts → Q (.ref p) (upd H p (.tup xs))
  | .b (.l ts) => ∀ p xs, H p = none → DpAll K F xs ts → Q (.ref p) (upd H p (.lst xs))
  | _ => False
theorem step_none (S : Step e e1 σ F H F1 H1) (h : H1 p = none) : H p = none := by
  cases q : H p with
  | none => rfl
  | some u => obtain ⟨o', e'⟩ := S.dom _ _ q; rw [h] at e'; cases e'
/-- w is what operations hand back -/
def Back : Od → Prop
  | .r _ => True
  | .b (.l _) => True
  | _ => False
theorem fin_of {r : Od} {Q : VK} (R : Rel K e1 σ F1 H1) (S : Step e e1 σ F H F1 H1) (go : OutX K W (OdR K σ) (.ok r e1) e σ F H Q) (hr : Back r) : Fin K F1 H1 Q r := by
  cases r with
  | r w =>
    refine ⟨fun v d => go v F1 H1 R S d, fun ts p xs ew hp d => ?_⟩
    subst ew
    refine go _ _ _ (laid_frz R hp) (laid_frz_step R S hp) (.tup upd_same (dpAll_mono (fun a u q => ?_) d))
    rw [upd_ne (ne_of_none q (sub_none R hp))]; exact q
  | s i => exact hr.elim
  | b b =>
    cases b with
    | d _ => exact hr.elim
    | m _ => exact hr.elim
    | n _ => exact hr.elim
    | l ts => exact fun p xs hp d => go _ _ _ (laid_own R hp) (S.trans (laid_own_step hp)) ⟨p, rfl, step_none S hp, sub_none R hp, xs, upd_same, d⟩
end
theorem pe_mono {X : Cx} {ex : Expr} {t t' : TE} (h : PE X ex t) (m : ∀ σ H Q, t' σ H Q → t σ H Q) : PE X ex t' := ⟨fun pins s σ H Q I q => h.run pins s σ H Q I (m σ H Q q)⟩
theorem pt_mono {X : Cx} {ex : Expr} {t t' : TT} (h : PT X ex t) (m : ∀ σ H Q, t' σ H Q → t σ H Q) : PT X ex t' := ⟨fun pins s σ H Q I q => h.run pins s σ H Q I (m σ H Q q)⟩
theorem ps_mono {X : Cx} {ex : Stmt} {t t' : TS} (h : PS X ex t) (m : ∀ D σ H, t' D σ H → t D σ H) : PS X ex t' := ⟨fun pins s σ H D I q => h.run pins s σ H D I (m D σ H q)⟩
theorem pss_mono {X : Cx} {ex : List Stmt} {t t' : TS} (h : PSs X ex t) (m : ∀ D σ H, t' D σ H → t D σ H) : PSs X ex t' := ⟨fun pins s σ H D I q => h.run pins s σ H D I (m D σ H q)⟩
theorem pa_mono {X : Cx} {ex : List Expr} {t t' : TA} (h : PA X ex t) (m : ∀ σ H Q, t' σ H Q → t σ H Q) : PA X ex t' := ⟨fun pos pins s σ H Q I q => h.run pos pins s σ H Q I (m σ H Q q)⟩
abbrev tE (K : PySem.W.Frag) (W : WX) (m : SemE) : TE := tX K W (fun σ => OdR K σ) m
abbrev SemT := En → Out Bool
abbrev tT (K : PySem.W.Frag) (W : WX) (m : SemT) : TT := tX K W (fun _ _ _ _ (x : Bool) r => x = r) m
abbrev SemA := En → Out (List Od)
/-- the values of a list of things yielded; the new ones stand apart -/
inductive OdsR (K : PySem.W.Frag) (σ : Sg) (Hs F H : Hp) : List Od → List V → Prop
  | nil : OdsR K σ Hs F H [] []
  | cons {r : Od} {x : V} {rs : List Od} {xs : List V} : OdR K σ Hs F H x r → OdsR K σ Hs F H rs xs →
      (∀ (z : Bx) (p : Addr), r = .b z → x = .ref p → ∀ (j : Nat) (z' : Bx), rs[j]? = some (.b z') → xs[j]? ≠ some (.ref p)) → OdsR K σ Hs F H (r :: rs) (x :: xs)
abbrev tA (K : PySem.W.Frag) (W : WX) (m : SemA) : TA := tX K W (fun σ Hs F H xs rs => OdsR K σ Hs F H rs xs) m
abbrev QE (X : Cx) (W : WX) (ex : Expr) (m : SemE) : Prop := PE X ex (tE X.K W m)
abbrev QT (X : Cx) (W : WX) (ex : Expr) (m : SemT) : Prop := PT X ex (tT X.K W m)
abbrev QA (X : Cx) (W : WX) (ex : List Expr) (m : SemA) : Prop := PA X ex (tA X.K W m)

/-! ### names and constants -/
section
variable {X : Cx} {W : WX} {a b c : Expr} {ma mb mc : SemE} {pos : Pos}
def eVar (i : Nat) : SemE := fun e => match e[i]? with
  | some (.v t) => .ok (.r t) e
  | some (.fz b) => .ok (.r b.t) e
  | some (.ow _ _) => .ok (.s i) e
  | _ => .bad
theorem Rel.var {K : PySem.W.Frag} {e : En} {σ : Sg} {F H : Hp} (R : Rel K e σ F H) {i : Nat} {s : Sl} (h : e[i]? = some s) : ∃ o, σ[i]? = some o ∧ RS K F H s o := by
  have hi : i < σ.length := by rw [← R.len]; exact (List.getElem?_eq_some_iff.mp h).1
  exact ⟨_, List.getElem?_eq_getElem hi, R.at_ i s _ h (List.getElem?_eq_getElem hi)⟩
theorem qvar {i : Nat} {x : Str} (hN : X.N[i]? = some x) (hv : Vis X.env.scope x) (hd : (x == ("__debug__" : Str)) = false := by decide) (hcd : (x == ("__classdict__" : Str)) = false := by decide) : QE X W (.Name x pos) (eVar i) := by
  refine pe_mono (pe_var hN hv hd hcd) fun σ H Q h => ?_
  obtain ⟨e, F, R, h⟩ := h
  unfold eVar at h
  cases q : e[i]? with
  | none => rw [q] at h; exact h.elim
  | some s =>
    rw [q] at h
    obtain ⟨o, hs, z⟩ := R.var q
    cases s with
    | un => exact h.elim
    | v t => obtain ⟨y, rfl, d⟩ := z; exact ⟨y, hs, h y F H R .refl d⟩
    | fz b => obtain ⟨y, rfl, d⟩ := z; exact ⟨y, hs, h y F H R .refl d⟩
    | ow l b => obtain ⟨p, rfl, hf, x⟩ := z; exact ⟨_, hs, h _ F H R .refl hs⟩
def eK (t : T) : SemE := fun e => .ok (.r t) e
theorem qint {i j} : QE X W (.Constant (.int i) j pos) (eK (.int i)) := pe_mono pe_int fun σ H Q ⟨e, F, R, h⟩ => h _ F H R .refl (.int i)
theorem qbl {b j} : QE X W (.Constant (.bool b) j pos) (eK (.bool b)) := pe_mono pe_bl fun σ H Q ⟨e, F, R, h⟩ => h _ F H R .refl (.bl b)
theorem qnon {j} : QE X W (.Constant .none j pos) (eK .none) := pe_mono pe_non fun σ H Q ⟨e, F, R, h⟩ => h _ F H R .refl .non
theorem qstr {x j} : QE X W (.Constant (.str x) j pos) (eK (.str x)) := pe_mono pe_str fun σ H Q ⟨e, F, R, h⟩ => h _ F H R .refl (.str x)

/-! ### two operands -/
def eTwo {α : Type} (ma mb : SemE) (g : Od → Od → En → Out α) : En → Out α := fun e => (ma e).bind fun r e1 => (mb e1).bind fun r2 e2 => g r r2 e2
/-- the state behind two operands -/
def At2 {α β : Type} (K : PySem.W.Frag) (W : WX) (rel : Hp → Hp → Hp → β → α → Prop) (g : Od → Od → En → Out α) (σ : Sg) (x y : V) (H2 : Hp) (Q : β → Hp → Prop) : Prop :=
  ∃ e F H r r2 e2 F2, Rel K e σ F H ∧ Rel K e2 σ F2 H2 ∧ Step e e2 σ F H F2 H2 ∧ OdR K σ H F2 H2 x r ∧ OdR K σ H F2 H2 y r2 ∧ OutX K W rel (g r r2 e2) e σ F H Q
theorem two {α β : Type} {K : PySem.W.Frag} {rel : Sg → Hp → Hp → Hp → β → α → Prop} {g : Od → Od → En → Out α} {σ : Sg} {H : Hp} {Q : β → Hp → Prop} (h : tX K W rel (eTwo ma mb g) σ H Q) :
    tE K W ma σ H fun x H1 => tE K W mb σ H1 fun y H2 => At2 K W (rel σ) g σ x y H2 Q := by
  obtain ⟨e, F, R, h⟩ := h
  refine tX_imp (tX_bind R .refl h) fun x H1 ⟨r, e1, F1, R1, S1, O1, h1⟩ => ?_
  refine tX_imp (tX_bind R1 S1 h1) fun y H2 ⟨r2, e2, F2, R2, S2, O2, h2⟩ => ?_
  exact ⟨e, F, H, r, r2, e2, F2, R, R2, S1.trans S2, od_stay O1 (fun p hp => fresh_not_own R S1 hp) S2, od_back O2 S1, h2⟩
/-- the values of two operands -/
def v2 (g : T → T → Option Od) : Od → Od → En → Out Od := fun r r2 e => match r.val e, r2.val e with
  | some t, some u => (match g t u with
    | some w => .ok w e
    | none => .bad)
  | _, _ => .bad
/-- a rule of an operation on two values, met by g -/
def Does2 (K : PySem.W.Frag) (r : R2) (g : T → T → Option Od) : Prop :=
  ∀ x y t u w F H (Q : VK), (∀ a o, F a = some o → H a = some o) → DpO K F H x t → DpO K F H y u → g t u = some w → Back w ∧ (Fin K F H Q w → r x y H Q)
theorem does2 {K : PySem.W.Frag} {r : R2} {g : T → T → Option Od} (hr : Does2 K r g) {σ : Sg} {x y : V} {H : Hp} {Q : VK} (h : At2 K W (OdR K σ) (v2 g) σ x y H Q) : r x y H Q := by
  obtain ⟨e, F, H0, r1, r2, e2, F2, R, R2, S, O1, O2, go⟩ := h
  unfold v2 at go
  cases q1 : r1.val e2 with
  | none => rw [q1] at go; exact go.elim
  | some t =>
    cases q2 : r2.val e2 with
    | none => rw [q1, q2] at go; exact go.elim
    | some u =>
      rw [q1, q2] at go
      cases q3 : g t u with
      | none => simp only [q3] at go; exact go.elim
      | some w =>
        simp only [q3] at go
        obtain ⟨bk, z⟩ := hr x y t u w F2 H Q R2.sub (val_ok R2 O1 q1) (val_ok R2 O2 q2) q3
        exact z (fin_of R2 S go bk)
abbrev eOp2 (g : T → T → Option Od) (ma mb : SemE) : SemE := eTwo ma mb (v2 g)
theorem qop {f : Operator} {r : R2} {g : T → T → Option Od} (ho : OpR X (binaryOp f) r) (hr : Does2 X.K r g) (ha : QE X W a ma) (hb : QE X W b mb) : QE X W (.BinOp a f b pos) (eOp2 g ma mb) :=
  pe_mono (pe_op ho ha hb) fun σ H Q h => tX_imp (two h) fun x H1 h1 => tX_imp h1 fun y H2 h2 => does2 hr h2
theorem qcmp {f : CmpOp} {r : R2} {g : T → T → Option Od} (ho : OpR X (compareOp f) r) (hr : Does2 X.K r g) (ha : QE X W a ma) (hb : QE X W b mb) (hm : behindInMarks f b = false := by first | rfl | exact nomark _) : QE X W (.Compare a [f] [b] pos) (eOp2 g ma mb) :=
  pe_mono (pe_cmpR ho ha hb hm) fun σ H Q h => tX_imp (two h) fun x H1 h1 => tX_imp h1 fun y H2 h2 => does2 hr h2
end
end Ev

set_option Elab.async false
set_option linter.all false
set_option maxRecDepth 100000
namespace Ev
open PySem PySem.Spec PyProof.Rows L2
section
variable {X : Cx} {W : WX} {a b c : Expr} {ma mb mc : SemE} {pos : Pos}
/-! ### argument lists -/
def aNil : SemA := fun e => .ok [] e
def aCons (m : SemE) (r : SemA) : SemA := fun e => (m e).bind fun x e1 => (r e1).bind fun xs e2 => .ok (x :: xs) e2
theorem qa_nil : QA X W [] aNil := pa_mono pa_nil fun σ H Q ⟨e, F, R, h⟩ => h _ F H R .refl .nil
theorem ods_back {K : PySem.W.Frag} {σ : Sg} {e e1 : En} {F H F1 H1 F2 H2 : Hp} (S : Step e e1 σ F H F1 H1) : ∀ {rs xs}, OdsR K σ H1 F2 H2 rs xs → OdsR K σ H F2 H2 rs xs
  | _, _, .nil => .nil
  | _, _, .cons a b n => .cons (od_back a S) (ods_back S b) n
theorem ods_tmp {K : PySem.W.Frag} {σ : Sg} {Hs F H : Hp} : ∀ {rs : List Od} {xs : List V}, OdsR K σ Hs F H rs xs → ∀ (j : Nat) (z : Bx), rs[j]? = some (.b z) → ∃ p, xs[j]? = some (.ref p) ∧ Hs p = none ∧ F p = none ∧ BxAt K F H p z
  | _, _, .nil, j, z, h => by simp at h
  | _, _, .cons a b n, 0, z, h => by simp at h; subst h; obtain ⟨p, rfl, q⟩ := a; exact ⟨p, rfl, q⟩
  | _, _, .cons a b n, j + 1, z, h => by simpa using ods_tmp b j z (by simpa using h)
theorem qa_cons {es : List Expr} {mr : SemA} (ha : QE X W a ma) (hr : QA X W es mr) (hs : starEach (a :: es) X.env = (false, eval a X.env) :: starEach es X.env := by rfl) : QA X W (a :: es) (aCons ma mr) := by
  refine pa_mono (pa_cons ha hr hs) fun σ H Q h => ?_
  obtain ⟨e, F, R, h⟩ := h
  refine tX_imp (tX_bind R .refl h) fun x H1 ⟨r, e1, F1, R1, S1, O1, h1⟩ => ?_
  refine tX_imp (tX_bind (rel := fun σ Hs F H xs rs => OdsR X.K σ Hs F H rs xs) R1 S1 h1) fun xs H2 ⟨rs, e2, F2, R2, S2, O2, h2⟩ => ?_
  refine h2 _ F2 H2 R2 (S1.trans S2) (.cons (od_stay O1 (fun p hp => fresh_not_own R S1 hp) S2) (ods_back S1 O2) fun z p er ex j z' hj hx => ?_)
  subst er
  obtain ⟨p', ep, hn, hf, bx⟩ := O1
  rw [ex] at ep; cases ep
  obtain ⟨q, hq, hn2, _⟩ := ods_tmp O2 j z' hj
  rw [hx] at hq; cases hq
  obtain ⟨o, ho⟩ := bx_some bx
  rw [hn2] at ho; cases ho
def vals (e : En) : List Od → Option (List T)
  | [] => some []
  | r :: rs => match r.val e, vals e rs with
    | some t, some ts => some (t :: ts)
    | _, _ => none
abbrev DpOs (K : PySem.W.Frag) (F H : Hp) (ts : List T) (xs : List V) : Prop := Paired (fun t x => DpO K F H x t) ts xs
theorem vals_ok {K : PySem.W.Frag} {σ : Sg} {e : En} {F H Hs : Hp} (R : Rel K e σ F H) : ∀ {rs : List Od} {xs : List V} {ts : List T}, OdsR K σ Hs F H rs xs → vals e rs = some ts → DpOs K F H ts xs
  | _, _, _, .nil, h => by cases h; exact .nil
  | r :: rs, _, _, .cons a b n, h => by
    unfold vals at h
    cases q : r.val e with
    | none => rw [q] at h; cases h
    | some t =>
      cases q2 : vals e rs with
      | none => rw [q, q2] at h; cases h
      | some us => rw [q, q2] at h; cases h; exact .cons (val_ok R a q) (vals_ok R b q2)
/-- a built-in on values -/
def eFn (g : List T → Option Od) (ma : SemA) : SemE := fun e => (ma e).bind fun rs e1 => match vals e1 rs with
  | some ts => (match g ts with
    | some w => .ok w e1
    | none => .bad)
  | none => .bad
def DoesN (K : PySem.W.Frag) (r : List V → Hp → VK → Prop) (g : List T → Option Od) : Prop :=
  ∀ xs ts w F H (Q : VK), (∀ a o, F a = some o → H a = some o) → DpOs K F H ts xs → g ts = some w → Back w ∧ (Fin K F H Q w → r xs H Q)
theorem fn_read {K : PySem.W.Frag} {r : List V → Hp → VK → Prop} {g : List T → Option Od} {m : SemA} (hr : DoesN K r g) {σ : Sg} {H : Hp} {Q : VK} (h : tE K W (eFn g m) σ H Q) : tCB r (tA K W m) σ H Q := by
  obtain ⟨e, F, R, h⟩ := h
  refine tX_imp (tX_bind (rel := fun σ Hs F H xs rs => OdsR K σ Hs F H rs xs) R .refl h) fun xs H1 ⟨rs, e1, F1, R1, S1, O1, h1⟩ => ?_
  cases q : vals e1 rs with
  | none => simp only [q] at h1; exact h1.elim
  | some ts =>
    simp only [q] at h1
    cases q2 : g ts with
    | none => simp only [q2] at h1; exact h1.elim
    | some w =>
      simp only [q2] at h1
      obtain ⟨bk, z⟩ := hr xs ts w F1 H1 Q R1.sub (vals_ok R1 O1 q) q2
      exact z (fin_of R1 S1 h1 bk)
theorem qfnB {x : Str} {p : Pos} {es : List Expr} {id : String} {r : List V → Hp → VK → Prop} {g : List T → Option Od} {m : SemA} (hc : CallR X (.builtin id) r) (hr : DoesN X.K r g) (hg : Gl X x) (hm : X.mg x = none) (hv : bootBuiltins x = some (.builtin id)) (ha : QA X W (a :: es) m)
    (hn : x ≠ "__name__" := by decide) (hdb : (x == ("__debug__" : Str)) = false := by decide)
    (he : starEach (a :: es) X.env = (false, eval a X.env) :: starEach es X.env := by rfl) (hpl : (backTo pos (starEach es X.env)).any (·.1) = false := by rfl) : QE X W (.Call (.Name x p) (a :: es) [] pos) (eFn g m) :=
  pe_mono (pe_callB hc hg hm hv ha hn hdb he hpl) fun σ H Q h => fn_read hr h
theorem qfnT {x : Str} {p : Pos} {es : List Expr} {id : String} {r : List V → Hp → VK → Prop} {g : List T → Option Od} {m : SemA} (hc : CallR X (.type id) r) (hr : DoesN X.K r g) (hg : Gl X x) (hm : X.mg x = none) (hv : bootBuiltins x = some (.type id)) (ha : QA X W (a :: es) m)
    (hn : x ≠ "__name__" := by decide) (hdb : (x == ("__debug__" : Str)) = false := by decide)
    (he : starEach (a :: es) X.env = (false, eval a X.env) :: starEach es X.env := by rfl) (hpl : (backTo pos (starEach es X.env)).any (·.1) = false := by rfl) : QE X W (.Call (.Name x p) (a :: es) [] pos) (eFn g m) :=
  pe_mono (pe_callTy hc hg hm hv ha hn hdb he hpl) fun σ H Q h => fn_read hr h

/-! ### what a value becomes where it is kept in something else -/
def esc : Od → En → Option (T × En)
  | .r t, e => some (t, e)
  | .b z, e => match z.tr with
    | some t => some (t, e)
    | none => none
  | .s i, e => match e[i]? with
    | some (.v t) => some (t, e)
    | some (.fz z) => some (z.t, e)
    | some (.ow l z) => (match z.tr with
      | some t => some (t, e.set i (if l then .fz z else .v t))
      | none => none)
    | _ => none
theorem esc_own {K : PySem.W.Frag} {σ : Sg} {e : En} {F H : Hp} {i : Nat} {l : Bool} {z : Bx} {t : T} {x : V} (R : Rel K e σ F H) (h1 : e[i]? = some (.ow l z)) (h2 : σ[i]? = some (some x)) (hz : z.tr = some t) :
    ∃ F', Rel K (e.set i (if l then .fz z else .v t)) σ F' H ∧ Step e (e.set i (if l then .fz z else .v t)) σ F H F' H ∧ Dp K F' x t ∧ ∀ a, F' a = F a ∨ x = .ref a := by
  obtain ⟨p, ex, hf, bx⟩ := R.at_ i _ _ h1 h2
  cases ex
  cases z with
  | d _ => cases hz
  | m _ => cases hz
  | n _ => cases hz
  | l ts =>
    cases hz
    obtain ⟨xs, hx, d⟩ := bx
    have hi : i < e.length := (List.getElem?_eq_some_iff.mp h1).1
    have ff : ∀ a u, F a = some u → upd F p (.lst xs) a = some u := fun a u h => by rw [upd_ne (ne_of_none h hf)]; exact h
    have dx : Dp K (upd F p (.lst xs)) (.ref p) (.list ts) := .lst (SqL.of upd_same) (dpAll_mono ff d)
    have get : ∀ (j : Nat) (s : Sl), (e.set i (if l then .fz (.l ts) else .v (.list ts)))[j]? = some s → (j = i ∧ s = (if l then .fz (.l ts) else .v (.list ts))) ∨ (j ≠ i ∧ e[j]? = some s) := fun j s h => by
      by_cases q : i = j
      · subst q; rw [List.getElem?_set_self hi] at h; cases h; exact .inl ⟨rfl, rfl⟩
      · rw [List.getElem?_set_ne q] at h; exact .inr ⟨fun z => q z.symm, h⟩
    have notow : ∀ l' b', (if l then (Sl.fz (.l ts)) else .v (.list ts)) ≠ .ow l' b' := fun l' b' q => by cases l <;> cases q
    have own : ∀ a, Own (e.set i (if l then .fz (.l ts) else .v (.list ts))) σ a → Own e σ a := fun a ⟨j, l', b', g1, g2⟩ => by
      rcases get j _ g1 with ⟨_, q⟩ | ⟨_, q⟩
      · exact absurd q.symm (notow _ _)
      · exact ⟨j, l', b', q, g2⟩
    refine ⟨upd F p (.lst xs), ⟨fun a u h => ?_, by rw [List.length_set]; exact R.len, fun j s u g1 g2 => ?_, fun j k l1 b1 l2 b2 q g1 g2 g3 g4 => ?_⟩, ⟨ff, fun a u h n => ⟨h, fun z => ?_⟩, fun a u h => ⟨u, h⟩, own, fun j hj => ?_, fun j l' b' h => ?_⟩, dx, fun a => ?_⟩
    · by_cases q : a = p
      · subst q; rw [upd_same] at h; cases h; exact hx
      · rw [upd_ne q] at h; exact R.sub _ _ h
    · rcases get j s g1 with ⟨rfl, rfl⟩ | ⟨nj, q⟩
      · rw [h2] at g2; cases g2
        cases l with
        | true => exact ⟨_, rfl, dx⟩
        | false => exact ⟨_, rfl, dx⟩
      · have z := R.at_ j s u q g2
        cases s with
        | un => trivial
        | v t => obtain ⟨y, ey, d⟩ := z; exact ⟨y, ey, dp_mono ff _ _ d⟩
        | fz b => obtain ⟨y, ey, d⟩ := z; exact ⟨y, ey, dp_mono ff _ _ d⟩
        | ow l' b =>
          obtain ⟨p', ey, hf', bx'⟩ := z
          subst ey
          have np : p' ≠ p := fun z => by subst z; exact nj (R.ne j i l' b l (.l ts) p' q h1 g2 h2)
          exact ⟨p', rfl, by rw [upd_ne np]; exact hf', bx_keep bx' ff fun _ h => h⟩
    · rcases get j _ g1 with ⟨_, q'⟩ | ⟨_, g1'⟩
      · exact absurd q'.symm (notow _ _)
      · rcases get k _ g2 with ⟨_, q'⟩ | ⟨_, g2'⟩
        · exact absurd q'.symm (notow _ _)
        · exact R.ne j k l1 b1 l2 b2 q g1' g2' g3 g4
    · have np : a ≠ p := fun z => n ⟨i, l, .l ts, h1, by rw [h2, z]⟩
      rw [upd_ne np]; exact z
    · obtain ⟨b', q⟩ := hj
      by_cases qi : i = j
      · subst qi
        rw [h1] at q
        rcases q with q | q
        · cases q; exact ⟨.l ts, .inr (by rw [List.getElem?_set_self hi]; rfl)⟩
        · cases q
      · exact ⟨b', by rw [List.getElem?_set_ne qi]; exact q⟩
    · rcases get j _ h with ⟨_, q⟩ | ⟨_, q⟩
      · exact absurd q.symm (notow _ _)
      · exact ⟨b', q⟩
    · by_cases q : a = p
      · exact .inr (by rw [q])
      · exact .inl (upd_ne q)
theorem ods_grow {K : PySem.W.Frag} {σ : Sg} {Hs F F' H : Hp} (ff : ∀ a o, F a = some o → F' a = some o) : ∀ {rs : List Od} {xs : List V}, OdsR K σ Hs F H rs xs → (∀ (p : Addr) (j : Nat) (z : Bx), rs[j]? = some (.b z) → xs[j]? = some (.ref p) → Hs p = none → F' p = F p) → OdsR K σ Hs F' H rs xs
  | _, _, .nil, _ => .nil
  | _, _, .cons (r := r) a b n, k => by
    refine .cons ?_ (ods_grow ff b fun p j z h1 h2 => k p (j + 1) z (by simpa using h1) (by simpa using h2)) n
    cases r with
    | r t => exact dp_mono ff _ _ a
    | s i => exact a
    | b z =>
      obtain ⟨p, rfl, hn, hf, bx⟩ := a
      exact ⟨p, rfl, hn, by rw [k p 0 z rfl rfl hn]; exact hf, bx_keep bx ff fun _ h => h⟩
theorem esc_ok {K : PySem.W.Frag} {σ : Sg} {e0 e e' : En} {F0 H0 F H : Hp} {x : V} {r : Od} {t : T} (R0 : Rel K e0 σ F0 H0) (R : Rel K e σ F H) (S : Step e0 e σ F0 H0 F H) (O : OdR K σ H0 F H x r) (h : esc r e = some (t, e')) :
    ∃ F', Rel K e' σ F' H ∧ Step e0 e' σ F0 H0 F' H ∧ Dp K F' x t ∧ (∀ a o, F a = some o → F' a = some o) ∧ ∀ a, F' a = F a ∨ (x = .ref a ∧ ((∃ z, r = .b z) ∨ Own e σ a)) := by
  cases r with
  | r u => cases h; exact ⟨F, R, S, O, fun _ _ h => h, fun a => .inl rfl⟩
  | b z =>
    obtain ⟨p, rfl, hn, hf, bx⟩ := O
    simp only [esc] at h
    cases q : z.tr with
    | none => rw [q] at h; cases h
    | some u =>
      rw [q] at h; cases h
      cases z with
      | d _ => cases q
      | m _ => cases q
      | n _ => cases q
      | l ts =>
        cases q
        obtain ⟨xs, hx, d⟩ := bx
        have ff : ∀ a u, F a = some u → upd F p (.lst xs) a = some u := fun a u h => by rw [upd_ne (ne_of_none h hf)]; exact h
        refine ⟨upd F p (.lst xs), frz_rel R hx (fresh_not_own R0 S hn) hf, frz_step S hn hf, .lst (SqL.of upd_same) (dpAll_mono ff d), ff, fun a => ?_⟩
        by_cases q : a = p
        · subst q; exact .inr ⟨rfl, .inl ⟨_, rfl⟩⟩
        · exact .inl (upd_ne q)
  | s i =>
    have O : σ[i]? = some (some x) := O
    simp only [esc] at h
    cases q : e[i]? with
    | none => rw [q] at h; cases h
    | some s =>
      rw [q] at h
      have z := R.at_ i s _ q O
      cases s with
      | un => cases h
      | v u => cases h; obtain ⟨y, ey, d⟩ := z; cases ey; exact ⟨F, R, S, d, fun _ _ h => h, fun a => .inl rfl⟩
      | fz u => cases h; obtain ⟨y, ey, d⟩ := z; cases ey; exact ⟨F, R, S, d, fun _ _ h => h, fun a => .inl rfl⟩
      | ow l b =>
        cases q2 : b.tr with
        | none => simp only [q2] at h; cases h
        | some u =>
          simp only [q2] at h
          cases h
          obtain ⟨F', R', S', d', only⟩ := esc_own R q O q2
          exact ⟨F', R', S.trans S', d', S'.ff, fun a => (only a).imp id fun ea => ⟨ea, .inr ⟨i, l, b, q, by rw [O, ea]⟩⟩⟩
def escs : List Od → En → Option (List T × En)
  | [], e => some ([], e)
  | r :: rs, e => match esc r e with
    | some (t, e1) => (match escs rs e1 with
      | some (ts, e2) => some (t :: ts, e2)
      | none => none)
    | none => none
theorem escs_ok {K : PySem.W.Frag} {σ : Sg} {e0 : En} {F0 H0 H : Hp} (R0 : Rel K e0 σ F0 H0) : ∀ {rs : List Od} {xs : List V} {ts : List T} {e e' : En} {F : Hp}, Rel K e σ F H → Step e0 e σ F0 H0 F H → OdsR K σ H0 F H rs xs → escs rs e = some (ts, e') →
    ∃ F', Rel K e' σ F' H ∧ Step e0 e' σ F0 H0 F' H ∧ DpAll K F' xs ts ∧ ∀ a o, F a = some o → F' a = some o
  | [], _, _, _, _, F, R, S, .nil, h => by cases h; exact ⟨F, R, S, .nil, fun _ _ h => h⟩
  | r :: rs, _, _, e, _, F, R, S, .cons (x := x) (xs := xs) a b n, h => by
    unfold escs at h
    cases q : esc r e with
    | none => rw [q] at h; cases h
    | some te =>
      obtain ⟨t, e1⟩ := te
      simp only [q] at h
      cases q2 : escs rs e1 with
      | none => rw [q2] at h; cases h
      | some te2 =>
        obtain ⟨ts, e2⟩ := te2
        simp only [q2] at h
        cases h
        obtain ⟨F1, R1, S1, d1, ff1, only⟩ := esc_ok R0 R S a q
        have b1 : OdsR K σ H0 F1 H rs xs := ods_grow ff1 b fun p j z hj hx hn => by
          rcases only p with e | ⟨ex, e | e⟩
          · exact e
          · obtain ⟨z', e'⟩ := e
            exact absurd hx (n z' p e' ex j z hj)
          · exact absurd (S.own _ e) (fun w => by obtain ⟨_, o, q⟩ := R0.owned w; rw [hn] at q; cases q)
        obtain ⟨F2, R2, S2, d2, ff2⟩ := escs_ok R0 R1 S1 b1 q2
        exact ⟨F2, R2, S2, .cons (dp_mono ff2 _ _ d1) d2, fun a o h => ff2 _ _ (ff1 _ _ h)⟩
end
end Ev

set_option Elab.async false
set_option linter.all false
set_option maxRecDepth 100000
namespace Ev
open PySem PySem.Spec PyProof.Rows L2
section
variable {X : Cx} {W : WX} {a b c : Expr} {ma mb mc : SemE} {pos : Pos}
/-! ### displays -/
def eDisp (k : List T → Od) (m : SemA) : SemE := fun e => (m e).bind fun rs e1 => match escs rs e1 with
  | some (ts, e2) => if ts.length ≤ sizeLine then .ok (k ts) e2 else .bad
  | none => .bad
def eTup (m : SemA) : SemE := eDisp (fun ts => .r (.tuple ts)) m
def eLst (m : SemA) : SemE := eDisp (fun ts => .b (.l ts)) m
theorem qtup {es : List Expr} {k : Nat} {m : SemA} (h : QA X W es m) : QE X W (.Tuple es k pos) (eTup m) := by
  refine pe_mono (pe_tup h) fun σ H Q h => ?_
  obtain ⟨e, F, R, h⟩ := h
  refine tX_imp (tX_bind (rel := fun σ Hs F H xs rs => OdsR X.K σ Hs F H rs xs) R .refl h) fun xs H1 ⟨rs, e1, F1, R1, S1, O1, h1⟩ => ?_
  cases q : escs rs e1 with
  | none => simp only [q] at h1; exact h1.elim
  | some te =>
    obtain ⟨ts, e2⟩ := te
    simp only [q] at h1
    obtain ⟨F2, R2, S2, d2, _⟩ := escs_ok R R1 S1 O1 q
    by_cases hl : ts.length ≤ sizeLine
    · rw [if_pos hl] at h1
      refine ⟨by rw [dpAll_len d2]; exact hl, fun p hp => ?_⟩
      exact (fin_of R2 S2 h1 True.intro).2 ts p xs rfl hp d2
    · rw [if_neg hl] at h1; exact h1.elim
theorem qlst {es : List Expr} {m : SemA} (h : QA X W es m) : QE X W (.List es pos) (eLst m) := by
  refine pe_mono (pe_lst h) fun σ H Q h => ?_
  obtain ⟨e, F, R, h⟩ := h
  refine tX_imp (tX_bind (rel := fun σ Hs F H xs rs => OdsR X.K σ Hs F H rs xs) R .refl h) fun xs H1 ⟨rs, e1, F1, R1, S1, O1, h1⟩ => ?_
  cases q : escs rs e1 with
  | none => simp only [q] at h1; exact h1.elim
  | some te =>
    obtain ⟨ts, e2⟩ := te
    simp only [q] at h1
    obtain ⟨F2, R2, S2, d2, _⟩ := escs_ok R R1 S1 O1 q
    by_cases hl : ts.length ≤ sizeLine
    · rw [if_pos hl] at h1
      refine ⟨by rw [dpAll_len d2]; exact hl, fun p hp => ?_⟩
      exact (fin_of R2 S2 h1 True.intro : Fin X.K F2 H1 Q (.b (.l ts))) p xs hp d2
    · rw [if_neg hl] at h1; exact h1.elim

/-! ### a call of a def -/
abbrev FSem := List Sl → Out Od
/-- what a def is asked to do -/
def spF (K : PySem.W.Frag) (n : Nat) (m : FSem) : Sp := fun vs H Q E => vs.length = n ∧ tX K (fun cls d _ H' => E cls d H') (fun σ => OdR K σ) m (vs.map some) H Q
def toSl (e : En) : Od → Option Sl
  | .r t => some (.v t)
  | .b z => some (.ow true z)
  | .s i => match e[i]? with
    | some (.v t) => some (.v t)
    | some (.fz z) => some (.v z.t)
    | some (.ow _ z) => some (.ow true z)
    | _ => none
def toSls (e : En) : List Od → Option (List Sl)
  | [] => some []
  | r :: rs => match toSl e r, toSls e rs with
    | some s, some ss => some (s :: ss)
    | _, _ => none
def sIdx : List Od → List Nat
  | [] => []
  | .s i :: rs => i :: sIdx rs
  | _ :: rs => sIdx rs
def bk (l : Bool) : Sl → Sl
  | .ow _ z => .ow l z
  | .fz z => if l then .fz z else .v z.t
  | s => s
/-- what the callee did with what names hold -/
def wb : List Od → List Sl → En → En
  | .s i :: rs, s :: ss, e => wb rs ss (match e[i]? with
    | some (.ow l _) => e.set i (bk l s)
    | _ => e)
  | _ :: rs, _ :: ss, e => wb rs ss e
  | _, _, e => e
theorem wb_len : ∀ (rs : List Od) (ss : List Sl) (e : En), (wb rs ss e).length = e.length
  | [], _, _ => rfl
  | .s i :: rs, [], _ => rfl
  | .r _ :: rs, [], _ => rfl
  | .b _ :: rs, [], _ => rfl
  | .r _ :: rs, _ :: ss, e => wb_len rs ss e
  | .b _ :: rs, _ :: ss, e => wb_len rs ss e
  | .s i :: rs, s :: ss, e => by
    unfold wb
    rw [wb_len rs ss]
    split <;> simp
theorem wb_out {k : Nat} : ∀ (rs : List Od) (ss : List Sl) (e : En), (∀ l z, e[k]? = some (.ow l z) → Od.s k ∉ rs) → (wb rs ss e)[k]? = e[k]?
  | [], _, _, _ => rfl
  | .s i :: rs, [], _, _ => rfl
  | .r _ :: rs, [], _, _ => rfl
  | .b _ :: rs, [], _, _ => rfl
  | .r _ :: rs, _ :: ss, e, h => wb_out rs ss e fun l z q m => h l z q (List.mem_cons_of_mem _ m)
  | .b _ :: rs, _ :: ss, e, h => wb_out rs ss e fun l z q m => h l z q (List.mem_cons_of_mem _ m)
  | .s i :: rs, s :: ss, e, h => by
    unfold wb
    by_cases q : i = k
    · subst q
      have n : ∀ l z, e[i]? ≠ some (.ow l z) := fun l z q => h l z q List.mem_cons_self
      have e1 : (match e[i]? with
        | some (.ow l _) => e.set i (bk l s)
        | _ => e) = e := by
        cases w : e[i]? with
        | none => rfl
        | some y =>
          cases y with
          | ow l z => exact absurd w (n l z)
          | un => rfl
          | v _ => rfl
          | fz _ => rfl
      rw [e1]
      exact wb_out rs ss e fun l z q => absurd q (n l z)
    · have e1 : (match e[i]? with
        | some (.ow l _) => e.set i (bk l s)
        | _ => e)[k]? = e[k]? := by
        split
        · rw [List.getElem?_set_ne q]
        · rfl
      rw [wb_out rs ss _ fun l z w m => h l z (by rw [e1] at w; exact w) (List.mem_cons_of_mem _ m)]
      exact e1
theorem mem_sIdx {k : Nat} : ∀ {rs : List Od}, Od.s k ∈ rs → k ∈ sIdx rs
  | [], h => by cases h
  | .s i :: rs, h => by
    rcases List.mem_cons.mp h with h | h
    · cases h; exact List.mem_cons_self
    · exact List.mem_cons_of_mem _ (mem_sIdx h)
  | .r _ :: rs, h => by
    rcases List.mem_cons.mp h with h | h
    · cases h
    · exact mem_sIdx (rs := rs) h
  | .b _ :: rs, h => by
    rcases List.mem_cons.mp h with h | h
    · cases h
    · exact mem_sIdx (rs := rs) h
theorem wb_in {k : Nat} {l : Bool} {z : Bx} : ∀ {rs : List Od} {ss : List Sl} {e : En} {j : Nat} {s : Sl}, (sIdx rs).Nodup → rs[j]? = some (.s k) → ss[j]? = some s → e[k]? = some (.ow l z) → (wb rs ss e)[k]? = some (bk l s)
  | [], _, _, _, _, _, h, _, _ => by simp at h
  | _ :: _, [], _, _, _, _, _, h, _ => by simp at h
  | .s i :: rs, s' :: ss, e, 0, s, nd, h1, h2, h3 => by
    simp at h1 h2
    subst h1 h2
    unfold wb
    rw [h3]
    have hk : i < e.length := (List.getElem?_eq_some_iff.mp h3).1
    rw [wb_out]
    · exact List.getElem?_set_self hk
    · intro _ _ _ m
      exact (List.nodup_cons.mp nd).1 (mem_sIdx m)
  | .r _ :: rs, s' :: ss, e, 0, s, nd, h1, h2, h3 => by simp at h1
  | .b _ :: rs, s' :: ss, e, 0, s, nd, h1, h2, h3 => by simp at h1
  | .r _ :: rs, s' :: ss, e, j + 1, s, nd, h1, h2, h3 => wb_in (rs := rs) (j := j) nd (by simpa using h1) (by simpa using h2) h3
  | .b _ :: rs, s' :: ss, e, j + 1, s, nd, h1, h2, h3 => wb_in (rs := rs) (j := j) nd (by simpa using h1) (by simpa using h2) h3
  | .s i :: rs, s' :: ss, e, j + 1, s, nd, h1, h2, h3 => by
    unfold wb
    have hm : Od.s k ∈ rs := List.mem_of_getElem? (i := j) (by simpa using h1)
    have hik : i ≠ k := fun q => by subst q; exact (List.nodup_cons.mp nd).1 (mem_sIdx hm)
    refine wb_in (z := z) (rs := rs) (ss := ss) (j := j) (List.nodup_cons.mp nd).2 (by simpa using h1) (by simpa using h2) ?_
    split
    · rw [List.getElem?_set_ne hik]; exact h3
    · exact h3
/-- a call: what is handed over, what comes back -/
def eCallR (m : FSem) (rs : List Od) (e1 : En) : Out Od := match toSls e1 rs with
  | some ss => if (sIdx rs).Nodup then (match m ss with
    | .ok (.s _) _ => .bad
    | .ok r ss' => .ok r (wb rs ss' e1)
    | .exc c t ss' => .exc c t (wb rs ss' e1)
    | .bad => .bad) else .bad
  | none => .bad
def eCall (n : Nat) (m : FSem) (ma : SemA) : SemE := fun e => (ma e).bind fun rs e1 => if rs.length = n then eCallR m rs e1 else .bad
theorem toSls_get {e : En} : ∀ {rs : List Od} {ss : List Sl}, toSls e rs = some ss → rs.length = ss.length ∧ ∀ (j : Nat) (s : Sl), ss[j]? = some s → ∃ r, rs[j]? = some r ∧ toSl e r = some s
  | [], _, h => by cases h; exact ⟨rfl, fun j s h => by simp at h⟩
  | r :: rs, _, h => by
    unfold toSls at h
    cases q : toSl e r with
    | none => rw [q] at h; cases h
    | some s =>
      cases q2 : toSls e rs with
      | none => rw [q, q2] at h; cases h
      | some ss =>
        rw [q, q2] at h; cases h
        obtain ⟨l, g⟩ := toSls_get q2
        refine ⟨by simp [l], fun j s' hj => ?_⟩
        cases j with
        | zero => simp at hj; subst hj; exact ⟨r, rfl, q⟩
        | succ j => simpa using g j s' (by simpa using hj)
theorem ods_len {K : PySem.W.Frag} {σ : Sg} {Hs F H : Hp} : ∀ {rs : List Od} {xs : List V}, OdsR K σ Hs F H rs xs → rs.length = xs.length
  | _, _, .nil => rfl
  | _, _, .cons a b _ => by simp [ods_len b]
theorem ods_get {K : PySem.W.Frag} {σ : Sg} {Hs F H : Hp} : ∀ {rs : List Od} {xs : List V} {j : Nat} {r : Od}, OdsR K σ Hs F H rs xs → rs[j]? = some r → ∃ x, xs[j]? = some x ∧ OdR K σ Hs F H x r
  | _, _, _, _, .nil, h => by simp at h
  | _, _, 0, _, .cons a b _, h => by simp at h; subst h; exact ⟨_, rfl, a⟩
  | _, _, j + 1, _, .cons a b _, h => by simpa using ods_get b (by simpa using h)
theorem ods_ne {K : PySem.W.Frag} {σ : Sg} {Hs F H : Hp} {p : Addr} {z z' : Bx} : ∀ {rs : List Od} {xs : List V} {i j : Nat}, OdsR K σ Hs F H rs xs → rs[i]? = some (.b z) → rs[j]? = some (.b z') → xs[i]? = some (.ref p) → xs[j]? = some (.ref p) → i = j
  | _, _, _, _, .nil, h, _, _, _ => by simp at h
  | _, _, 0, 0, .cons a b n, _, _, _, _ => rfl
  | _, _, 0, j + 1, .cons a b n, h1, h2, h3, h4 => by
    simp at h1 h3
    exact absurd (by simpa using h4) (n z p h1 h3 j z' (by simpa using h2))
  | _, _, i + 1, 0, .cons a b n, h1, h2, h3, h4 => by
    simp at h2 h4
    exact absurd (by simpa using h3) (n z' p h2 h4 i z (by simpa using h1))
  | _, _, i + 1, j + 1, .cons a b n, h1, h2, h3, h4 => by rw [ods_ne (i := i) (j := j) b (by simpa using h1) (by simpa using h2) (by simpa using h3) (by simpa using h4)]
theorem s_inj {k : Nat} : ∀ {rs : List Od} {i j : Nat}, (sIdx rs).Nodup → rs[i]? = some (.s k) → rs[j]? = some (.s k) → i = j
  | [], _, _, _, h, _ => by simp at h
  | _ :: _, 0, 0, _, _, _ => rfl
  | .s m :: rs, 0, j + 1, nd, h1, h2 => by
    simp at h1; subst h1
    exact absurd (mem_sIdx (List.mem_of_getElem? (i := j) (by simpa using h2))) (List.nodup_cons.mp nd).1
  | .s m :: rs, i + 1, 0, nd, h1, h2 => by
    simp at h2; subst h2
    exact absurd (mem_sIdx (List.mem_of_getElem? (i := i) (by simpa using h1))) (List.nodup_cons.mp nd).1
  | .r _ :: rs, 0, j + 1, nd, h1, h2 => by simp at h1
  | .b _ :: rs, 0, j + 1, nd, h1, h2 => by simp at h1
  | .r _ :: rs, i + 1, 0, nd, h1, h2 => by simp at h2
  | .b _ :: rs, i + 1, 0, nd, h1, h2 => by simp at h2
  | .s m :: rs, i + 1, j + 1, nd, h1, h2 => by rw [s_inj (rs := rs) (i := i) (j := j) (List.nodup_cons.mp nd).2 (by simpa using h1) (by simpa using h2)]
  | .r _ :: rs, i + 1, j + 1, nd, h1, h2 => by rw [s_inj (rs := rs) (i := i) (j := j) nd (by simpa using h1) (by simpa using h2)]
  | .b _ :: rs, i + 1, j + 1, nd, h1, h2 => by rw [s_inj (rs := rs) (i := i) (j := j) nd (by simpa using h1) (by simpa using h2)]
theorem map_some_get {xs : List V} {j : Nat} {o : Option V} (h : (xs.map some)[j]? = some o) : ∃ x, o = some x ∧ xs[j]? = some x := by
  rw [List.getElem?_map] at h
  cases q : xs[j]? with
  | none => rw [q] at h; cases h
  | some x => rw [q] at h; cases h; exact ⟨x, rfl, rfl⟩
/-- what is handed over, as the callee sees it -/
theorem args_rel {K : PySem.W.Frag} {σ : Sg} {e0 e : En} {F0 H0 F H : Hp} {rs : List Od} {xs : List V} {ss : List Sl} (R0 : Rel K e0 σ F0 H0) (R : Rel K e σ F H) (S : Step e0 e σ F0 H0 F H) (O : OdsR K σ H0 F H rs xs) (hs : toSls e rs = some ss) (nd : (sIdx rs).Nodup) :
    Rel K ss (xs.map some) F H ∧ ∀ p, Own ss (xs.map some) p → Own e σ p ∨ H0 p = none := by
  obtain ⟨hl, g⟩ := toSls_get hs
  have cases_ow : ∀ (j : Nat) (l : Bool) (z : Bx) (p : Addr), ss[j]? = some (.ow l z) → (xs.map some)[j]? = some (some (.ref p)) → xs[j]? = some (.ref p) ∧ ((∃ z', rs[j]? = some (.b z') ∧ H0 p = none) ∨ ∃ i l' z', rs[j]? = some (.s i) ∧ e[i]? = some (.ow l' z') ∧ σ[i]? = some (some (.ref p))) := by
    intro j l z p h1 h2
    obtain ⟨r, hr, ht⟩ := g j _ h1
    obtain ⟨x, ex, hx⟩ := map_some_get h2
    cases ex
    refine ⟨hx, ?_⟩
    obtain ⟨x', hx', o⟩ := ods_get O hr
    rw [hx] at hx'; cases hx'
    cases r with
    | r t => cases ht
    | b z' =>
      obtain ⟨p', ep, hn, _⟩ := o
      cases ep
      exact .inl ⟨z', hr, hn⟩
    | s i =>
      simp only [toSl] at ht
      cases q : e[i]? with
      | none => rw [q] at ht; cases ht
      | some y =>
        rw [q] at ht
        cases y with
        | un => cases ht
        | v _ => cases ht
        | fz _ => cases ht
        | ow l' z' => exact .inr ⟨i, l', z', hr, q, o⟩
  refine ⟨⟨R.sub, by rw [List.length_map, ← hl, ods_len O], fun j s o h1 h2 => ?_, fun i j l b l' b' p h1 h2 h3 h4 => ?_⟩, fun p ⟨j, l, z, h1, h2⟩ => ?_⟩
  · obtain ⟨r, hr, ht⟩ := g j _ h1
    obtain ⟨x, ex, hx⟩ := map_some_get h2
    cases ex
    obtain ⟨x', hx', od⟩ := ods_get O hr
    rw [hx] at hx'; cases hx'
    cases r with
    | r t => cases ht; exact ⟨x, rfl, od⟩
    | b z =>
      cases ht
      obtain ⟨p, ep, _, hf, bx⟩ := od
      cases ep
      exact ⟨p, rfl, hf, bx⟩
    | s i =>
      simp only [toSl] at ht
      have od : σ[i]? = some (some x) := od
      cases q : e[i]? with
      | none => rw [q] at ht; cases ht
      | some y =>
        rw [q] at ht
        have z := R.at_ i y _ q od
        cases y with
        | un => cases ht
        | v _ => cases ht; exact z
        | fz _ => cases ht; exact z
        | ow l' z' => cases ht; exact z
  · obtain ⟨a1, c1⟩ := cases_ow i l b p h1 h3
    obtain ⟨a2, c2⟩ := cases_ow j l' b' p h2 h4
    rcases c1 with ⟨z1, r1, n1⟩ | ⟨i1, l1, z1, r1, e1, s1⟩
    · rcases c2 with ⟨z2, r2, n2⟩ | ⟨i2, l2, z2, r2, e2, s2⟩
      · exact ods_ne O r1 r2 a1 a2
      · exact absurd ⟨i2, l2, z2, e2, s2⟩ (fresh_not_own R0 S n1)
    · rcases c2 with ⟨z2, r2, n2⟩ | ⟨i2, l2, z2, r2, e2, s2⟩
      · exact absurd ⟨i1, l1, z1, e1, s1⟩ (fresh_not_own R0 S n2)
      · have q := R.ne i1 i2 _ _ _ _ p e1 e2 s1 s2
        subst q
        exact s_inj nd r1 r2
  · obtain ⟨a1, c1⟩ := cases_ow j l z p h1 h2
    rcases c1 with ⟨z1, r1, n1⟩ | ⟨i1, l1, z1, r1, e1, s1⟩
    · exact .inr n1
    · exact .inl ⟨i1, l1, z1, e1, s1⟩
/-- behind a call -/
theorem back_rel {K : PySem.W.Frag} {σ : Sg} {e0 e : En} {F0 H0 F H F' H' : Hp} {rs : List Od} {xs : List V} {ss ss' : List Sl} (R0 : Rel K e0 σ F0 H0) (R : Rel K e σ F H) (S : Step e0 e σ F0 H0 F H) (O : OdsR K σ H0 F H rs xs) (hs : toSls e rs = some ss) (nd : (sIdx rs).Nodup)
    (R' : Rel K ss' (xs.map some) F' H') (S' : Step ss ss' (xs.map some) F H F' H') : Rel K (wb rs ss' e) σ F' H' ∧ Step e0 (wb rs ss' e) σ F0 H0 F' H' := by
  obtain ⟨RA, ow⟩ := args_rel R0 R S O hs nd
  obtain ⟨hl, g⟩ := toSls_get hs
  have hl' : ss'.length = rs.length := by rw [R'.len, List.length_map, ods_len O]
  -- each name: as it was, or as the callee left it
  have at2 : ∀ (k : Nat) (s : Sl), (wb rs ss' e)[k]? = some s → (e[k]? = some s ∧ ∀ l z, s = Sl.ow l z → Od.s k ∉ rs) ∨ ∃ (j : Nat) (l : Bool) (z : Bx) (s' : Sl) (x : V), rs[j]? = some (Od.s k) ∧ ss'[j]? = some s' ∧ e[k]? = some (Sl.ow l z) ∧ s = bk l s' ∧ ss[j]? = some (Sl.ow true z) ∧ (∃ z', s' = Sl.ow true z' ∨ s' = Sl.fz z') ∧ xs[j]? = some x ∧ σ[k]? = some (some x) := by
    intro k s h
    by_cases c : ∃ l z, e[k]? = some (.ow l z) ∧ Od.s k ∈ rs
    · obtain ⟨l, z, c1, c2⟩ := c
      obtain ⟨j, hj⟩ := List.getElem?_of_mem c2
      have hjl : j < ss'.length := by rw [hl']; exact (List.getElem?_eq_some_iff.mp hj).1
      have hj2 : ss'[j]? = some ss'[j] := List.getElem?_eq_getElem hjl
      rw [wb_in nd hj hj2 c1] at h
      cases h
      have hss : ss[j]? = some (.ow true z) := by
        have hjl2 : j < ss.length := by rw [← hl]; exact (List.getElem?_eq_some_iff.mp hj).1
        obtain ⟨r, hr, ht⟩ := g j _ (List.getElem?_eq_getElem hjl2)
        rw [hj] at hr; cases hr
        simp only [toSl, c1] at ht
        cases ht'' : ss[j]
        all_goals rw [ht''] at ht
        all_goals cases ht
        rw [List.getElem?_eq_getElem hjl2, ht'']
      obtain ⟨b', hb⟩ := S'.lt j ⟨z, .inl hss⟩
      obtain ⟨x, hx, od⟩ := ods_get O hj
      refine .inr ⟨j, l, z, _, x, hj, hj2, c1, rfl, hss, ⟨b', ?_⟩, hx, od⟩
      rw [hj2] at hb
      rcases hb with hb | hb
      · exact .inl (Option.some.inj hb)
      · exact .inr (Option.some.inj hb)
    · rw [wb_out rs ss' e fun l z q m => c ⟨l, z, q, m⟩] at h
      exact .inl ⟨h, fun l z q m => c ⟨l, z, by rw [h, q], m⟩⟩
  have own2 : ∀ (k : Nat) (l : Bool) (b : Bx), (wb rs ss' e)[k]? = some (Sl.ow l b) → ∃ l' b', e[k]? = some (Sl.ow l' b') := fun k l b h => by
    rcases at2 k _ h with ⟨h, _⟩ | ⟨j, l1, z, s', x, _, _, h, _⟩
    · exact ⟨l, b, h⟩
    · exact ⟨l1, z, h⟩
  have own : ∀ p, Own (wb rs ss' e) σ p → Own e σ p := fun p ⟨k, l, b, h1, h2⟩ => by
    obtain ⟨l', b', h⟩ := own2 k l b h1
    exact ⟨k, l', b', h, h2⟩
  refine ⟨⟨R'.sub, by rw [wb_len]; exact R.len, fun k s o h1 h2 => ?_, fun i j l b l' b' p h1 h2 h3 h4 => ?_⟩, ⟨fun a o h => S'.ff _ _ (S.ff _ _ h), fun a o h n => ?_, fun a o h => ?_, fun p h => S.own _ (own p h), fun i hi => ?_, fun i l b h => ?_⟩⟩
  · rcases at2 k s h1 with ⟨h, no⟩ | ⟨j, l, z, s', x, hr, hs', he, es, hss, lent, hx, hσ⟩
    · have q := R.at_ k s o h h2
      cases s with
      | un => trivial
      | v t => obtain ⟨y, ey, d⟩ := q; exact ⟨y, ey, dp_mono S'.ff _ _ d⟩
      | fz b => obtain ⟨y, ey, d⟩ := q; exact ⟨y, ey, dp_mono S'.ff _ _ d⟩
      | ow l b =>
        obtain ⟨p, ep, hf, bx⟩ := q
        subst ep
        obtain ⟨u, hu⟩ := bx_some bx
        have na : ¬ Own ss (xs.map some) p := fun ⟨j, l1, z1, g1, g2⟩ => by
          obtain ⟨r, hr, ht⟩ := g j _ g1
          obtain ⟨x, ex, hx⟩ := map_some_get g2
          cases ex
          obtain ⟨x', hx', od⟩ := ods_get O hr
          rw [hx] at hx'; cases hx'
          cases r with
          | r t => cases ht
          | b z' =>
            obtain ⟨p', ep, hn, _⟩ := od
            cases ep
            exact fresh_not_own R0 S hn ⟨k, l, b, h, h2⟩
          | s i =>
            simp only [toSl] at ht
            cases q : e[i]? with
            | none => rw [q] at ht; cases ht
            | some y =>
              rw [q] at ht
              cases y with
              | un => cases ht
              | v _ => cases ht
              | fz _ => cases ht
              | ow l' z' =>
                have ik := R.ne i k _ _ _ _ p q h od h2
                subst ik
                exact no l b rfl (List.mem_of_getElem? hr)
        obtain ⟨k1, k2⟩ := S'.keep p u hu na
        exact ⟨p, rfl, k2 hf, bx_keep bx S'.ff fun o' h' => by rw [hu] at h'; cases h'; exact k1⟩
    · rw [hσ] at h2; cases h2
      have q := R'.at_ j s' (some x) hs' (by rw [List.getElem?_map, hx]; rfl)
      subst es
      obtain ⟨z', lent⟩ := lent
      rcases lent with e' | e'
      · subst e'; exact q
      · subst e'
        cases l with
        | true => exact q
        | false => exact q
  · obtain ⟨l1, b1, q1⟩ := own2 i _ _ h1
    obtain ⟨l2, b2, q2⟩ := own2 j _ _ h2
    exact R.ne i j _ _ _ _ p q1 q2 h3 h4
  · obtain ⟨k1, k2⟩ := S.keep a o h n
    have na : ¬ Own ss (xs.map some) a := fun z => by
      rcases ow a z with z | z
      · exact n (S.own _ z)
      · rw [h] at z; cases z
    obtain ⟨k3, k4⟩ := S'.keep a o k1 na
    exact ⟨k3, fun z => k4 (k2 z)⟩
  · obtain ⟨o1, h1⟩ := S.dom a o h
    exact S'.dom a o1 h1
  · obtain ⟨b, hb⟩ := S.lt i hi
    rcases hb with hb | hb
    · by_cases m : Od.s i ∈ rs
      · obtain ⟨j, hj⟩ := List.getElem?_of_mem m
        have hjl : j < ss'.length := by rw [hl']; exact (List.getElem?_eq_some_iff.mp hj).1
        have w := wb_in nd hj (List.getElem?_eq_getElem hjl) hb
        rcases at2 i _ w with ⟨h, no⟩ | ⟨j', l, z, s', x, hr, hs', he, es, hss, ⟨z', lent⟩, hx, hσ⟩
        · exact ⟨b, .inl (by rw [wb_in nd hj (List.getElem?_eq_getElem hjl) hb] at w ⊢; rw [← h, hb])⟩
        · rw [hb] at he; cases he
          rcases lent with e' | e'
          · subst e'; exact ⟨z', .inl (by rw [w, es]; rfl)⟩
          · subst e'; exact ⟨z', .inr (by rw [w, es]; rfl)⟩
      · exact ⟨b, .inl (by rw [wb_out rs ss' e fun _ _ _ m' => m m']; exact hb)⟩
    · exact ⟨b, .inr (by rw [wb_out rs ss' e fun l z q _ => by rw [hb] at q; cases q]; exact hb)⟩
  · rcases at2 i _ h with ⟨q, _⟩ | ⟨j, l1, z, s', x, _, _, q, es, _, ⟨z', lent⟩, _⟩
    · exact S.sk i l b q
    · rcases lent with e' | e'
      · subst e'; cases es; exact S.sk i l z q
      · subst e'
        cases l1 with
        | true => cases es
        | false => cases es
theorem call_read {n : Nat} {m : FSem} {ma : SemA} {K : PySem.W.Frag} {σ : Sg} {H : Hp} {Q : VK} (h : tE K W (eCall n m ma) σ H Q) : tA K W ma σ H fun vs H1 => spF K n m vs H1 Q (WE W σ) := by
  obtain ⟨e, F, R, h⟩ := h
  refine tX_imp (tX_bind (rel := fun σ Hs F H xs rs => OdsR K σ Hs F H rs xs) R .refl h) fun xs H1 ⟨rs, e1, F1, R1, S1, O1, h1⟩ => ?_
  by_cases hl : rs.length = n
  · rw [if_pos hl] at h1
    refine ⟨by rw [← ods_len O1]; exact hl, ?_⟩
    unfold eCallR at h1
    cases q : toSls e1 rs with
    | none => rw [q] at h1; exact h1.elim
    | some ss =>
      simp only [q] at h1
      by_cases nd : (sIdx rs).Nodup
      · rw [if_pos nd] at h1
        obtain ⟨RA, _⟩ := args_rel R R1 S1 O1 q nd
        refine ⟨ss, F1, RA, ?_⟩
        cases w : m ss with
        | bad => rw [w] at h1; exact h1
        | exc c t ss' =>
          rw [w] at h1
          exact fun F' H' cls d R' S' x => let ⟨a, b⟩ := back_rel R R1 S1 O1 q nd R' S'; h1 F' H' cls d a b x
        | ok r ss' =>
          rw [w] at h1
          intro x F' H' R' S' o
          obtain ⟨a, b⟩ := back_rel R R1 S1 O1 q nd R' S'
          cases r with
          | s i => exact h1.elim
          | r t => exact h1 x F' H' a b o
          | b z => obtain ⟨p, ep, hn, hf, bx⟩ := o; exact h1 x F' H' a b ⟨p, ep, step_none S1 hn, hf, bx⟩
      · rw [if_neg nd] at h1; exact h1.elim
  · rw [if_neg hl] at h1; exact h1.elim
theorem qcall {CX : CXT} {k : Nat} {f : Addr} {fd : FuncData} {ps : List Str} {m : FSem} {ma : SemA} {x : Str} {p : Pos} {es : List Expr} {n : Nat} (Fn : FnOk X.prog X.w X.K X.mg X.base CX k f fd ps (spF X.K n m)) (hr : Room k X.A) (hg : Gl X x) (hm : X.mg x = some (.ref f)) (hk : PySem.W.keepIn X.K (.ref f) = true)
    (hb : Binds X.K fd ps []) (hx : ∀ σ, PassesAt CX X σ (WE W σ)) (ha : QA X W (a :: es) ma) (hdb : (x == ("__debug__" : Str)) = false := by decide) (he : starEach (a :: es) X.env = (false, eval a X.env) :: starEach es X.env := by rfl)
    (hpl : (backTo pos (starEach es X.env)).any (·.1) = false := by rfl) : QE X W (.Call (.Name x p) (a :: es) [] pos) (eCall n m ma) :=
  pe_mono (pe_callS (E := fun σ => WE W σ) Fn hr hg hm hk hb hx ha hdb he hpl) fun σ H Q h => call_read h
end
end Ev

set_option Elab.async false
set_option linter.all false
set_option maxRecDepth 100000
namespace Ev
open PySem PySem.Spec PyProof.Rows L2
/-- the entry of the def whose body runs -/
structure Bd where
  e : En
  σ : Sg
  F : Hp
  H : Hp
structure BOk (B : Bd) (e : En) (σ : Sg) (F H : Hp) : Prop where
  ff : ∀ a o, B.F a = some o → F a = some o
  keep : ∀ a o, B.H a = some o → ¬ Own B.e B.σ a → H a = some o ∧ (B.F a = none → F a = none)
  dom : ∀ a o, B.H a = some o → ∃ o', H a = some o'
  fresh : ∀ (i : Nat) (b : Bx) (p : Addr), e[i]? = some (Sl.ow false b) → σ[i]? = some (some (V.ref p)) → B.H p = none
  own : ∀ (i : Nat) (b : Bx), e[i]? = some (Sl.ow true b) → σ[i]? = B.σ[i]? ∧ ∃ b', B.e[i]? = some (Sl.ow true b')
  lent : ∀ (i : Nat) (b : Bx), B.e[i]? = some (Sl.ow true b) → Lent e i ∧ σ[i]? = B.σ[i]?
section
variable {K : PySem.W.Frag} {W : WX} {B : Bd} {e e1 e2 : En} {σ σ1 : Sg} {F H F1 H1 F2 H2 : Hp}
theorem BOk.own' (k : BOk B e σ F H) {p : Addr} (h : Own e σ p) : Own B.e B.σ p ∨ B.H p = none := by
  obtain ⟨i, l, b, h1, h2⟩ := h
  cases l with
  | true => obtain ⟨q, b', q2⟩ := k.own i b h1; exact .inl ⟨i, true, b', q2, by rw [← q]; exact h2⟩
  | false => exact .inr (k.fresh i b p h1 h2)
theorem BOk.step (k : BOk B e σ F H) (S : Step e e1 σ F H F1 H1) : BOk B e1 σ F1 H1 where
  ff := fun a o h => S.ff _ _ (k.ff _ _ h)
  keep := fun a o h n => by
    obtain ⟨h1, h2⟩ := k.keep a o h n
    obtain ⟨h3, h4⟩ := S.keep a o h1 fun z => by
      rcases k.own' z with z | z
      · exact n z
      · rw [h] at z; cases z
    exact ⟨h3, fun z => h4 (h2 z)⟩
  dom := fun a o h => by
    obtain ⟨o1, h1⟩ := k.dom a o h
    exact S.dom a o1 h1
  fresh := fun i b p h1 h2 => by
    obtain ⟨b', q⟩ := S.sk i _ _ h1
    exact k.fresh i b' p q h2
  own := fun i b h1 => by
    obtain ⟨b', q⟩ := S.sk i _ _ h1
    exact k.own i b' q
  lent := fun i b h => ⟨S.lt i (k.lent i b h).1, (k.lent i b h).2⟩

/-! ### statements -/
inductive Fl where
  | nx
  | rt (r : Od)
  | bk
  | ct
abbrev SemS := En → Out Fl
def OutS (K : PySem.W.Frag) (W : WX) (B : Bd) (o : Out Fl) (D : Ends) : Prop := match o with
  | .ok .nx e' => ∀ σ' F' H', Rel K e' σ' F' H' → BOk B e' σ' F' H' → D.nx σ' H'
  | .ok .bk e' => ∀ σ' F' H', Rel K e' σ' F' H' → BOk B e' σ' F' H' → D.bk σ' H'
  | .ok .ct e' => ∀ σ' F' H', Rel K e' σ' F' H' → BOk B e' σ' F' H' → D.ct σ' H'
  | .ok (.rt r) e' => ∀ x σ' F' H', Rel K e' σ' F' H' → BOk B e' σ' F' H' → OdR K [] B.H F' H' x r → D.rt x H'
  | .exc c t e' => ∀ σ' F' H' cls d, Rel K e' σ' F' H' → BOk B e' σ' F' H' → ExR K F' H' c t cls d → W cls d σ' H'
  | .bad => False
def tS (K : PySem.W.Frag) (W : WX) (B : Bd) (m : SemS) : TS := fun D σ H => ∃ e F, Rel K e σ F H ∧ BOk B e σ F H ∧ OutS K W B (m e) D
theorem tS_bind {α β : Type} {rel : Sg → Hp → Hp → Hp → β → α → Prop} {m : En → Out α} {f : α → En → Out Fl} {D : Ends} (R : Rel K e σ F H) (k : BOk B e σ F H) (h : OutS K W B ((m e).bind f) D) :
    tX K W rel m σ H (fun x H1 => ∃ r e1 F1, Rel K e1 σ F1 H1 ∧ Step e e1 σ F H F1 H1 ∧ BOk B e1 σ F1 H1 ∧ rel σ H F1 H1 x r ∧ OutS K W B (f r e1) D) := by
  refine ⟨e, F, R, ?_⟩
  cases q : m e with
  | ok r e' => rw [q] at h; exact fun x F' H' R' S' O => ⟨r, e', F', R', S', k.step S', O, h⟩
  | exc c t e' => rw [q] at h; exact fun F' H' cls d R' S' X => h σ F' H' cls d R' (k.step S') X
  | bad => rw [q] at h; exact h
abbrev QS (X : Cx) (W : WX) (B : Bd) (st : Stmt) (m : SemS) : Prop := PS X st (tS X.K W B m)
abbrev QSs (X : Cx) (W : WX) (B : Bd) (st : List Stmt) (m : SemS) : Prop := PSs X st (tS X.K W B m)
def isLent (e : En) (i : Nat) : Bool := match e[i]? with
  | some (.ow true _) => true
  | some (.fz _) => true
  | _ => false
theorem isLent_no {i : Nat} (h : isLent e i = false) : ¬ Lent e i := fun ⟨b, q⟩ => by
  rcases q with q | q <;> simp [isLent, q] at h
theorem set_v {i : Nat} {x : V} {t : T} (R : Rel K e σ F H) (k : BOk B e σ F H) (d : Dp K F x t) (n : ¬ Lent e i) : Rel K (e.set i (.v t)) (σ.set i (some x)) F H ∧ BOk B (e.set i (.v t)) (σ.set i (some x)) F H := by
  have get : ∀ (j : Nat) (s : Sl), (e.set i (.v t))[j]? = some s → (j = i ∧ s = .v t ∧ i < e.length) ∨ (i ≠ j ∧ e[j]? = some s) := fun j s h => by
    by_cases q : i = j
    · subst q
      have hi : i < e.length := by have := (List.getElem?_eq_some_iff.mp h).1; simpa using this
      rw [List.getElem?_set_self hi] at h; cases h; exact .inl ⟨rfl, rfl, hi⟩
    · rw [List.getElem?_set_ne q] at h; exact .inr ⟨q, h⟩
  have sg : ∀ (j : Nat), i ≠ j → (σ.set i (some x))[j]? = σ[j]? := fun j q => List.getElem?_set_ne q
  refine ⟨⟨R.sub, by simp [R.len], fun j s o h1 h2 => ?_, fun j j' l b l' b' p h1 h2 h3 h4 => ?_⟩, ⟨k.ff, k.keep, k.dom, fun j b p h1 h2 => ?_, fun j b h1 => ?_, fun j b h => ?_⟩⟩
  · rcases get j s h1 with ⟨rfl, rfl, hi⟩ | ⟨q, h⟩
    · rw [List.getElem?_set_self (by rw [← R.len]; exact hi)] at h2; cases h2; exact ⟨x, rfl, d⟩
    · rw [sg j q] at h2; exact R.at_ j s o h h2
  · rcases get j _ h1 with ⟨_, z, _⟩ | ⟨q, g1⟩
    · cases z
    · rcases get j' _ h2 with ⟨_, z, _⟩ | ⟨q', g2⟩
      · cases z
      · rw [sg j q] at h3; rw [sg j' q'] at h4; exact R.ne j j' l b l' b' p g1 g2 h3 h4
  · rcases get j _ h1 with ⟨_, z, _⟩ | ⟨q, g1⟩
    · cases z
    · rw [sg j q] at h2; exact k.fresh j b p g1 h2
  · rcases get j _ h1 with ⟨_, z, _⟩ | ⟨q, g1⟩
    · cases z
    · rw [sg j q]; exact k.own j b g1
  · obtain ⟨l, q⟩ := k.lent j b h
    have ne : i ≠ j := fun z => n (by rw [z]; exact l)
    refine ⟨?_, by rw [sg j ne]; exact q⟩
    obtain ⟨b', l⟩ := l
    exact ⟨b', by rw [List.getElem?_set_ne ne]; exact l⟩
theorem set_b {i : Nat} {p : Addr} {z : Bx} (R : Rel K e σ F H) (k : BOk B e σ F H) (hf : F p = none) (bx : BxAt K F H p z) (hB : B.H p = none) (no : ¬ Own e σ p) (n : ¬ Lent e i) : Rel K (e.set i (.ow false z)) (σ.set i (some (.ref p))) F H ∧ BOk B (e.set i (.ow false z)) (σ.set i (some (.ref p))) F H := by
  have get : ∀ (j : Nat) (s : Sl), (e.set i (.ow false z))[j]? = some s → (j = i ∧ s = .ow false z ∧ i < e.length) ∨ (i ≠ j ∧ e[j]? = some s) := fun j s h => by
    by_cases q : i = j
    · subst q
      have hi : i < e.length := by have := (List.getElem?_eq_some_iff.mp h).1; simpa using this
      rw [List.getElem?_set_self hi] at h; cases h; exact .inl ⟨rfl, rfl, hi⟩
    · rw [List.getElem?_set_ne q] at h; exact .inr ⟨q, h⟩
  have sg : ∀ (j : Nat), i ≠ j → (σ.set i (some (V.ref p)))[j]? = σ[j]? := fun j q => List.getElem?_set_ne q
  have si : i < e.length → (σ.set i (some (V.ref p)))[i]? = some (some (V.ref p)) := fun h => List.getElem?_set_self (by rw [← R.len]; exact h)
  refine ⟨⟨R.sub, by simp [R.len], fun j s o h1 h2 => ?_, fun j j' l b l' b' p' h1 h2 h3 h4 => ?_⟩, ⟨k.ff, k.keep, k.dom, fun j b p' h1 h2 => ?_, fun j b h1 => ?_, fun j b h => ?_⟩⟩
  · rcases get j s h1 with ⟨rfl, rfl, hi⟩ | ⟨q, h⟩
    · rw [si hi] at h2; cases h2; exact ⟨p, rfl, hf, bx⟩
    · rw [sg j q] at h2; exact R.at_ j s o h h2
  · rcases get j _ h1 with ⟨e1, _, hi⟩ | ⟨q, g1⟩
    · rcases get j' _ h2 with ⟨e2, _, _⟩ | ⟨q', g2⟩
      · rw [e1, e2]
      · subst e1
        rw [si hi] at h3; cases h3
        rw [sg j' q'] at h4
        exact absurd ⟨j', l', b', g2, h4⟩ no
    · rcases get j' _ h2 with ⟨e2, _, hi⟩ | ⟨q', g2⟩
      · subst e2
        rw [si hi] at h4; cases h4
        rw [sg j q] at h3
        exact absurd ⟨j, l, b, g1, h3⟩ no
      · rw [sg j q] at h3; rw [sg j' q'] at h4; exact R.ne j j' l b l' b' p' g1 g2 h3 h4
  · rcases get j _ h1 with ⟨e1, _, hi⟩ | ⟨q, g1⟩
    · subst e1; rw [si hi] at h2; cases h2; exact hB
    · rw [sg j q] at h2; exact k.fresh j b p' g1 h2
  · rcases get j _ h1 with ⟨_, z, _⟩ | ⟨q, g1⟩
    · cases z
    · rw [sg j q]; exact k.own j b g1
  · obtain ⟨l, q⟩ := k.lent j b h
    have ne : i ≠ j := fun z => n (by rw [z]; exact l)
    refine ⟨?_, by rw [sg j ne]; exact q⟩
    obtain ⟨b', l⟩ := l
    exact ⟨b', by rw [List.getElem?_set_ne ne]; exact l⟩
/-- name = value -/
def setO (i : Nat) (r : Od) (e : En) : Out Fl := if isLent e i then .bad else match r with
  | .b z => .ok .nx (e.set i (.ow false z))
  | r => match esc r e with
    | some (t, e') => .ok .nx (e'.set i (.v t))
    | none => .bad
theorem esc_lent {r : Od} {t : T} {i : Nat} (h : esc r e = some (t, e1)) (n : ¬ Lent e i) : ¬ Lent e1 i := by
  cases r with
  | r u => cases h; exact n
  | b z =>
    simp only [esc] at h
    split at h
    · cases h; exact n
    · cases h
  | s j =>
    simp only [esc] at h
    cases q : e[j]? with
    | none => rw [q] at h; cases h
    | some s =>
      rw [q] at h
      cases s with
      | un => cases h
      | v u => cases h; exact n
      | fz u => cases h; exact n
      | ow l b =>
        simp only at h
        split at h
        · cases h
          rintro ⟨b', w⟩
          by_cases ij : j = i
          · subst ij
            have hj : j < e.length := (List.getElem?_eq_some_iff.mp q).1
            rw [List.getElem?_set_self hj] at w
            cases l with
            | true => exact n ⟨b, .inl q⟩
            | false => rcases w with w | w <;> cases w
          · rw [List.getElem?_set_ne ij] at w
            exact n ⟨b', w⟩
        · cases h
theorem set_ok {i : Nat} {r : Od} {x : V} {D : Ends} {e0 : En} {F0 H0 : Hp} (R0 : Rel K e0 σ F0 H0) (k0 : BOk B e0 σ F0 H0) (R : Rel K e σ F H) (S : Step e0 e σ F0 H0 F H) (O : OdR K σ H0 F H x r) (h : OutS K W B (setO i r e) D) : D.nx (σ.set i (some x)) H := by
  unfold setO at h
  cases l : isLent e i with
  | true => rw [l] at h; exact h.elim
  | false =>
    rw [l, if_neg (by decide)] at h
    have n := isLent_no l
    have tree : ∀ t e', esc r e = some (t, e') → OutS K W B (.ok .nx (e'.set i (.v t))) D → D.nx (σ.set i (some x)) H := fun t e' q h => by
      obtain ⟨F', R', S', d, _⟩ := esc_ok R0 R S O q
      obtain ⟨a, b⟩ := set_v R' (k0.step S') d (esc_lent q n)
      exact h _ _ _ a b
    cases r with
    | b z =>
      obtain ⟨p, rfl, hn, hf, bx⟩ := O
      have hB : B.H p = none := by
        cases q : B.H p with
        | none => rfl
        | some o => obtain ⟨o', e'⟩ := k0.dom _ _ q; rw [hn] at e'; cases e'
      obtain ⟨a, b⟩ := set_b R (k0.step S) hf bx hB (fresh_not_own R0 S hn) n
      exact h _ _ _ a b
    | r t =>
      cases q : esc (.r t) e with
      | none => simp only [q] at h; exact h.elim
      | some te => obtain ⟨t', e'⟩ := te; simp only [q] at h; exact tree t' e' q h
    | s j =>
      cases q : esc (.s j) e with
      | none => simp only [q] at h; exact h.elim
      | some te => obtain ⟨t', e'⟩ := te; simp only [q] at h; exact tree t' e' q h
end
section
variable {X : Cx} {W : WX} {B : Bd} {a b c : Expr} {ma mb mc : SemE} {pos : Pos} {st : Stmt} {sts : List Stmt} {m1 m2 : SemS}
def sSet (i : Nat) (m : SemE) : SemS := fun e => (m e).bind fun r e1 => setO i r e1
theorem asg_read {i : Nat} {m : SemE} {K : PySem.W.Frag} {D : Ends} {σ : Sg} {H : Hp} (h : tS K W B (sSet i m) D σ H) : tAsg (tE K W m) (gName i) D σ H := by
  obtain ⟨e, F, R, k, h⟩ := h
  exact tX_imp (tS_bind (rel := fun σ => OdR K σ) R k h) fun x H1 ⟨r, e1, F1, R1, S1, k1, O, h1⟩ => set_ok R k R1 S1 O h1
theorem qset {i : Nat} {x : Str} {pos' : Pos} (hN : X.N.Nodup) (hi : X.N[i]? = some x) (hx : Loc X.env.scope x) (he : QE X W a ma) (hs : swapsWith a (some (.Name x pos')) pos.line X.env = pure false := by rfl)
    (hf : X.fn x = true ∨ X.env.scope.names.lookup x = some .local := by first | exact .inl rfl | exact .inr rfl | assumption) : QS X W B (.Assign [.Name x pos'] a pos) (sSet i ma) :=
  ps_mono (ps_set hN hi hx he hs hf) fun D σ H h => asg_read h
def sDrop (m : SemE) : SemS := fun e => (m e).bind fun _ e1 => .ok .nx e1
theorem qexpr (he : QE X W a ma) (hs : swapsWith a none pos.line X.env = pure false := by rfl) : QS X W B (.Expr a pos) (sDrop ma) := by
  refine ps_mono (ps_expr he hs) fun D σ H h => ?_
  obtain ⟨e, F, R, k, h⟩ := h
  exact tX_imp (tS_bind (rel := fun σ => OdR X.K σ) R k h) fun x H1 ⟨r, e1, F1, R1, S1, k1, O, h1⟩ => h1 _ _ _ R1 k1
def sNil : SemS := fun e => .ok .nx e
theorem qnil : QSs X W B [] sNil := pss_mono pss_nil fun D σ H ⟨e, F, R, k, h⟩ => h _ _ _ R k
def sBrk : SemS := fun e => .ok .bk e
def sCnt : SemS := fun e => .ok .ct e
def sNever : SemS := fun _ => .bad
theorem qnevers : QSs X W B sts sNever := pss_mono pss_never fun D σ H ⟨e, F, R, k, h⟩ => h.elim
def sSeq (m1 m2 : SemS) : SemS := fun e => match m1 e with
  | .ok .nx e1 => m2 e1
  | o => o
theorem qcons (h1 : QS X W B st m1) (h2 : QSs X W B sts m2) : QSs X W B (st :: sts) (sSeq m1 m2) := by
  refine pss_mono (pss_cons h1 h2) fun D σ H h => ?_
  obtain ⟨e, F, R, k, h⟩ := h
  refine ⟨e, F, R, k, ?_⟩
  unfold sSeq at h
  cases q : m1 e with
  | bad => rw [q] at h; exact h
  | exc c t e' => rw [q] at h; exact h
  | ok f e' =>
    rw [q] at h
    cases f with
    | nx => exact fun σ' F' H' R' k' => ⟨e', F', R', k', h⟩
    | rt r => exact h
    | bk => exact h
    | ct => exact h
theorem qone (h1 : QS X W B st m1) : QSs X W B [st] m1 := pss_one h1
def sIf (c : SemT) (m1 m2 : SemS) : SemS := fun e => (c e).bind fun k e1 => if k then m1 e1 else m2 e1
theorem qif {mt : SemT} {s1 s2 : List Stmt} (hc : QT X W c mt) (h1 : QSs X W B s1 m1) (h2 : QSs X W B s2 m2) : QS X W B (.If c s1 s2 pos) (sIf mt m1 m2) := by
  refine ps_mono (ps_if hc h1 h2) fun D σ H h => ?_
  obtain ⟨e, F, R, k, h⟩ := h
  refine tX_imp (tS_bind (rel := fun _ _ _ _ (x : Bool) r => x = r) R k h) fun x H1 ⟨r, e1, F1, R1, S1, k1, O, h1⟩ => ?_
  subst O
  cases x with
  | true => exact ⟨e1, F1, R1, k1, h1⟩
  | false => exact ⟨e1, F1, R1, k1, h1⟩
/-- return: what a name alone holds goes with it -/
def retO (r : Od) (e : En) : Out Fl := match r with
  | .r t => .ok (.rt (.r t)) e
  | .b z => .ok (.rt (.b z)) e
  | .s i => match e[i]? with
    | some (.ow false z) => .ok (.rt (.b z)) (e.set i .un)
    | _ => (match esc (.s i) e with
      | some (t, e') => .ok (.rt (.r t)) e'
      | none => .bad)
def sRet (m : SemE) : SemS := fun e => (m e).bind fun r e1 => retO r e1
end
end Ev

set_option Elab.async false
set_option linter.all false
set_option maxRecDepth 100000
namespace Ev
open PySem PySem.Spec PyProof.Rows L2
section
variable {K : PySem.W.Frag} {W : WX} {B : Bd} {e e1 e2 : En} {σ σ1 : Sg} {F H F1 H1 F2 H2 : Hp}
theorem set_un {i : Nat} (R : Rel K e σ F H) (k : BOk B e σ F H) (n : ¬ Lent e i) : Rel K (e.set i .un) σ F H ∧ BOk B (e.set i .un) σ F H := by
  have get : ∀ (j : Nat) (s : Sl), (e.set i .un)[j]? = some s → s = .un ∨ e[j]? = some s := fun j s h => by
    by_cases q : i = j
    · subst q
      have hi : i < e.length := by have := (List.getElem?_eq_some_iff.mp h).1; simpa using this
      rw [List.getElem?_set_self hi] at h; cases h; exact .inl rfl
    · rw [List.getElem?_set_ne q] at h; exact .inr h
  have gow : ∀ (j : Nat) (l : Bool) (b : Bx), (e.set i .un)[j]? = some (.ow l b) → e[j]? = some (.ow l b) := fun j l b h => by
    rcases get j _ h with z | z
    · cases z
    · exact z
  refine ⟨⟨R.sub, by simp [R.len], fun j s o h1 h2 => ?_, fun j j' l b l' b' p h1 h2 => R.ne j j' l b l' b' p (gow _ _ _ h1) (gow _ _ _ h2)⟩, ⟨k.ff, k.keep, k.dom, fun j b p h1 => k.fresh j b p (gow _ _ _ h1), fun j b h1 => k.own j b (gow _ _ _ h1), fun j b h => ?_⟩⟩
  · rcases get j s h1 with rfl | z
    · trivial
    · exact R.at_ j s o z h2
  · obtain ⟨⟨b', l⟩, q⟩ := k.lent j b h
    have ne : i ≠ j := fun z => n (by rw [z]; exact ⟨b', l⟩)
    exact ⟨⟨b', by rw [List.getElem?_set_ne ne]; exact l⟩, q⟩
theorem ret_ok {r : Od} {x : V} {D : Ends} {e0 : En} {F0 H0 : Hp} (R0 : Rel K e0 σ F0 H0) (k0 : BOk B e0 σ F0 H0) (R : Rel K e σ F H) (S : Step e0 e σ F0 H0 F H) (O : OdR K σ H0 F H x r) (h : OutS K W B (retO r e) D) : D.rt x H := by
  have k := k0.step S
  have hB : ∀ p, H0 p = none → B.H p = none := fun p hn => by
    cases q : B.H p with
    | none => rfl
    | some o => obtain ⟨o', e'⟩ := k0.dom _ _ q; rw [hn] at e'; cases e'
  cases r with
  | r t => exact h x σ F H R k O
  | b z => obtain ⟨p, ep, hn, hf, bx⟩ := O; exact h x σ F H R k ⟨p, ep, hB p hn, hf, bx⟩
  | s i =>
    have hs : σ[i]? = some (some x) := O
    have tree : ∀ t e', esc (.s i) e = some (t, e') → OutS K W B (.ok (.rt (.r t)) e') D → D.rt x H := fun t e' q h => by
      obtain ⟨F', R', S', d, _⟩ := esc_ok R0 R S O q
      exact h x σ F' H R' (k0.step S') d
    have other : (match esc (.s i) e with
      | some (t, e') => OutS K W B (.ok (.rt (.r t)) e') D
      | none => False) → D.rt x H := fun h => by
      cases q : esc (.s i) e with
      | none => rw [q] at h; exact h.elim
      | some te => obtain ⟨t, e'⟩ := te; rw [q] at h; exact tree t e' q h
    have conv : OutS K W B (match esc (.s i) e with
      | some (t, e') => .ok (.rt (.r t)) e'
      | none => .bad) D → D.rt x H := fun h => by
      cases q : esc (.s i) e with
      | none => rw [q] at h; exact h.elim
      | some te => obtain ⟨t, e'⟩ := te; rw [q] at h; exact tree t e' q h
    simp only [retO] at h
    cases q : e[i]? with
    | none => rw [q] at h; exact conv h
    | some s =>
      rw [q] at h
      cases s with
      | un => exact conv h
      | v _ => exact conv h
      | fz _ => exact conv h
      | ow l z =>
        cases l with
        | true => exact conv h
        | false =>
          obtain ⟨p, ep, hf, bx⟩ := R.at_ i _ _ q hs
          cases ep
          have n : ¬ Lent e i := fun ⟨b, w⟩ => by rw [q] at w; rcases w with w | w <;> cases w
          obtain ⟨R', k'⟩ := set_un R k n
          exact h _ σ F H R' k' ⟨p, rfl, k.fresh i z p q hs, hf, bx⟩
end
section
variable {X : Cx} {W : WX} {B : Bd} {a b c : Expr} {ma mb mc : SemE} {pos : Pos} {st : Stmt} {sts : List Stmt} {m1 m2 : SemS} {t1 t2 : SemT}
theorem qret (he : QE X W a ma) : QS X W B (.Return (some a) pos) (sRet ma) := by
  refine ps_mono (ps_ret he) fun D σ H h => ?_
  obtain ⟨e, F, R, k, h⟩ := h
  exact tX_imp (tS_bind (rel := fun σ => OdR X.K σ) R k h) fun x H1 ⟨r, e1, F1, R1, S1, k1, O, h1⟩ => ret_ok R k R1 S1 O h1
def sRetN : SemS := fun e => .ok (.rt (.r .none)) e
/-! ### tests -/
/-- the truth of a bool -/
def tb (m : SemE) : SemT := fun e => (m e).bind fun r e1 => match r.val e1 with
  | some (.bool k) => .ok k e1
  | _ => .bad
theorem tb_read {m : SemE} {σ : Sg} {H : Hp} {K : PySem.W.Frag} {Q : Bool → Hp → Prop} (h : tT K W (tb m) σ H Q) : tE K W m σ H fun x H' => ∃ k, x = .bl k ∧ Q k H' := by
  obtain ⟨e, F, R, h⟩ := h
  refine tX_imp (tX_bind R .refl h) fun x H1 ⟨r, e1, F1, R1, S1, O1, h1⟩ => ?_
  cases q : r.val e1 with
  | none => simp only [q] at h1; exact h1.elim
  | some t =>
    have d := val_ok R1 O1 q
    cases t with
    | bool k => simp only [q] at h1; cases d; exact ⟨k, rfl, h1 k F1 H1 R1 S1 rfl⟩
    | none => simp only [q] at h1; exact h1.elim
    | int _ => simp only [q] at h1; exact h1.elim
    | str _ => simp only [q] at h1; exact h1.elim
    | list _ => simp only [q] at h1; exact h1.elim
    | tuple _ => simp only [q] at h1; exact h1.elim
    | dict _ => simp only [q] at h1; exact h1.elim
theorem qtval (h : QE X W a ma) (he : ∀ whole, isTrue a X.env whole = (do let v ← whole; standAt a.pos; holding [v] (truthy v)) := by intro _; rfl) : QT X W a (tb ma) :=
  pt_mono (pt_val h he) fun σ H Q h => tb_read h
theorem qtcmp {f : CmpOp} {r : R2} {g : T → T → Option Od} (ho : OpR X (compareOp f) r) (hr : Does2 X.K r g) (ha : QE X W a ma) (hb : QE X W b mb) (hm : behindInMarks f b = false := by first | rfl | exact nomark _) : QT X W (.Compare a [f] [b] pos) (tb (eOp2 g ma mb)) :=
  pt_mono (pt_cmpR ho ha hb hm) fun σ H Q h => tX_imp (two (tb_read h)) fun x H1 h1 => tX_imp h1 fun y H2 h2 => does2 hr h2
def tNot (t : SemT) : SemT := fun e => (t e).bind fun k e1 => .ok (!k) e1
theorem qtnot (h : QT X W a t1) : QT X W (.UnaryOp .Not a pos) (tNot t1) := by
  refine pt_mono (pt_not h) fun σ H Q h => ?_
  obtain ⟨e, F, R, h⟩ := h
  exact tX_imp (tX_bind (rel := fun _ _ _ _ (x : Bool) r => x = r) R .refl h) fun x H1 ⟨r, e1, F1, R1, S1, O1, h1⟩ => by subst O1; exact h1 _ F1 H1 R1 S1 rfl
abbrev QW (X : Cx) (W : WX) (ex : Expr) (m : SemT) : Prop := PW X ex (tT X.K W m)
theorem pw_mono {X : Cx} {ex : Expr} {t t' : TT} (h : PW X ex t) (m : ∀ σ H Q, t' σ H Q → t σ H Q) : PW X ex t' := ⟨fun wh pins s σ H Q I q => h.run wh pins s σ H Q I (m σ H Q q)⟩
def tAnd (t1 t2 : SemT) : SemT := fun e => (t1 e).bind fun k e1 => if k then t2 e1 else .ok false e1
def tOr (t1 t2 : SemT) : SemT := fun e => (t1 e).bind fun k e1 => if k then .ok true e1 else t2 e1
theorem qw_or1 (h : QT X W a t1) : QW X W (.BoolOp .Or [a] pos) t1 := pw_or1 h
theorem outT_trans {K : PySem.W.Frag} {m : SemT} {e e1 : En} {σ : Sg} {F H F1 H1 : Hp} {Q : Bool → Hp → Prop} (R : Rel K e1 σ F1 H1) (S : Step e e1 σ F H F1 H1) (h : OutX K W (fun _ _ _ (x : Bool) r => x = r) (m e1) e σ F H Q) : tT K W m σ H1 Q := by
  refine ⟨e1, F1, R, ?_⟩
  cases q : m e1 with
  | bad => rw [q] at h; exact h
  | exc c t e' => rw [q] at h; exact fun F' H' cls d R' S' => h F' H' cls d R' (S.trans S')
  | ok r e' => rw [q] at h; exact fun x F' H' R' S' => h x F' H' R' (S.trans S')
theorem qw_or {rest : List Expr} (ha : QT X W a t1) (hb : QW X W (.BoolOp .Or (b :: rest) pos) t2) : QW X W (.BoolOp .Or (a :: b :: rest) pos) (tOr t1 t2) := by
  refine pw_mono (pw_or ha hb) fun σ H Q h => ?_
  obtain ⟨e, F, R, h⟩ := h
  refine tX_imp (tX_bind (rel := fun _ _ _ _ (x : Bool) r => x = r) R .refl h) fun x H1 ⟨r, e1, F1, R1, S1, O1, h1⟩ => ?_
  subst O1
  cases x with
  | true => exact h1 _ F1 H1 R1 S1 rfl
  | false => exact outT_trans R1 S1 h1
theorem QW.t (h : QW X W a t1) : QT X W a t1 := h.pt
/-! ### and, or, not, if as values -/
theorem outE_trans {K : PySem.W.Frag} {m : SemE} {e e1 : En} {σ : Sg} {F H F1 H1 : Hp} {Q : VK} (R : Rel K e1 σ F1 H1) (S : Step e e1 σ F H F1 H1) (h : OutX K W (OdR K σ) (m e1) e σ F H Q) : tE K W m σ H1 Q := by
  refine ⟨e1, F1, R, ?_⟩
  cases q : m e1 with
  | bad => rw [q] at h; exact h
  | exc c t e' => rw [q] at h; exact fun F' H' cls d R' S' => h F' H' cls d R' (S.trans S')
  | ok r e' => rw [q] at h; exact fun x F' H' R' S' O => h x F' H' R' (S.trans S') (od_back O S)
def eAnd (ma mb : SemE) : SemE := fun e => (tb ma e).bind fun k e1 => if k then mb e1 else .ok (.r (.bool false)) e1
def eOr (ma mb : SemE) : SemE := fun e => (tb ma e).bind fun k e1 => if k then .ok (.r (.bool true)) e1 else mb e1
theorem qone_ {op : BoolOp} (h : QE X W a ma) : QE X W (.BoolOp op [a] pos) ma := pe_one h
theorem qand {rest : List Expr} (ha : QE X W a ma) (hb : QE X W (.BoolOp .And (b :: rest) pos) mb) : QE X W (.BoolOp .And (a :: b :: rest) pos) (eAnd ma mb) := by
  refine pe_mono (pe_and ha hb) fun σ H Q h => ?_
  obtain ⟨e, F, R, h⟩ := h
  have z := tX_bind (m := tb ma) (rel := fun _ _ _ _ (x : Bool) r => x = r) R .refl h
  refine tX_imp (tb_read z) fun x H1 ⟨k, ex, r, e1, F1, R1, S1, O1, h1⟩ => ⟨k, ex, ?_⟩
  subst O1
  cases k with
  | true => exact outE_trans R1 S1 h1
  | false => exact h1 _ F1 H1 R1 S1 (.bl false)
def eNot (ma : SemE) : SemE := fun e => (tb ma e).bind fun k e1 => .ok (.r (.bool !k)) e1
theorem qnot (ha : QE X W a ma) : QE X W (.UnaryOp .Not a pos) (eNot ma) := by
  refine pe_mono (pe_not ha) fun σ H Q h => ?_
  obtain ⟨e, F, R, h⟩ := h
  have z := tX_bind (m := tb ma) (rel := fun _ _ _ _ (x : Bool) r => x = r) R .refl h
  refine tX_imp (tb_read z) fun x H1 ⟨k, ex, r, e1, F1, R1, S1, O1, h1⟩ => ⟨k, ex, ?_⟩
  subst O1
  exact h1 _ F1 H1 R1 S1 (.bl _)
def eIf (t : SemT) (ma mb : SemE) : SemE := fun e => (t e).bind fun k e1 => if k then ma e1 else mb e1
theorem qifx (hc : QT X W c t1) (ha : QE X W a ma) (hb : QE X W b mb) : QE X W (.IfExp c a b pos) (eIf t1 ma mb) := by
  refine pe_mono (pe_ifExp hc ha hb) fun σ H Q h => ?_
  obtain ⟨e, F, R, h⟩ := h
  refine tX_imp (tX_bind (rel := fun _ _ _ _ (x : Bool) r => x = r) R .refl h) fun x H1 ⟨r, e1, F1, R1, S1, O1, h1⟩ => ?_
  subst O1
  cases x with
  | true => exact outE_trans R1 S1 h1
  | false => exact outE_trans R1 S1 h1
end
end Ev

set_option Elab.async false
set_option linter.all false
set_option maxRecDepth 100000
namespace Ev
open PySem PySem.Spec PyProof.Rows L2
section
variable {X : Cx}
theorem opr_or {f : Value → Value → Sem Value} {r r' : R2} (h : OpR X f r) (h' : OpR X f r') : OpR X f (fun x y H Q => r x y H Q ∨ r' x y H Q) := by
  intro pins s σ H x y v u Q I rx ry q
  rcases q with q | q
  · exact h pins s σ H x y v u Q I rx ry q
  · exact h' pins s σ H x y v u Q I rx ry q
def rCatS (K : PySem.W.Frag) : R2 := fun x y H Q => ∃ l b xs zs, x = .ref l ∧ y = .ref b ∧ SqL K H l xs ∧ SqL K H b zs ∧ xs.length + zs.length ≤ sizeLine ∧ ∀ p, H p = none → Q (.ref p) (upd H p (.lst (xs ++ zs)))
theorem op_catS : OpR X (binaryOp .Add) (rCatS X.K) := by
  intro pins s σ H x y v u Q I rx ry h
  obtain ⟨l, b, xs, zs, rfl, rfl, hH, hB, hz, q⟩ := h
  cases rx
  cases ry
  obtain ⟨its, r, ⟨⟨cls, dd, data, sl⟩, n, ho, hc, hd0, hd⟩, _⟩ := I.list hH
  obtain ⟨its2, r2, ⟨⟨cls2, dd2, data2, sl2⟩, n2, ho2, hc2, hd02, hd2⟩, _⟩ := I.list hB
  simp only at hc hd hc2 hd2 hd0 hd02
  subst hc hd hc2 hd2 hd0 hd02
  have hl := r.length
  have hl2 := r2.length
  refine concat_meets ⟨_, ho, rfl⟩ ⟨_, ho2, rfl⟩ noFill_list_add seq_list_add PySem.F.slot_list_add PySem.F.entry_list_add (PySem.F.args_list_add_2 _ _) (list_addW l b its.toArray its2.toArray n n2 none none sl sl2 (by simp; omega)) ⟨ho, ho2, ?_⟩
  have ea : its.toArray ++ its2.toArray = (its ++ its2).toArray := by simp
  rw [ea]
  exact ⟨.ref _, _, I.lnew (t' := s.toks) (r.append r2) (by rw [List.length_append]; omega), rfl, q _ I.fresh⟩
end
/-! ### what operations hand back -/
def gAdd : T → T → Option Od
  | .int i, .int j => some (.r (.int (i + j)))
  | .str i, .str j => if i.length + j.length ≤ sizeLine then some (.r (.str (i ++ j))) else none
  | .list xs, .list ys => if xs.length + ys.length ≤ sizeLine then some (.b (.l (xs ++ ys))) else none
  | .tuple xs, .tuple ys => if xs.length + ys.length ≤ sizeLine then some (.r (.tuple (xs ++ ys))) else none
  | _, _ => none
def rAdd4 (K : PySem.W.Frag) : R2 := fun x y H Q => (((∃ i j, x = .int i ∧ y = .int j ∧ Q (.int (i + j)) H) ∨ ∃ i j, x = .str i ∧ y = .str j ∧ i.length + j.length ≤ sizeLine ∧ Q (.str (i ++ j)) H) ∨ rCatS K x y H Q) ∨ rCatA K x y H Q
theorem op_add4 {X : Cx} : OpR X (binaryOp .Add) (rAdd4 X.K) := opr_or (opr_or (opr_or op_add op_add_str) op_catS) op_catA
theorem does_add {K : PySem.W.Frag} : Does2 K (rAdd4 K) gAdd := by
  intro x y t u w F H Q ff dx dy hg
  cases t with
  | int i =>
    cases u with
    | int j => cases hg; cases dx; cases dy; exact ⟨trivial, fun q => .inl (.inl (.inl ⟨i, j, rfl, rfl, q.1 _ (.int _)⟩))⟩
    | _ => cases hg
  | str i =>
    cases u with
    | str j =>
      simp only [gAdd] at hg
      split at hg
      · cases hg; cases dx; cases dy; rename_i hl; exact ⟨trivial, fun q => .inl (.inl (.inr ⟨i, j, rfl, rfl, hl, q.1 _ (.str _)⟩))⟩
      · cases hg
    | _ => cases hg
  | list xs =>
    cases u with
    | list ys =>
      simp only [gAdd] at hg
      split at hg
      · cases hg
        rename_i hl
        obtain ⟨p, vs, rfl, h1, d1⟩ := dx
        obtain ⟨p2, vs2, rfl, h2, d2⟩ := dy
        refine ⟨trivial, fun q => .inl (.inr ⟨p, p2, vs, vs2, rfl, rfl, h1, h2, by rw [dpAll_len d1, dpAll_len d2]; exact hl, fun p hp => q p _ hp (dpAll_app d1 d2)⟩)⟩
      · cases hg
    | _ => cases hg
  | tuple xs =>
    cases u with
    | tuple ys =>
      simp only [gAdd] at hg
      split at hg
      · cases hg
        rename_i hl
        have dx0 : Dp K F x (.tuple xs) := dx
        have dy0 : Dp K F y (.tuple ys) := dy
        cases dx with
        | tup h1 d1 =>
          cases dy with
          | tup h2 d2 =>
            refine ⟨trivial, fun q => .inr ⟨_, _, _, _, rfl, rfl, tupS ff h1, tupS ff h2, by rw [dpAll_len d1, dpAll_len d2]; exact hl, fun e => ?_, fun _ e => ?_, fun _ _ p hp => q.2 _ p _ rfl hp (dpAll_app d1 d2)⟩⟩
            · subst e; cases d1; exact q.1 _ dy0
            · subst e; cases d2; rw [List.append_nil] at q; exact q.1 _ dx0
      · cases hg
    | _ => cases hg
  | _ => cases hg
/-- ints -/
def gII (c : Int → Int → Bool) (g : Int → Int → T) : T → T → Option Od
  | .int i, .int j => if c i j then some (.r (g i j)) else none
  | _, _ => none
theorem does_ii {K : PySem.W.Frag} {C : Int → Int → Prop} {c : Int → Int → Bool} {g : Int → Int → V} {g' : Int → Int → T} (hc : ∀ i j, c i j = true → C i j) (hg : ∀ i j F, Dp K F (g i j) (g' i j)) : Does2 K (rI C g) (gII c g') := by
  intro x y t u w F H Q ff dx dy h
  cases t with
  | int i =>
    cases u with
    | int j =>
      simp only [gII] at h
      split at h
      · rename_i hl; cases h; cases dx; cases dy; exact ⟨trivial, fun q => ⟨i, j, rfl, rfl, hc i j hl, q.1 _ (hg i j F)⟩⟩
      · cases h
    | _ => cases h
  | _ => cases h
theorem does_ii0 {K : PySem.W.Frag} {g : Int → Int → V} {g' : Int → Int → T} (hg : ∀ i j F, Dp K F (g i j) (g' i j)) : Does2 K (rI0 g) (gII (fun _ _ => true) g') := by
  intro x y t u w F H Q ff dx dy h
  obtain ⟨a, b⟩ := does_ii (C := fun _ _ => True) (c := fun _ _ => true) (fun _ _ _ => trivial) hg x y t u w F H Q ff dx dy h
  refine ⟨a, fun q => ?_⟩
  obtain ⟨i, j, h1, h2, _, h3⟩ := b q
  exact ⟨i, j, h1, h2, h3⟩
abbrev gSub : T → T → Option Od := gII (fun _ _ => true) fun i j => .int (i - j)
theorem does_sub {K : PySem.W.Frag} : Does2 K (rI0 fun i j => .int (i - j)) gSub := does_ii0 fun _ _ _ => .int _
abbrev gMod : T → T → Option Od := gII (fun _ j => decide (0 < j)) fun i j => .int (i % j)
theorem does_mod {K : PySem.W.Frag} : Does2 K (rI (fun _ j => 0 < j) fun i j => .int (i % j)) gMod := does_ii (fun _ _ h => of_decide_eq_true h) fun _ _ _ => .int _
abbrev gDiv : T → T → Option Od := gII (fun _ j => decide (0 < j ∧ j.natAbs.log2 < 9000)) fun i j => .int (i / j)
theorem does_div {K : PySem.W.Frag} : Does2 K (rI CDivW fun i j => .int (i / j)) gDiv := does_ii (fun i j h => of_decide_eq_true (p := 0 < j ∧ j.natAbs.log2 < 9000) h) fun _ _ _ => .int _
abbrev gPow : T → T → Option Od := gII (fun i j => decide (0 ≤ j ∧ j ≤ 1000000 ∧ i.natAbs < 2 ^ 64)) fun i j => .int (i ^ j.toNat)
theorem does_pow {K : PySem.W.Frag} : Does2 K (rI CPow fun i j => .int (i ^ j.toNat)) gPow := does_ii (fun i j h => of_decide_eq_true (p := 0 ≤ j ∧ j ≤ 1000000 ∧ i.natAbs < 2 ^ 64) h) fun _ _ _ => .int _
def mulOk (i j : Int) : Bool := decide (i.natAbs.log2 + j.natAbs.log2 < 1000000)
def gMul : T → T → Option Od
  | .int i, .int j => if mulOk i j then some (.r (.int (i * j))) else none
  | _, _ => none
theorem does_mul {K : PySem.W.Frag} : Does2 K (rI CMulW fun i j => .int (i * j)) gMul := by
  intro x y t u w F H Q ff dx dy h
  refine does_ii (K := K) (C := CMulW) (c := mulOk) (g' := fun i j => .int (i * j)) (fun i j h => of_decide_eq_true (p := i.natAbs.log2 + j.natAbs.log2 < 1000000) h) (fun _ _ _ => .int _) x y t u w F H Q ff dx dy ?_
  cases t <;> cases u <;> first | exact h | cases h
abbrev gLt : T → T → Option Od := gII (fun _ _ => true) fun i j => .bool (decide (i < j))
abbrev gLe : T → T → Option Od := gII (fun _ _ => true) fun i j => .bool (decide (i ≤ j))
abbrev gGt : T → T → Option Od := gII (fun _ _ => true) fun i j => .bool (decide (j < i))
abbrev gGe : T → T → Option Od := gII (fun _ _ => true) fun i j => .bool (decide (j ≤ i))
theorem does_lt {K : PySem.W.Frag} : Does2 K (rI0 fun i j => .bl (decide (i < j))) gLt := does_ii0 fun _ _ _ => .bl _
theorem does_gt {K : PySem.W.Frag} : Does2 K (rI0 fun i j => .bl (decide (j < i))) gGt := does_ii0 fun _ _ _ => .bl _
theorem does_ge {K : PySem.W.Frag} : Does2 K (rI0 fun i j => .bl (decide (j ≤ i))) gGe := does_ii0 fun _ _ _ => .bl _
/-- == on data -/
def gEq (k : Bool → Bool) : T → T → Option Od := fun t u => if SeqAt.shaped t && SeqAt.shaped u then some (.r (.bool (k (PyData.eqv t u)))) else none
theorem does_eq {K : PySem.W.Frag} : Does2 K (rEqD K) (gEq id) := by
  intro x y t u w F H Q ff dx dy h
  simp only [gEq] at h
  split at h
  · rename_i hs
    rw [Bool.and_eq_true] at hs
    cases h
    exact ⟨trivial, fun q => ⟨t, u, dp_hand _ (noD_sh hs.1) (dx.dp ff), dp_hand _ (noD_sh hs.2) (dy.dp ff), hs.1, hs.2, q.1 _ (.bl _)⟩⟩
  · cases h
theorem does_ne {K : PySem.W.Frag} : Does2 K (rNeD K) (gEq not) := by
  intro x y t u w F H Q ff dx dy h
  simp only [gEq] at h
  split at h
  · rename_i hs
    rw [Bool.and_eq_true] at hs
    cases h
    exact ⟨trivial, fun q => ⟨t, u, dp_hand _ (noD_sh hs.1) (dx.dp ff), dp_hand _ (noD_sh hs.2) (dy.dp ff), hs.1, hs.2, q.1 _ (.bl _)⟩⟩
  · cases h
def isN : T → Bool
  | .none => true
  | _ => false
/-- is None -/
def gIsN (k : Bool → Bool) : T → T → Option Od := fun t u => match u with
  | .none => some (.r (.bool (k (isN t))))
  | _ => none
theorem dpo_non {K : PySem.W.Frag} {F H : Hp} {x : V} {t : T} (d : DpO K F H x t) : decide (x = .non) = isN t := by
  cases t with
  | list ts => obtain ⟨p, xs, rfl, _⟩ := d; rfl
  | none => cases d; rfl
  | bool _ => cases d; rfl
  | int _ => cases d; rfl
  | str _ => cases d; rfl
  | tuple _ => cases d; rfl
  | dict _ => cases d; rfl
theorem does_isN {K : PySem.W.Frag} : Does2 K (fun x y H Q => y = .non ∧ Q (.bl (decide (x = .non))) H) (gIsN id) := by
  intro x y t u w F H Q ff dx dy h
  cases u with
  | none => cases h; cases dy; exact ⟨trivial, fun q => ⟨rfl, by rw [dpo_non dx]; exact q.1 _ (.bl _)⟩⟩
  | _ => cases h
/-! ### in -/
def flatT : T → Bool
  | .none => true
  | .bool _ => true
  | .int _ => true
  | .str _ => true
  | _ => false
def gIn (k : Bool → Bool) : T → T → Option Od := fun t u => match u with
  | .list ds => if SeqAt.shaped t && SeqAt.shaped (.list ds) then some (.r (.bool (k (ds.any fun z => PyData.eqv z t)))) else none
  | .tuple ds => if flatT t && ds.all flatT then some (.r (.bool (k (ds.any fun z => PyData.eqv z t)))) else none
  | _ => none
theorem dp_flat {K : PySem.W.Frag} {F : Hp} {x : V} {t : T} (d : Dp K F x t) (h : flatT t = true) : flatV x = true := by
  cases d <;> first | rfl | cases h
theorem dp_flats {K : PySem.W.Frag} {F : Hp} : ∀ {ts : List T} {xs : List V}, DpAll K F xs ts → ts.all flatT = true → xs.all flatV = true
  | [], _, h, _ => by cases h; rfl
  | t :: ts, _, .cons a b, h => by
    rw [List.all_cons, Bool.and_eq_true] at h
    rw [List.all_cons, dp_flat a h.1, dp_flats b h.2]
    rfl
theorem flat_eqv {K : PySem.W.Frag} {F : Hp} {x y : V} {t u : T} (d : Dp K F x t) (d' : Dp K F y u) (h : flatT t = true) (h' : flatT u = true) : eqV x y = PyData.eqv t u := by
  cases d <;> cases d' <;> first | (simp only [eqV, PyData.eqv]; done) | cases h | cases h' | (simp [eqV, PyData.eqv]; done) | (unfold eqV PyData.eqv; rfl)
theorem flat_any {K : PySem.W.Frag} {F : Hp} {x : V} {t : T} (d : Dp K F x t) (h : flatT t = true) : ∀ {ts : List T} {xs : List V}, DpAll K F xs ts → ts.all flatT = true → inV x xs = ts.any fun z => PyData.eqv z t
  | [], _, h1, _ => by cases h1; rfl
  | u :: ts, _, .cons a b, h1 => by
    rw [List.all_cons, Bool.and_eq_true] at h1
    have e := flat_any d h b h1.2
    unfold inV at e ⊢
    rw [List.any_cons, List.any_cons, e, flat_eqv a d h1.1 h]
def rIn2 (K : PySem.W.Frag) : R2 := fun x y H Q => rInD K x y H Q ∨ rIn K false x y H Q
def rNotIn2 (K : PySem.W.Frag) : R2 := fun x y H Q => rNotInD K x y H Q ∨ rIn K true x y H Q
theorem op_in2 {X : Cx} (hu : X.A.units + 65 < cLine) : OpR X (compareOp .In) (rIn2 X.K) := opr_or (op_inD hu) op_in_seq
theorem op_notIn2 {X : Cx} (hu : X.A.units + 65 < cLine) : OpR X (compareOp .NotIn) (rNotIn2 X.K) := opr_or (op_notInD hu) op_notIn_seq
theorem does_in {K : PySem.W.Frag} : Does2 K (rIn2 K) (gIn id) := by
  intro x y t u w F H Q ff dx dy h
  cases u with
  | list ds =>
    simp only [gIn] at h
    split at h
    · rename_i hs
      rw [Bool.and_eq_true] at hs
      cases h
      exact ⟨trivial, fun q => .inl ⟨t, ds, dp_hand _ (noD_sh hs.1) (dx.dp ff), dp_hand _ (noD_sh hs.2) (dy.dp ff), hs.1, hs.2, q.1 _ (.bl _)⟩⟩
    · cases h
  | tuple ds =>
    simp only [gIn] at h
    split at h
    · rename_i hs
      rw [Bool.and_eq_true] at hs
      cases h
      cases dy with
      | tup h1 d1 =>
        have dx' : Dp K F x t := by cases t <;> first | exact dx | (cases hs.1)
        exact ⟨trivial, fun q => .inr ⟨_, _, rfl, .inr (tupS ff h1), dp_flat dx' hs.1, dp_flats d1 hs.2, by rw [flat_any dx' hs.1 d1 hs.2]; exact q.1 _ (.bl _)⟩⟩
    · cases h
  | _ => cases h
theorem does_notIn {K : PySem.W.Frag} : Does2 K (rNotIn2 K) (gIn not) := by
  intro x y t u w F H Q ff dx dy h
  cases u with
  | list ds =>
    simp only [gIn] at h
    split at h
    · rename_i hs
      rw [Bool.and_eq_true] at hs
      cases h
      exact ⟨trivial, fun q => .inl ⟨t, ds, dp_hand _ (noD_sh hs.1) (dx.dp ff), dp_hand _ (noD_sh hs.2) (dy.dp ff), hs.1, hs.2, q.1 _ (.bl _)⟩⟩
    · cases h
  | tuple ds =>
    simp only [gIn] at h
    split at h
    · rename_i hs
      rw [Bool.and_eq_true] at hs
      cases h
      cases dy with
      | tup h1 d1 =>
        have dx' : Dp K F x t := by cases t <;> first | exact dx | (cases hs.1)
        exact ⟨trivial, fun q => .inr ⟨_, _, rfl, .inr (tupS ff h1), dp_flat dx' hs.1, dp_flats d1 hs.2, by rw [flat_any dx' hs.1 d1 hs.2]; exact q.1 _ (.bl _)⟩⟩
    · cases h
  | _ => cases h
/-! ### an item -/
def gIx : T → T → Option Od
  | .list ts, .int i => (atI ts i).map .r
  | .tuple ts, .int i => (atI ts i).map .r
  | _, _ => none
theorem atI_dp {K : PySem.W.Frag} {F : Hp} {ts : List T} {xs : List V} {i : Int} {t : T} (d : DpAll K F xs ts) (h : atI ts i = some t) : ∃ v, atI xs i = some v ∧ Dp K F v t := by
  unfold atI at h ⊢
  rw [dpAll_len d]
  cases q : ixN ts.length i with
  | none => rw [q] at h; cases h
  | some j => rw [q] at h; exact dpAll_get d h
def rIx2 (K : PySem.W.Frag) : R2 := fun x y H Q => rIxL K x y H Q ∨ rIxT K x y H Q
theorem ix2 {X : Cx} : IxR X (rIx2 X.K) := by
  intro value slice pins s σ H x y v u Q I rx ry h hs
  rcases h with h | h
  · exact ix_list value slice pins s σ H x y v u Q I rx ry h hs
  · exact ix_tup value slice pins s σ H x y v u Q I rx ry h hs
theorem does_ix {K : PySem.W.Frag} : Does2 K (rIx2 K) gIx := by
  intro x y t u w F H Q ff dx dy h
  cases t with
  | list ts =>
    cases u with
    | int i =>
      simp only [gIx] at h
      cases q : atI ts i with
      | none => rw [q] at h; cases h
      | some t' =>
        rw [q] at h; cases h
        obtain ⟨p, xs, rfl, h1, d1⟩ := dx
        cases dy
        obtain ⟨v, hv, dv⟩ := atI_dp d1 q
        exact ⟨trivial, fun k => .inl ⟨p, xs, i, v, rfl, rfl, h1, hv, k.1 _ dv⟩⟩
    | _ => cases h
  | tuple ts =>
    cases u with
    | int i =>
      simp only [gIx] at h
      cases q : atI ts i with
      | none => rw [q] at h; cases h
      | some t' =>
        rw [q] at h; cases h
        cases dy
        cases dx with
        | tup h1 d1 =>
          obtain ⟨v, hv, dv⟩ := atI_dp d1 q
          exact ⟨trivial, fun k => .inr ⟨_, _, i, v, rfl, rfl, tupS ff h1, hv, k.1 _ dv⟩⟩
    | _ => cases h
  | _ => cases h
section
variable {X : Cx} {W : WX} {a b c : Expr} {ma mb mc : SemE} {pos : Pos}
theorem qix (ha : QE X W a ma) (hb : QE X W b mb) (hs : ∀ o i, subscripted b false o i = operate [o, i] (getItem o i) := by intros; rfl) : QE X W (.Subscript a b pos) (eOp2 gIx ma mb) :=
  pe_mono (pe_ix ix2 ha hb hs) fun σ H Q h => tX_imp (two h) fun x H1 h1 => tX_imp h1 fun y H2 h2 => does2 does_ix h2
def eNeg (m : SemE) : SemE := fun e => (m e).bind fun r e1 => match r.val e1 with
  | some (.int i) => .ok (.r (.int (-i))) e1
  | _ => .bad
theorem qneg (ha : QE X W a ma) : QE X W (.UnaryOp .USub a pos) (eNeg ma) := by
  refine pe_mono (pe_un un_neg ha) fun σ H Q h => ?_
  obtain ⟨e, F, R, h⟩ := h
  refine tX_imp (tX_bind (rel := fun σ => OdR X.K σ) R .refl h) fun x H1 ⟨r, e1, F1, R1, S1, O1, h1⟩ => ?_
  cases q : r.val e1 with
  | none => simp only [q] at h1; exact h1.elim
  | some t =>
    have d := val_ok R1 O1 q
    cases t with
    | int i => simp only [q] at h1; cases d; exact ⟨i, rfl, h1 _ F1 H1 R1 S1 (.int _)⟩
    | none => simp only [q] at h1; exact h1.elim
    | bool _ => simp only [q] at h1; exact h1.elim
    | str _ => simp only [q] at h1; exact h1.elim
    | list _ => simp only [q] at h1; exact h1.elim
    | tuple _ => simp only [q] at h1; exact h1.elim
    | dict _ => simp only [q] at h1; exact h1.elim
end
end Ev

set_option Elab.async false
set_option linter.all false
set_option maxRecDepth 100000
namespace Ev
open PySem PySem.Spec PyProof.Rows L2
/-! ### isinstance -/
def kindT : T → String
  | .none => "NoneType"
  | .bool _ => "bool"
  | .int _ => "int"
  | .str _ => "str"
  | .list _ => "list"
  | .tuple _ => "tuple"
  | .dict _ => "dict"
def isInt : T → Bool
  | .bool _ => true
  | .int _ => true
  | _ => false
def isBool : T → Bool
  | .bool _ => true
  | _ => false
def isStr : T → Bool
  | .str _ => true
  | _ => false
def isList : T → Bool
  | .list _ => true
  | _ => false
def isTuple : T → Bool
  | .tuple _ => true
  | _ => false
def isDict : T → Bool
  | .dict _ => true
  | _ => false
def isTL : T → Bool
  | .tuple _ => true
  | .list _ => true
  | _ => false
theorem k_int (t : T) : kitB (kindT t) "int" = some (isInt t) := by cases t <;> (simp only [kindT, isInt]; decide +kernel)
theorem k_bool (t : T) : kitB (kindT t) "bool" = some (isBool t) := by cases t <;> (simp only [kindT, isBool]; decide +kernel)
theorem k_str (t : T) : kitB (kindT t) "str" = some (isStr t) := by cases t <;> (simp only [kindT, isStr]; decide +kernel)
theorem k_list (t : T) : kitB (kindT t) "list" = some (isList t) := by cases t <;> (simp only [kindT, isList]; decide +kernel)
theorem k_tuple (t : T) : kitB (kindT t) "tuple" = some (isTuple t) := by cases t <;> (simp only [kindT, isTuple]; decide +kernel)
theorem k_tl {K : PySem.W.Frag} (t : T) : PySem.W.kitAny K (.type (kindT t)) [.type "tuple", .type "list"] = some (isTL t) := by
  refine kitAny_cons (kit_ty (k_tuple t)) (fun h => kitAny_cons (r := isTL t) (kit_ty (k_list t)) (fun h2 => ?_) (fun h2 => ?_)) (fun h => ?_)
  · cases t <;> first | rfl | exact Bool.noConfusion h | exact Bool.noConfusion h2
  · cases t <;> first | rfl | exact Bool.noConfusion h | exact Bool.noConfusion h2
  · cases t <;> first | rfl | exact Bool.noConfusion h
theorem sqL_ty {K : PySem.W.Frag} {H : Hp} {p : Addr} {xs : List V} (h : SqL K H p xs) : TyX K H (.ref p) (.type "list") := by
  rcases h with h | ⟨o, its, n, hk, hc, _⟩
  · rcases h with h | ⟨o, h⟩
    · exact .base (.lst h)
    · exact .base (.frz h)
  · exact .kList hk hc
theorem sqT_ty {K : PySem.W.Frag} {H : Hp} {p : Addr} {xs : List V} (h : SqT K H p xs) : TyX K H (.ref p) (.type "tuple") := by
  rcases h with h | ⟨o, its, n, hk, hc, _⟩
  · rcases h with h | ⟨o, h⟩
    · exact .base (.tup h)
    · exact .fTuple h
  · exact .kTuple hk hc
theorem dpo_ty {K : PySem.W.Frag} {F H : Hp} {x : V} {t : T} (ff : ∀ a o, F a = some o → H a = some o) (d : DpO K F H x t) : TyX K H x (.type (kindT t)) := by
  cases t with
  | list ts => obtain ⟨p, xs, rfl, h, _⟩ := d; exact sqL_ty h
  | none => cases d; exact .base .non
  | bool _ => cases d; exact .base (.bl _)
  | int _ => cases d; exact .base (.int _)
  | str _ => cases d; exact .base (.str _)
  | tuple _ => cases d with | tup h _ => exact sqT_ty (tupS ff h)
  | dict _ => cases d with | dct h _ => exact .base (.dT (ff _ _ h))
section
variable {X : Cx} {W : WX} {a b c : Expr} {ma mb mc : SemE} {pos : Pos}
def eIsi (f : T → Bool) (m : SemE) : SemE := fun e => (m e).bind fun r e1 => match r.val e1 with
  | some t => .ok (.r (.bool (f t))) e1
  | none => .bad
theorem isi_read {K : PySem.W.Frag} {f : T → Bool} {m : SemE} {σ : Sg} {H : Hp} {Q : VK} (h : tE K W (eIsi f m) σ H Q) :
    tE K W m σ H fun x H1 => ∃ t, TyX K H1 x (.type (kindT t)) ∧ Q (.bl (f t)) H1 ∧ ∀ y p, H1 p = none → TyX K (upd H1 p (.tup y)) x (.type (kindT t)) ∧ Q (.bl (f t)) (upd H1 p (.tup y)) := by
  obtain ⟨e, F, R, h⟩ := h
  refine tX_imp (tX_bind (rel := fun σ => OdR K σ) R .refl h) fun x H1 ⟨r, e1, F1, R1, S1, O1, h1⟩ => ?_
  cases q : r.val e1 with
  | none => simp only [q] at h1; exact h1.elim
  | some t =>
    simp only [q] at h1
    have d := val_ok R1 O1 q
    refine ⟨t, dpo_ty R1.sub d, h1 _ F1 H1 R1 S1 (.bl _), fun y p hp => ?_⟩
    have R2 := laid_own (o := .tup y) R1 hp
    have S2 := laid_own_step (e := e1) (σ := σ) (F := F1) (o := .tup y) hp
    have d2 : DpO K F1 (upd H1 p (.tup y)) x t := by
      cases t with
      | list ts => obtain ⟨q, xs, rfl, h, z⟩ := d; exact ⟨q, xs, rfl, sqL_mono (fun a o w => by rw [upd_ne (ne_of_none w hp)]; exact w) h, z⟩
      | _ => exact d
    exact ⟨dpo_ty R2.sub d2, h1 _ F1 _ R2 (S1.trans S2) (.bl _)⟩
theorem qisi {n : Str} {T' : String} {f : T → Bool} {p p2 : Pos} (hk : ∀ t, kitB (kindT t) T' = some (f t)) (hg : Gl X "isinstance") (hm : X.mg "isinstance" = none) (hgn : Gl X n) (hmn : X.mg n = none) (hv : bootBuiltins n = some (.type T')) (ha : QE X W a ma)
    (hn : n ≠ "__name__" := by decide) (hd : (n == ("__debug__" : Str)) = false := by decide)
    (he : starEach [a, .Name n p2] X.env = (false, eval a X.env) :: starEach [.Name n p2] X.env := by rfl) (he2 : starEach [.Name n p2] X.env = [(false, eval (.Name n p2) X.env)] := by rfl) (hpl : (backTo pos (starEach [.Name n p2] X.env)).any (·.1) = false := by rfl) :
    QE X W (.Call (.Name "isinstance" p) [a, .Name n p2] [] pos) (eIsi f ma) := by
  refine pe_mono (pe_callB call_isi hg hm (by decide +kernel) (pa_cons ha (pa_cons (pe_bltn hgn hmn hv (v := .ty T') rfl hn hd) pa_nil he2) he) (by decide) (by decide) he hpl) fun σ H Q h => ?_
  refine tX_imp (isi_read h) fun x H1 ⟨t, ty, q, _⟩ => ?_
  exact ⟨x, .ty T', _, .type T', f t, rfl, .ty T', ty, kit_ty (hk t), q⟩
theorem qisi2 {n n' : Str} {T1 T2 : String} {f : T → Bool} {p p2 p3 p4 : Pos} {kk : Nat} (hk : ∀ t, PySem.W.kitAny X.K (.type (kindT t)) [.type T1, .type T2] = some (f t)) (hg : Gl X "isinstance") (hm : X.mg "isinstance" = none) (hgn : Gl X n) (hmn : X.mg n = none) (hv : bootBuiltins n = some (.type T1))
    (hgn' : Gl X n') (hmn' : X.mg n' = none) (hv' : bootBuiltins n' = some (.type T2)) (ha : QE X W a ma)
    (hn : n ≠ "__name__" := by decide) (hd : (n == ("__debug__" : Str)) = false := by decide) (hn' : n' ≠ "__name__" := by decide) (hd' : (n' == ("__debug__" : Str)) = false := by decide)
    (he : starEach [a, .Tuple [.Name n p2, .Name n' p3] kk p4] X.env = (false, eval a X.env) :: starEach [.Tuple [.Name n p2, .Name n' p3] kk p4] X.env := by rfl) (he2 : starEach [.Tuple [.Name n p2, .Name n' p3] kk p4] X.env = [(false, eval (.Tuple [.Name n p2, .Name n' p3] kk p4) X.env)] := by rfl)
    (he3 : starEach [.Name n p2, .Name n' p3] X.env = (false, eval (.Name n p2) X.env) :: starEach [.Name n' p3] X.env := by rfl) (he4 : starEach [.Name n' p3] X.env = [(false, eval (.Name n' p3) X.env)] := by rfl)
    (hpl : (backTo pos (starEach [.Tuple [.Name n p2, .Name n' p3] kk p4] X.env)).any (·.1) = false := by rfl) :
    QE X W (.Call (.Name "isinstance" p) [a, .Tuple [.Name n p2, .Name n' p3] kk p4] [] pos) (eIsi f ma) := by
  refine pe_mono (pe_callB call_isiT hg hm (by decide +kernel) (pa_cons ha (pa_cons (pe_tup (pa_cons (pe_bltn hgn hmn hv (v := .ty T1) rfl hn hd) (pa_cons (pe_bltn hgn' hmn' hv' (v := .ty T2) rfl hn' hd') pa_nil he4) he3)) pa_nil he2) he) (by decide) (by decide) he hpl) fun σ H Q h => ?_
  refine tX_imp (isi_read h) fun x H1 ⟨t, ty, q, z⟩ => ?_
  refine ⟨(by show 2 ≤ sizeLine; decide), fun p hp => ?_⟩
  obtain ⟨ty2, q2⟩ := z [.ty T1, .ty T2] p hp
  exact ⟨x, p, [.ty T1, .ty T2], _, [.type T1, .type T2], f t, rfl, upd_same, .cons (.ty T1) (.cons (.ty T2) .nil), ty2, hk t, q2⟩

/-! ### slices -/
abbrev SemP := En → Out (Option Int)
abbrev QP (X : Cx) (W : WX) (ex : Option Expr) (m : SemP) : Prop := PO X ex (tX X.K W (fun _ _ _ _ (x : Option Int) r => x = r) m)
theorem po_mono {ex : Option Expr} {t t' : TO} (h : PO X ex t) (m : ∀ σ H Q, t' σ H Q → t σ H Q) : PO X ex t' := ⟨fun pins s σ H Q I q => h.run pins s σ H Q I (m σ H Q q)⟩
def pNo : SemP := fun e => .ok none e
def pSo (m : SemE) : SemP := fun e => (m e).bind fun r e1 => match r.val e1 with
  | some (.int i) => .ok (some i) e1
  | _ => .bad
theorem qpn : QP X W none pNo := po_mono po_none fun σ H Q ⟨e, F, R, h⟩ => h _ F H R .refl rfl
theorem qps (ha : QE X W a ma) : QP X W (some a) (pSo ma) := by
  refine po_mono (po_some ha) fun σ H Q h => ?_
  obtain ⟨e, F, R, h⟩ := h
  refine tX_imp (tX_bind (rel := fun σ => OdR X.K σ) R .refl h) fun x H1 ⟨r, e1, F1, R1, S1, O1, h1⟩ => ?_
  cases q : r.val e1 with
  | none => simp only [q] at h1; exact h1.elim
  | some t =>
    have d := val_ok R1 O1 q
    cases t with
    | int i => simp only [q] at h1; cases d; exact ⟨i, rfl, h1 _ F1 H1 R1 S1 rfl⟩
    | none => simp only [q] at h1; exact h1.elim
    | bool _ => simp only [q] at h1; exact h1.elim
    | str _ => simp only [q] at h1; exact h1.elim
    | list _ => simp only [q] at h1; exact h1.elim
    | tuple _ => simp only [q] at h1; exact h1.elim
    | dict _ => simp only [q] at h1; exact h1.elim
def cutT {α : Type} (xs : List α) (lo hi : Option Int) : List α := (xs.drop (HT.sIx xs.length 0 lo)).take (HT.sIx xs.length xs.length hi - HT.sIx xs.length 0 lo)
def eSl (m : SemE) (lo hi : SemP) : SemE := fun e => (m e).bind fun r e1 => (lo e1).bind fun l e2 => (hi e2).bind fun h e3 => match r.val e3 with
  | some (.list ts) => .ok (.b (.l (cutT ts l h))) e3
  | some (.tuple ts) => .ok (.r (.tuple (cutT ts l h))) e3
  | _ => .bad
theorem cut_dp {K : PySem.W.Frag} {F : Hp} {ts : List T} {xs : List V} {l h : Option Int} (d : DpAll K F xs ts) : DpAll K F (cutV xs l h) (cutT ts l h) := by
  unfold cutV cutT
  rw [dpAll_len d]
  exact dpAll_take _ (dpAll_drop _ d)
theorem qsl {lo hi : Option Expr} {ml mh : SemP} {p2 : Pos} (ha : QE X W a ma) (hl : QP X W lo ml) (hu : QP X W hi mh) : QE X W (.Subscript a (.Slice lo hi none p2) pos) (eSl ma ml mh) := by
  refine pe_mono (pe_slice (SlR.or sl_list sl_tupA) ha hl hu) fun σ H Q h => ?_
  obtain ⟨e, F, R, h⟩ := h
  refine tX_imp (tX_bind (rel := fun σ => OdR X.K σ) R .refl h) fun x H1 ⟨r, e1, F1, R1, S1, O1, h1⟩ => ?_
  refine tX_imp (tX_bind (rel := fun _ _ _ _ (x : Option Int) r => x = r) R1 S1 h1) fun l H2 ⟨l', e2, F2, R2, S2, El, h2⟩ => ?_
  refine tX_imp (tX_bind (rel := fun _ _ _ _ (x : Option Int) r => x = r) R2 (S1.trans S2) h2) fun u H3 ⟨u', e3, F3, R3, S3, Eu, h3⟩ => ?_
  subst El Eu
  have S' := (S1.trans S2).trans S3
  have O3 := od_stay O1 (fun p hp => fresh_not_own R S1 hp) (S2.trans S3)
  cases q : r.val e3 with
  | none => simp only [q] at h3; exact h3.elim
  | some t =>
    have d := val_ok R3 O3 q
    cases t with
    | list ts =>
      simp only [q] at h3
      obtain ⟨p, xs, rfl, hs, dd⟩ := d
      exact .inl ⟨p, xs, rfl, hs, fun p hp => (fin_of R3 S' h3 True.intro : Fin X.K F3 H3 Q (.b (.l _))) p _ hp (cut_dp dd)⟩
    | tuple ts =>
      simp only [q] at h3
      have fin := (fin_of R3 S' h3 True.intro : Fin X.K F3 H3 Q (.r (.tuple _)))
      have d0 : Dp X.K F3 x (.tuple ts) := d
      cases d with
      | tup hs dd =>
        refine .inr ⟨_, _, rfl, tupS R3.sub hs, fun w => ?_, fun _ p hp => fin.2 _ p _ rfl hp (cut_dp dd)⟩
        refine fin.1 _ ?_
        have e : cutT ts l u = ts := by
          unfold cutT
          rw [← dpAll_len dd, w.1, w.2, dpAll_len dd]
          simp
        rw [e]; exact d0
    | none => simp only [q] at h3; exact h3.elim
    | bool _ => simp only [q] at h3; exact h3.elim
    | str _ => simp only [q] at h3; exact h3.elim
    | int _ => simp only [q] at h3; exact h3.elim
    | dict _ => simp only [q] at h3; exact h3.elim
end
/-! ### xs[::-1] of a list and of a tuple -/
section
variable {prog : Program} {w : World} {A : Around} {E : Value → Shared → Prop} {s : Shared}
theorem dpAll_rev {K : PySem.W.Frag} {F : Hp} : ∀ {ts : List T} {xs : List V}, DpAll K F xs ts → DpAll K F xs.reverse ts.reverse
  | [], _, h => by cases h; exact .nil
  | _ :: _, _, h => by cases h with | cons a b => rw [List.reverse_cons, List.reverse_cons]; exact dpAll_app (dpAll_rev b) (.cons a .nil)
end
end Ev
namespace Ev
open PySem PySem.Spec PyProof.Rows L2 HT
section
variable {prog : Program} {w : World} {A : Around} {E : Value → Shared → Prop} {s : Shared}
theorem adjust_rev (n : Nat) : Builtin.Slice.sliceAdjust none none (-1) (n : Int) = ((n : Int) - 1, -1) := by
  unfold Builtin.Slice.sliceAdjust
  have h1 : ((-1 : Int) < 0) := by omega
  simp only [h1, if_true]
theorem places_rev (n : Nat) : Builtin.Slice.slicePlaces ((n : Int) - 1) (-1) (-1) = n := by
  unfold Builtin.Slice.slicePlaces
  have h1 : ¬ ((-1 : Int) > 0) := by omega
  have h2 : (- -1 : Int) = 1 := by decide
  simp only [h1, if_false, h2, Int.ediv_one]
  split <;> omega
theorem applied_rev {sl : Addr} {vl vu vs : Value} {n : Nat} {Q : Int × Int × Nat → Shared → Prop} (hs : s.heap.IsSliceOf sl vl vu vs) (pl : IsPart vl none) (pu : IsPart vu none) (ps : IsPart vs (some (-1)))
    (h : Q ((n : Int) - 1, -1, n) s) : wpAny (model prog w) A (Builtin.Slice.sliceApplied (.ref sl) (pure (n : Int))) Q E s := by
  obtain ⟨os, hos, hcs, hds⟩ := id hs
  unfold Builtin.Slice.sliceApplied Builtin.Slice.sliceFields
  refine wpAny_bind (wpAny_bind (wpAny_field hos hds (x := vl) rfl (wpAny_bind (wpAny_field hos hds (x := vu) rfl (wpAny_bind (wpAny_field hos hds (x := vs) rfl (wpAny_pure ?_)))))))
  refine wpAny_bind (slicePart_ ps ?_)
  show wpAny _ _ (if ((-1 : Int) == 0) = true then _ else _) _ _ s
  rw [if_neg (by decide)]
  refine wpAny_bind (slicePart_ pl (wpAny_bind (slicePart_ pu (wpAny_bind (wpAny_pure ?_)))))
  show wpAny _ _ (match Builtin.Slice.sliceAdjust none none (-1) (n : Int) with | (lo, hi) => pure (lo, (-1 : Int), Builtin.Slice.slicePlaces lo hi (-1))) _ _ s
  rw [adjust_rev n]
  show wpAny _ _ (pure ((n : Int) - 1, (-1 : Int), Builtin.Slice.slicePlaces ((n : Int) - 1) (-1) (-1))) _ _ s
  rw [places_rev]
  exact wpAny_pure h
theorem pick_rev (xs : Array Value) : ((List.range xs.size).filterMap fun (m : Nat) => xs[((xs.size : Int) - 1 + (m : Int) * (-1)).toNat]?).toArray = xs.toList.reverse.toArray := by
  have e : (fun (m : Nat) => xs[((xs.size : Int) - 1 + (m : Int) * (-1)).toNat]?) = fun m => xs[xs.size - 1 - m]? := by
    funext m
    have : ((xs.size : Int) - 1 + (m : Int) * (-1)).toNat = xs.size - 1 - m := by omega
    rw [this]
  rw [e]
  congr 1
  have h1 := PySem.W.krv_range xs.size
  have h2 : (List.range xs.size).filterMap (fun m => xs[xs.size - 1 - m]?) = ((List.range xs.size).map (fun k => xs.size - 1 - k)).filterMap (fun j => xs[j]?) := by rw [List.filterMap_map]; rfl
  rw [h2, h1, List.filterMap_reverse, PySem.W.krv_all]
theorem getItem_tuple_rev {t sl : Addr} {items : Array Value} {vl vu vs : Value} {Q : Value → Shared → Prop} (ht : IsTup s.heap t items) (hs : s.heap.IsSliceOf sl vl vu vs) (pl : IsPart vl none) (pu : IsPart vu none) (ps : IsPart vs (some (-1)))
    (h : Q (.ref s.heap.objs.size) { s with heap := s.heap.push { cls := .type "tuple", data := .seq items.toList.reverse.toArray } })
    (hsz : items.size ≤ sizeLine) : wpAny (model prog w) A (getItem (.ref t) (.ref sl)) Q E s := by
  have htake : sizeOk (.seq items.toList.reverse.toArray) := by
    show items.toList.reverse.toArray.size ≤ sizeLine
    rw [List.size_toArray, List.length_reverse, Array.length_toList]
    omega
  obtain ⟨os, hos, hcs, hds⟩ := id hs
  have hTs : s.TypeIs (.ref sl) "slice" := ⟨os, hos, hcs⟩
  unfold getItem
  try with_reducible refine wpAny_holding ?_
  first | refine wpAny_bind (wpAny_pure ?_) | skip
  refine wpAny_bind (wpAny_sequenceKey ht.typeIs (by decide) ?_)
  refine wpAny_bind (wpAny_callSpecial?_slot (name := Str.ofString "__getitem__") ht.typeIs PyProof.Rows.slot_tuple_getitem
    (wpAny_call_entry PyProof.Rows.slot_tuple_getitem ht.typeIs entry_tuple_getitem ?_ (args_tuple_getitem _ _)))
  show wpAny _ _ (Builtin.Tuple.tupleItemsOf (.ref t) >>= _) _ _ s
  refine wpAny_bind (tupleItemsOf_ ht ?_)
  refine wpAny_bind (wpAny_typeOf hTs ?_)
  rw [if_pos (by decide)]
  refine wpAny_bind (applied_rev (n := items.size) hs pl pu ps ?_)
  have hno : ¬ ((((items.size : Nat) : Int) - 1 == 0 && (-1 : Int) == 1 && items.size == items.size) = true) := by simp
  show wpAny _ _ (if ((((items.size : Nat) : Int) - 1 == 0 && (-1 : Int) == 1 && items.size == items.size) = true) then _ else _) _ _ s
  rw [if_neg hno, pick_rev]
  first
    | exact wpAny_bind (m := Builtin.Tuple.tupleExact _) (wpAny_newObj_type (wpAny_pure ⟨_, rfl, wpAny_pure h⟩) htake)
    | exact wpAny_bind (m := Builtin.Tuple.tupleExact _) (wpAny_newObj_type (wpAny_bind (wpAny_pure (wpAny_pure ⟨_, rfl, wpAny_pure h⟩))) htake)
    | exact wpAny_bind (wpAny_bind (m := Builtin.Tuple.tupleExact _) (wpAny_newObj_type (wpAny_pure (wpAny_pure ⟨_, rfl, wpAny_pure h⟩)) htake))
    | exact wpAny_bind (wpAny_bind (m := Builtin.Tuple.tupleExact _) (wpAny_newObj_type (wpAny_pure ⟨_, rfl, wpAny_pure h⟩) htake))
end
section
variable {X : Cx} {W : WX} {a : Expr} {ma : SemE} {pos : Pos}
def tRev2 (K : PySem.W.Frag) (te : TE) : TE := fun σ H Q => te σ H fun x H1 => ∃ a xs, x = .ref a ∧ ((SqL K H1 a xs ∧ ∀ p, H1 p = none → Q (.ref p) (upd H1 p (.lst xs.reverse))) ∨ (SqT K H1 a xs ∧ ∀ p, H1 p = none → Q (.ref p) (upd H1 p (.tup xs.reverse))))
theorem pe_rev2 {e : Expr} {te : TE} {k : Nat} {p1 p2 p3 pos : Pos} (he : PE X e te) : PE X (.Subscript e (.Slice none none (some (.UnaryOp .USub (.Constant (.int 1) k p1) p2)) p3) pos) (tRev2 X.K te) := by
  refine ⟨fun pins s σ H Q I h => ?_⟩
  refine Subscript_ (thn (he.run pins s σ H _ I h) fun v s1 ⟨x, H1, I1, r1, q1⟩ => ?_)
  obtain ⟨a, xs, ex, q1⟩ := q1
  subst ex
  cases r1
  have hst : PO X (some (.UnaryOp .USub (.Constant (.int 1) k p1) p2)) (tPart (tUn (rU fun i => .int (-i)) (tC (.int 1)))) := po_some (pe_un un_neg pe_int)
  refine wpAny_Slice (thn (po_none.run pins s1 σ H1 (fun o H2 => o = none ∧ H2 = H1) I1 ⟨rfl, rfl⟩) fun vl s2 ⟨l, H2, I2, pl, el, e2⟩ => ?_)
  subst el e2
  refine thn (po_none.run pins s2 σ H2 (fun o H3 => o = none ∧ H3 = H2) I2 ⟨rfl, rfl⟩) fun vu s3 ⟨u, H3, I3, pu, eu, e3⟩ => ?_
  subst eu e3
  refine thn (hst.run pins s3 σ H3 (fun o H4 => o = some (-1) ∧ H4 = H3) I3 ⟨1, rfl, -1, rfl, rfl, rfl⟩) fun vs s4 ⟨o, H4, I4, ps, eo, e4⟩ => ?_
  subst eo e4
  have I5 : Inv X pins σ H4 { s4 with heap := s4.heap.push { cls := .type "slice", data := .fields #[vl, vu, vs] } } := I4.kept (t' := s4.toks) fun b ob q => Heap.get?_push_of_some _ q
  show wpAny (model X.prog X.w) X.A (subscriptTail e (.Slice none none (some (.UnaryOp .USub (.Constant (.int 1) k p1) p2)) p3) (.ref a) (.ref s4.heap.objs.size)) (EP X pins σ Q) X.xe { s4 with heap := s4.heap.push { cls := .type "slice", data := .fields #[vl, vu, vs] } }
  rcases q1 with ⟨hx, q⟩ | ⟨hx, q⟩
  · obtain ⟨its, r, ht, hz⟩ := I5.list hx
    have hlen := r.length
    refine tail_any (ops := [.ref a, .ref s4.heap.objs.size]) ht.isList.typeIs (PySem.slot_list_getitem.lookup) ?_ (by with_unfolding_all rfl)
    refine wpAny_getItem_list_slice ht.isList (Heap.IsSliceOf.new _ vl vu vs) pl pu ps (by decide) ?_ (by rw [List.size_toArray]; omega)
    rw [PySem.W.krv_pick]
    refine ⟨.ref _, _, I5.laid (t' := s4.toks) (o := .lst xs.reverse) (fun b ob q => Heap.get?_push_of_some _ q) (Nat.le_refl _) ?_, rfl, q _ (I5.hok.fresh (Nat.le_refl _))⟩
    exact ⟨by rw [List.length_reverse]; exact hz, _, 0, r.reverse, Heap.get?_push_size _ rfl⟩
  · obtain ⟨its, r, ht, hz⟩ := I5.tuple hx
    have hlen := r.length
    refine tail_any (ops := [.ref a, .ref s4.heap.objs.size]) ht.typeIs (PyProof.Rows.slot_tuple_getitem.lookup) ?_ (by with_unfolding_all rfl)
    refine getItem_tuple_rev ht (Heap.IsSliceOf.new _ vl vu vs) pl pu ps ?_ (by rw [List.size_toArray]; omega)
    refine ⟨.ref _, _, I5.laid (t' := s4.toks) (o := .tup xs.reverse) (fun b ob q => Heap.get?_push_of_some _ q) (Nat.le_refl _) ?_, rfl, q _ (I5.hok.fresh (Nat.le_refl _))⟩
    exact ⟨by rw [List.length_reverse]; exact hz, _, r.reverse, IsTup.new _ _⟩
def eRev (m : SemE) : SemE := fun e => (m e).bind fun r e1 => match r.val e1 with
  | some (.list ts) => .ok (.b (.l ts.reverse)) e1
  | some (.tuple ts) => .ok (.r (.tuple ts.reverse)) e1
  | _ => .bad
theorem qrev {k : Nat} {p1 p2 p3 : Pos} (ha : QE X W a ma) : QE X W (.Subscript a (.Slice none none (some (.UnaryOp .USub (.Constant (.int 1) k p1) p2)) p3) pos) (eRev ma) := by
  refine pe_mono (pe_rev2 ha) fun σ H Q h => ?_
  obtain ⟨e, F, R, h⟩ := h
  refine tX_imp (tX_bind (rel := fun σ => OdR X.K σ) R .refl h) fun x H1 ⟨r, e1, F1, R1, S1, O1, h1⟩ => ?_
  cases q : r.val e1 with
  | none => simp only [q] at h1; exact h1.elim
  | some t =>
    have d := val_ok R1 O1 q
    cases t with
    | list ts =>
      simp only [q] at h1
      obtain ⟨p, xs, rfl, hs, dd⟩ := d
      exact ⟨p, xs, rfl, .inl ⟨hs, fun p hp => (fin_of R1 S1 h1 True.intro : Fin X.K F1 H1 Q (.b (.l _))) p _ hp (dpAll_rev dd)⟩⟩
    | tuple ts =>
      simp only [q] at h1
      cases d with
      | tup hs dd => exact ⟨_, _, rfl, .inr ⟨tupS R1.sub hs, fun p hp => (fin_of R1 S1 h1 True.intro : Fin X.K F1 H1 Q (.r (.tuple _))).2 _ p _ rfl hp (dpAll_rev dd)⟩⟩
    | none => simp only [q] at h1; exact h1.elim
    | bool _ => simp only [q] at h1; exact h1.elim
    | str _ => simp only [q] at h1; exact h1.elim
    | int _ => simp only [q] at h1; exact h1.elim
    | dict _ => simp only [q] at h1; exact h1.elim
end
end Ev

set_option Elab.async false
set_option linter.all false
set_option maxRecDepth 100000
namespace Ev
open PySem PySem.Spec PyProof.Rows L2
section
variable {K : PySem.W.Frag} {W : WX} {e e1 : En} {σ : Sg} {F H : Hp}
/-- what a name alone holds is changed -/
theorem upd_own {i : Nat} {l : Bool} {z : Bx} {ts' : List T} {p : Addr} {xs' : List V} (R : Rel K e σ F H) (h1 : e[i]? = some (.ow l z)) (h2 : σ[i]? = some (some (.ref p))) (d : DpAll K F xs' ts') :
    Rel K (e.set i (.ow l (.l ts'))) σ F (upd H p (.lst xs')) ∧ Step e (e.set i (.ow l (.l ts'))) σ F H F (upd H p (.lst xs')) := by
  have hi : i < e.length := (List.getElem?_eq_some_iff.mp h1).1
  have ow : Own e σ p := ⟨i, l, z, h1, h2⟩
  have hf := (R.owned ow).1
  have get : ∀ (j : Nat) (s : Sl), (e.set i (.ow l (.l ts')))[j]? = some s → (j = i ∧ s = .ow l (.l ts')) ∨ (i ≠ j ∧ e[j]? = some s) := fun j s h => by
    by_cases q : i = j
    · subst q; rw [List.getElem?_set_self hi] at h; cases h; exact .inl ⟨rfl, rfl⟩
    · rw [List.getElem?_set_ne q] at h; exact .inr ⟨q, h⟩
  have kind : ∀ (j : Nat) (l' : Bool) (b' : Bx), (e.set i (.ow l (.l ts')))[j]? = some (.ow l' b') → ∃ b, e[j]? = some (.ow l' b) := fun j l' b' h => by
    rcases get j _ h with ⟨rfl, q⟩ | ⟨_, q⟩
    · cases q; exact ⟨z, h1⟩
    · exact ⟨b', q⟩
  refine ⟨⟨fun a o h => ?_, by simp [R.len], fun j s o g1 g2 => ?_, fun j j' l1 b1 l2 b2 q g1 g2 g3 g4 => ?_⟩, ⟨fun _ _ h => h, fun a o h n => ?_, fun a o h => ?_, fun a ⟨j, l', b', g1, g2⟩ => ?_, fun j hj => ?_, kind⟩⟩
  · rw [upd_ne (ne_of_none h hf)]; exact R.sub _ _ h
  · rcases get j s g1 with ⟨rfl, rfl⟩ | ⟨q, g⟩
    · rw [h2] at g2; cases g2; exact ⟨p, rfl, hf, xs', upd_same, d⟩
    · have w := R.at_ j s o g g2
      cases s with
      | un => trivial
      | v t => exact w
      | fz b => exact w
      | ow l' b =>
        obtain ⟨p', ep, hf', bx⟩ := w
        subst ep
        have np : p' ≠ p := fun w => by subst w; exact q (R.ne i j l z l' b p' h1 g h2 g2)
        exact ⟨p', rfl, hf', bx_keep bx (fun _ _ h => h) fun o' h' => by rw [upd_ne np]; exact h'⟩
  · obtain ⟨b1', q1⟩ := kind j _ _ g1
    obtain ⟨b2', q2⟩ := kind j' _ _ g2
    exact R.ne j j' _ _ _ _ q q1 q2 g3 g4
  · have np : a ≠ p := fun w => n (by subst w; exact ow)
    exact ⟨by rw [upd_ne np]; exact h, fun w => w⟩
  · by_cases q : a = p
    · subst q; exact ⟨_, upd_same⟩
    · exact ⟨o, by rw [upd_ne q]; exact h⟩
  · obtain ⟨b, q⟩ := kind j _ _ g1
    exact ⟨j, l', b, q, g2⟩
  · obtain ⟨b', q⟩ := hj
    by_cases ij : i = j
    · subst ij
      rw [h1] at q
      rcases q with q | q
      · cases q; exact ⟨_, .inl (List.getElem?_set_self hi)⟩
      · cases q
    · exact ⟨b', by rw [List.getElem?_set_ne ij]; exact q⟩
end
/-- a method that changes a list, met by g -/
def MutDoes (K : PySem.W.Frag) (r : V → List V → Hp → VK → Prop) (g : List T → List T → Option (List T × T)) : Prop :=
  ∀ (p : Addr) (xs vs : List V) (ts us : List T) (ts' : List T) (w : T) (F H : Hp) (Q : VK), H p = some (.lst xs) → DpAll K F xs ts → DpAll K F vs us → g ts us = some (ts', w) →
    (∀ xs' v, DpAll K F xs' ts' → Dp K F v w → Q v (upd H p (.lst xs'))) → r (.ref p) vs H Q
def eMut (i : Nat) (g : List T → List T → Option (List T × T)) (ma : SemA) : SemE := fun e => match e[i]? with
  | some (.ow _ (.l _)) => (ma e).bind fun rs e1 => (match escs rs e1 with
    | some (us, e2) => (match e2[i]? with
      | some (.ow l (.l ts)) => (match g ts us with
        | some (ts', w) => .ok (.r w) (e2.set i (.ow l (.l ts')))
        | none => .bad)
      | _ => .bad)
    | none => .bad)
  | _ => .bad
section
variable {X : Cx} {W : WX} {a b c : Expr} {ma mb mc : SemE} {pos : Pos}
theorem mut_read {K : PySem.W.Frag} {i : Nat} {r : V → List V → Hp → VK → Prop} {g : List T → List T → Option (List T × T)} {m : SemA} (hr : MutDoes K r g) {σ : Sg} {H : Hp} {Q : VK} (h : tE K W (eMut i g m) σ H Q) :
    ∃ p, σ[i]? = some (some (.ref p)) ∧ (∃ xs, SqL K H p xs) ∧ tA K W m σ H fun vs H2 => r (.ref p) vs H2 Q := by
  obtain ⟨e, F, R, h⟩ := h
  simp only [eMut] at h
  cases q : e[i]? with
  | none => rw [q] at h; exact h.elim
  | some s =>
    rw [q] at h
    cases s with
    | un => exact h.elim
    | v _ => exact h.elim
    | fz _ => exact h.elim
    | ow l z =>
      cases z with
      | d _ => exact h.elim
      | m _ => exact h.elim
      | n _ => exact h.elim
      | l ts0 =>
        simp only at h
        obtain ⟨o, hs, p, ep, hf, xs0, hx0, d0⟩ := R.var q
        subst ep
        refine ⟨p, hs, ⟨xs0, SqL.of hx0⟩, ?_⟩
        refine tX_imp (tX_bind (rel := fun σ Hs F H xs rs => OdsR K σ Hs F H rs xs) R .refl h) fun vs H1 ⟨rs, e1, F1, R1, S1, O1, h1⟩ => ?_
        cases q1 : escs rs e1 with
        | none => simp only [q1] at h1; exact h1.elim
        | some te =>
          obtain ⟨us, e2⟩ := te
          simp only [q1] at h1
          obtain ⟨F2, R2, S2, d2, _⟩ := escs_ok R R1 S1 O1 q1
          cases q2 : e2[i]? with
          | none => rw [q2] at h1; exact h1.elim
          | some s2 =>
            rw [q2] at h1
            cases s2 with
            | un => exact h1.elim
            | v _ => exact h1.elim
            | fz _ => exact h1.elim
            | ow l2 z2 =>
              cases z2 with
              | d _ => exact h1.elim
              | m _ => exact h1.elim
              | n _ => exact h1.elim
              | l ts =>
                simp only at h1
                obtain ⟨p', ep, hf2, xs, hx, d⟩ := R2.at_ i _ _ q2 hs
                cases ep
                cases q3 : g ts us with
                | none => rw [q3] at h1; exact h1.elim
                | some tw =>
                  obtain ⟨ts', w⟩ := tw
                  rw [q3] at h1
                  refine hr p xs vs ts us ts' w F2 H1 Q hx d d2 q3 fun xs' v d' dw => ?_
                  obtain ⟨R3, S3⟩ := upd_own R2 q2 hs d'
                  exact h1 v F2 _ R3 (S2.trans S3) dw
theorem qmeth {i : Nat} {x name : Str} {p apos cpos : Pos} {id : String} {r : V → List V → Hp → VK → Prop} {g : List T → List T → Option (List T × T)} {m : SemA} {es : List Expr} (slot : Slot "list" name id) (hty : typeOf (.builtin id) = pure (.type "method_descriptor")) (hm : MtR X id r) (hr : MutDoes X.K r g)
    (hN : X.N[i]? = some x) (hv : Vis X.env.scope x) (ha : QA X W (a :: es) m) (hd : (x == ("__debug__" : Str)) = false := by decide) (hcd : (x == ("__classdict__" : Str)) = false := by decide)
    (hbase : attributeBase (.Name x p) name X.env (eval (.Name x p) X.env) = eval (.Name x p) X.env := by rfl)
    (hfew : ((backTo cpos (starEach (a :: es) X.env)).all (fun x => !x.1) && (backToKw cpos (keywordEach [] X.env)).all (fun x => x.1.isSome)
      && decide ((a :: es).length + ([] : List Keyword).length + (if ([] : List Keyword).isEmpty then 0 else 1) < 30)) = true := by rfl)
    (hline : (apos.endLine == cpos.line) = true := by rfl) (hs : starEach (a :: es) X.env = (false, eval a X.env) :: starEach es X.env := by rfl) (hplain : (backTo cpos (starEach es X.env)).any (·.1) = false := by rfl) :
    QE X W (.Call (.Attribute (.Name x p) name apos) (a :: es) [] cpos) (eMut i g m) :=
  pe_mono (pe_bm PySem.F.plainAttrs_list slot hty hm (pe_var hN hv hd hcd) ha hbase hfew hline hs hplain) fun σ H Q h => by
    obtain ⟨p, hs, hl, h⟩ := mut_read hr h
    exact ⟨_, hs, .inl ⟨rfl, hl⟩, h⟩
/-! ### the methods -/
def gAppend (ts us : List T) : Option (List T × T) := match us with
  | [u] => if ts.length < sizeLine then some (ts ++ [u], .none) else none
  | _ => none
theorem does_append {K : PySem.W.Frag} : MutDoes K rAppend gAppend := by
  intro p xs vs ts us ts' w F H Q hx d dv hg q
  cases dv with
  | nil => cases hg
  | cons a dv =>
    cases dv with
    | cons _ _ => cases hg
    | nil =>
      simp only [gAppend] at hg
      split at hg
      · rename_i hl; cases hg
        exact ⟨p, xs, _, rfl, rfl, hx, by rw [dpAll_len d]; exact hl, q _ _ (dpAll_app d (.cons a .nil)) .non⟩
      · cases hg
def gInsert (ts us : List T) : Option (List T × T) := match us with
  | [.int i, u] => if ts.length < sizeLine ∧ 0 ≤ i ∧ i < 2 ^ 63 then some (ts.take i.toNat ++ [u] ++ ts.drop i.toNat, .none) else none
  | _ => none
theorem dpAll_erase {K : PySem.W.Frag} {F : Hp} {ts : List T} {vs : List V} (k : Nat) (d : DpAll K F vs ts) : DpAll K F (vs.eraseIdx k) (ts.eraseIdx k) := by
  rw [List.eraseIdx_eq_take_drop_succ, List.eraseIdx_eq_take_drop_succ]
  exact dpAll_app (dpAll_take _ d) (dpAll_drop _ d)
def gPop (ts us : List T) : Option (List T × T) := match us with
  | [.int i] => if -(2 ^ 63) ≤ i ∧ i < 2 ^ 63 then (match seqIndex? i ts.length with
    | some k => (match ts[k]? with
      | some t => some (ts.eraseIdx k, t)
      | none => none)
    | none => none) else none
  | _ => none
theorem does_pop {K : PySem.W.Frag} : MutDoes K rPopAt gPop := by
  intro p xs vs ts us ts' w F H Q hx d dv hg q
  cases dv with
  | nil => cases hg
  | cons a dv =>
    cases dv with
    | cons _ _ => cases a <;> cases hg
    | nil =>
      cases a with
      | int i =>
        simp only [gPop] at hg
        split at hg
        · rename_i hl
          cases e : seqIndex? i ts.length with
          | none => rw [e] at hg; cases hg
          | some k =>
            simp only [e] at hg
            cases e2 : ts[k]? with
            | none => rw [e2] at hg; cases hg
            | some t =>
              rw [e2] at hg; cases hg
              obtain ⟨v, hv, dv⟩ := dpAll_get d e2
              exact ⟨p, xs, i, k, v, rfl, rfl, hx, hl.1, hl.2, by rw [dpAll_len d]; exact e, hv, q _ _ (dpAll_erase _ d) dv⟩
        · cases hg
      | _ => cases hg
/-! ### built-ins -/
end
/-- of one value; of two -/
def g1 (f : T → Option Od) : List T → Option Od
  | [t] => f t
  | _ => none
def g2 (f : T → T → Option Od) : List T → Option Od
  | [t, u] => f t u
  | _ => none
theorem doesN1 {K : PySem.W.Frag} {r : List V → Hp → VK → Prop} {f : T → Option Od} (h : ∀ (x : V) (t : T) (w : Od) (F H : Hp) (Q : VK), (∀ a o, F a = some o → H a = some o) → DpO K F H x t → f t = some w → Back w ∧ (Fin K F H Q w → r [x] H Q)) : DoesN K r (g1 f) := by
  intro xs ts w F H Q ff d hg
  cases d with
  | nil => cases hg
  | cons a d =>
    cases d with
    | nil => exact h _ _ w F H Q ff a hg
    | cons _ _ => cases hg
theorem doesN2 {K : PySem.W.Frag} {r : List V → Hp → VK → Prop} {f : T → T → Option Od} (h : ∀ (x y : V) (t u : T) (w : Od) (F H : Hp) (Q : VK), (∀ a o, F a = some o → H a = some o) → DpO K F H x t → DpO K F H y u → f t u = some w → Back w ∧ (Fin K F H Q w → r [x, y] H Q)) : DoesN K r (g2 f) := by
  intro xs ts w F H Q ff d hg
  cases d with
  | nil => cases hg
  | cons a d =>
    cases d with
    | nil => cases hg
    | cons b d =>
      cases d with
      | nil => exact h _ _ _ _ w F H Q ff a b hg
      | cons _ _ => cases hg
def fLen : T → Option Od
  | .list ts => some (.r (.int ts.length))
  | .tuple ts => some (.r (.int ts.length))
  | _ => none
abbrev gLen := g1 fLen
def rLen2 (K : PySem.W.Frag) : List V → Hp → VK → Prop := fun xs H Q => ∃ p ys, xs = [.ref p] ∧ (SqL K H p ys ∨ SqT K H p ys) ∧ Q (.int ys.length) H
theorem does_len {K : PySem.W.Frag} : DoesN K (rLen2 K) gLen := doesN1 fun x t w F H Q ff d hg => by
  cases t with
  | list ts =>
    cases hg
    obtain ⟨p, ys, rfl, h, dd⟩ := d
    exact ⟨trivial, fun q => ⟨p, ys, rfl, .inl h, by rw [dpAll_len dd]; exact q.1 _ (.int _)⟩⟩
  | tuple ts =>
    cases hg
    cases d with
    | tup h dd => exact ⟨trivial, fun q => ⟨_, _, rfl, .inr (tupS ff h), by rw [dpAll_len dd]; exact q.1 _ (.int _)⟩⟩
  | _ => cases hg
def fInt : T → Option Od
  | .int i => some (.r (.int i))
  | .bool k => some (.r (.int (if k then 1 else 0)))
  | _ => none
abbrev gInt := g1 fInt
theorem does_int {K : PySem.W.Frag} : DoesN K (fun xs H Q => (∃ i, xs = [.int i] ∧ Q (.int i) H) ∨ ∃ k, xs = [.bl k] ∧ Q (.int (if k then 1 else 0)) H) gInt := doesN1 fun x t w F H Q ff d hg => by
  cases t with
  | int i => cases hg; cases d; exact ⟨trivial, fun q => .inl ⟨i, rfl, q.1 _ (.int _)⟩⟩
  | bool i => cases hg; cases d; exact ⟨trivial, fun q => .inr ⟨i, rfl, q.1 _ (.int _)⟩⟩
  | _ => cases hg
def fAbs : T → Option Od
  | .int i => some (.r (.int (if i < 0 then -i else i)))
  | _ => none
abbrev gAbs := g1 fAbs
theorem does_abs {K : PySem.W.Frag} : DoesN K (fun xs H Q => ∃ i, xs = [.int i] ∧ Q (.int (if i < 0 then -i else i)) H) gAbs := doesN1 fun x t w F H Q ff d hg => by
  cases t with
  | int i => cases hg; cases d; exact ⟨trivial, fun q => ⟨i, rfl, q.1 _ (.int _)⟩⟩
  | _ => cases hg
abbrev gMax2 := g2 (gII (fun _ _ => true) fun i j => .int (if j > i then j else i))
abbrev gMin2 := g2 (gII (fun _ _ => true) fun i j => .int (if j < i then j else i))
theorem does2I {K : PySem.W.Frag} {c : Int → Int → Bool} {g : Int → Int → Int} : DoesN K (fun xs H Q => ∃ i j, xs = [.int i, .int j] ∧ Q (.int (g i j)) H) (g2 (gII c fun i j => .int (g i j))) := doesN2 fun x y t u w F H Q ff d d' hg => by
  cases t with
  | int i =>
    cases u with
    | int j =>
      simp only [gII] at hg
      split at hg
      · cases hg; cases d; cases d'; exact ⟨trivial, fun q => ⟨i, j, rfl, q.1 _ (.int _)⟩⟩
      · cases hg
    | _ => cases hg
  | _ => cases hg
theorem does_max2 {K : PySem.W.Frag} : DoesN K (fun xs H Q => ∃ i j, xs = [.int i, .int j] ∧ Q (.int (if j > i then j else i)) H) gMax2 := does2I
theorem does_min2 {K : PySem.W.Frag} : DoesN K (fun xs H Q => ∃ i j, xs = [.int i, .int j] ∧ Q (.int (if j < i then j else i)) H) gMin2 := does2I
abbrev gDivmod := g2 (gII (fun _ j => decide (0 < j ∧ j < 1073741824)) fun i j => .tuple [.int (i / j), .int (i % j)])
theorem does_divmod {K : PySem.W.Frag} : DoesN K (fun xs H Q => ∃ i j, xs = [.int i, .int j] ∧ CDiv i j ∧ ∀ p, H p = none → Q (.ref p) (upd H p (.tup [.int (i / j), .int (i % j)]))) gDivmod := doesN2 fun x y t u w F H Q ff d d' hg => by
  cases t with
  | int i =>
    cases u with
    | int j =>
      simp only [gII] at hg
      split at hg
      · rename_i hl
        cases hg; cases d; cases d'
        exact ⟨trivial, fun q => ⟨i, j, rfl, of_decide_eq_true (p := 0 < j ∧ j < 1073741824) hl, fun p hp => q.2 _ p _ rfl hp (.cons (.int _) (.cons (.int _) .nil))⟩⟩
      · cases hg
    | _ => cases hg
  | _ => cases hg
def fTuple : T → Option Od
  | .list ts => some (.r (.tuple ts))
  | .tuple ts => some (.r (.tuple ts))
  | _ => none
abbrev gTuple := g1 fTuple
theorem does_tuple {K : PySem.W.Frag} : DoesN K (fun xs H Q => ∃ p ys, xs = [.ref p] ∧ ((SqL K H p ys ∧ ∀ l, H l = none → Q (.ref l) (upd H l (.tup ys))) ∨ (SqT K H p ys ∧ Q (.ref p) H))) gTuple := doesN1 fun x t w F H Q ff d hg => by
  cases t with
  | list ts =>
    cases hg
    obtain ⟨p, ys, rfl, h, dd⟩ := d
    exact ⟨trivial, fun q => ⟨p, ys, rfl, .inl ⟨h, fun l hl => q.2 _ l _ rfl hl dd⟩⟩⟩
  | tuple ts =>
    cases hg
    have a0 : Dp K F x (.tuple ts) := d
    cases d with
    | tup h dd => exact ⟨trivial, fun q => ⟨_, _, rfl, .inr ⟨tupS ff h, q.1 _ a0⟩⟩⟩
  | _ => cases hg
def fList : T → Option Od
  | .list ts => some (.b (.l ts))
  | .tuple ts => some (.b (.l ts))
  | _ => none
abbrev gList := g1 fList
theorem does_list {K : PySem.W.Frag} : DoesN K (fun xs H Q => ∃ p ys, xs = [.ref p] ∧ (SqL K H p ys ∨ SqT K H p ys) ∧ ∀ l, H l = none → Q (.ref l) (upd H l (.lst ys))) gList := doesN1 fun x t w F H Q ff d hg => by
  cases t with
  | list ts =>
    cases hg
    obtain ⟨p, ys, rfl, h, dd⟩ := d
    exact ⟨trivial, fun q => ⟨p, ys, rfl, .inl h, fun l hl => q l _ hl dd⟩⟩
  | tuple ts =>
    cases hg
    cases d with
    | tup h dd => exact ⟨trivial, fun q => ⟨_, _, rfl, .inr (tupS ff h), fun l hl => q l _ hl dd⟩⟩
  | _ => cases hg
/-- the truths of a list -/
def bools : List T → Option (List Bool)
  | [] => some []
  | .bool b :: ts => (bools ts).map (b :: ·)
  | _ => none
theorem bools_dp {K : PySem.W.Frag} {F : Hp} : ∀ {ts : List T} {xs : List V} {bs : List Bool}, DpAll K F xs ts → bools ts = some bs → xs = bs.map V.bl
  | [], _, _, d, h => by cases d; cases h; rfl
  | t :: ts, _, _, d, h => by
    cases d with
    | cons a d =>
      cases t with
      | bool b =>
        cases a
        simp only [bools] at h
        cases q : bools ts with
        | none => rw [q] at h; cases h
        | some bs => rw [q] at h; cases h; rw [bools_dp d q]; rfl
      | _ => cases h
def fAll (k : List Bool → Bool) : T → Option Od
  | .list ts => (bools ts).map fun bs => .r (.bool (k bs))
  | _ => none
abbrev gAll := g1 (fAll fun bs => bs.all id)
theorem doesBs {K : PySem.W.Frag} {k : List Bool → Bool} : DoesN K (fun vs H Q => ∃ (a : Addr) (bs : List Bool), vs = [V.ref a] ∧ SqL K H a (bs.map V.bl) ∧ Q (.bl (k bs)) H) (g1 (fAll k)) := doesN1 fun x t w F H Q ff d hg => by
  cases t with
  | list ts =>
    simp only [fAll] at hg
    cases q : bools ts with
    | none => rw [q] at hg; cases hg
    | some bs =>
      rw [q] at hg; cases hg
      obtain ⟨p, ys, rfl, h, dd⟩ := d
      refine ⟨trivial, fun k => ⟨p, bs, rfl, ?_, k.1 _ (.bl _)⟩⟩
      rw [← bools_dp dd q]; exact h
  | _ => cases hg
theorem does_all {K : PySem.W.Frag} : DoesN K (rAll K) gAll := doesBs
end Ev

set_option Elab.async false
set_option linter.all false
set_option maxRecDepth 100000
namespace Ev
open PySem PySem.Spec PyProof.Rows L2
section
variable {K : PySem.W.Frag} {W : WX} {B : Bd} {e e1 e2 : En} {σ σ1 : Sg} {F H F1 H1 F2 H2 : Hp}
theorem BOk.up (k : BOk B e σ F H) : BOk { B with F := F } e σ F H :=
  ⟨fun _ _ h => h, fun a o h n => ⟨(k.keep a o h n).1, fun z => z⟩, k.dom, k.fresh, k.own, k.lent⟩
theorem BOk.down (k1 : BOk B e1 σ1 F1 H1) (k : BOk { B with F := F1 } e σ F H) : BOk B e σ F H where
  ff := fun a o h => k.ff _ _ (k1.ff _ _ h)
  keep := fun a o h n => ⟨(k.keep a o h n).1, fun z => (k.keep a o h n).2 ((k1.keep a o h n).2 z)⟩
  dom := k.dom
  fresh := k.fresh
  own := k.own
  lent := k.lent
/-! ### targets -/
/-- slots apart from ws stay -/
def Agree (ws : List Nat) (σ σ' : Sg) : Prop := σ'.length = σ.length ∧ ∀ j, j ∉ ws → σ'[j]? = σ[j]?
theorem Agree.refl {ws : List Nat} : Agree ws σ σ := ⟨rfl, fun _ _ => rfl⟩
theorem Agree.trans {ws : List Nat} {σ2 : Sg} (a : Agree ws σ σ1) (b : Agree ws σ1 σ2) : Agree ws σ σ2 := ⟨b.1.trans a.1, fun j h => (b.2 j h).trans (a.2 j h)⟩
abbrev SemG := T → En → Option En
def tG (K : PySem.W.Frag) (B : Bd) (ws : List Nat) (g : SemG) : TG := fun x σ H Q => ∃ e F t e', Rel K e σ F H ∧ BOk B e σ F H ∧ Dp K F x t ∧ g t e = some e' ∧ ∀ σ', Rel K e' σ' F H → BOk B e' σ' F H → Agree ws σ σ' → Q σ' H
theorem pg_mono {X : Cx} {tg : Expr} {t t' : TG} (h : PG X tg t) (m : ∀ x σ H Q, t' x σ H Q → t x σ H Q) : PG X tg t' := ⟨fun pins s σ H v u Q I r q => h.run pins s σ H v u Q I r (m v σ H Q q)⟩
abbrev QG (X : Cx) (B : Bd) (ws : List Nat) (tg : Expr) (g : SemG) : Prop := PG X tg (tG X.K B ws g)
def gN (i : Nat) : SemG := fun t e => if isLent e i then none else some (e.set i (.v t))
theorem qgn {X : Cx} {ws : List Nat} {i : Nat} {x : Str} {pos : Pos} (hN : X.N.Nodup) (hi : X.N[i]? = some x) (hx : Loc X.env.scope x) (hw : i ∈ ws) (hf : X.fn x = true ∨ X.env.scope.names.lookup x = some .local := by first | exact .inl rfl | exact .inr rfl | assumption) : QG X B ws (.Name x pos) (gN i) := by
  refine pg_mono (pg_name hN hi hx hf) fun x σ H Q h => ?_
  obtain ⟨e, F, t, e', R, k, d, hg, q⟩ := h
  simp only [gN] at hg
  cases l : isLent e i with
  | true => rw [l] at hg; cases hg
  | false =>
    rw [l] at hg; cases hg
    obtain ⟨a, b⟩ := set_v R k d (isLent_no l)
    exact q _ a b ⟨by simp, fun j hj => List.getElem?_set_ne fun (z : i = j) => hj (by rw [← z]; exact hw)⟩
abbrev SemGs := List T → En → Option En
def tGs (K : PySem.W.Frag) (B : Bd) (ws : List Nat) (g : SemGs) : TGs := fun xs σ H Q => ∃ e F ts e', Rel K e σ F H ∧ BOk B e σ F H ∧ DpAll K F xs ts ∧ g ts e = some e' ∧ ∀ σ', Rel K e' σ' F H → BOk B e' σ' F H → Agree ws σ σ' → Q σ' H
theorem pgs_mono {X : Cx} {tg : List Expr} {t t' : TGs} (h : PGs X tg t) (m : ∀ x σ H Q, t' x σ H Q → t x σ H Q) : PGs X tg t' := ⟨fun pins s σ H v u Q I r q => h.run pins s σ H v u Q I r (m v σ H Q q)⟩
abbrev QGs (X : Cx) (B : Bd) (ws : List Nat) (tg : List Expr) (g : SemGs) : Prop := PGs X tg (tGs X.K B ws g)
def gsNil : SemGs := fun ts e => match ts with
  | [] => some e
  | _ => none
def gsCons (g : SemG) (gs : SemGs) : SemGs := fun ts e => match ts with
  | t :: ts => (match g t e with
    | some e1 => gs ts e1
    | none => none)
  | [] => none
theorem qgsnil {X : Cx} {ws : List Nat} : QGs X B ws [] gsNil := by
  refine pgs_mono pgs_nil fun xs σ H Q h => ?_
  obtain ⟨e, F, ts, e', R, k, d, hg, q⟩ := h
  cases ts with
  | nil => cases d; cases hg; exact ⟨rfl, q _ R k .refl⟩
  | cons _ _ => cases hg
theorem qgscons {X : Cx} {ws : List Nat} {tg : Expr} {tgs : List Expr} {g : SemG} {gs : SemGs} (h1 : QG X B ws tg g) (h2 : QGs X B ws tgs gs)
    (hs : (assignEach (tg :: tgs) X.env).map (·.2) = assign tg X.env :: (assignEach tgs X.env).map (·.2) := by rfl) : QGs X B ws (tg :: tgs) (gsCons g gs) := by
  refine pgs_mono (pgs_cons h1 h2 hs) fun xs σ H Q h => ?_
  obtain ⟨e, F, ts, e', R, k, d, hg, q⟩ := h
  cases ts with
  | nil => cases hg
  | cons t ts =>
    cases d with
    | cons a b =>
      simp only [gsCons] at hg
      cases q1 : g t e with
      | none => rw [q1] at hg; cases hg
      | some e1 =>
        rw [q1] at hg
        exact ⟨_, _, rfl, e, F, t, e1, R, k, a, q1, fun σ' R' k' ag => ⟨e1, F, ts, e', R', k', b, hg, fun σ2 R2 k2 ag2 => q σ2 R2 k2 (ag.trans ag2)⟩⟩
def gT (n : Nat) (gs : SemGs) : SemG := fun t e => match t with
  | .tuple ts => if ts.length = n then gs ts e else none
  | _ => none
theorem qgt {X : Cx} {ws : List Nat} {es : List Expr} {k : Nat} {pos : Pos} {gs : SemGs} {n : Nat} (hc : X.calm = true) (h : QGs X B ws es gs)
    (hn : (assignEach es X.env).length = n := by rfl) (hst : (assignEach es X.env).findIdx? (·.1) = none := by rfl) : QG X B ws (.Tuple es k pos) (gT n gs) := by
  refine pg_mono (pg_tup hc h hn hst) fun x σ H Q h => ?_
  obtain ⟨e, F, t, e', R, k, d, hg, q⟩ := h
  cases t with
  | tuple ts =>
    simp only [gT] at hg
    split at hg
    · rename_i hl
      cases d with
      | tup hs dd => exact ⟨_, _, rfl, tupS R.sub hs, by rw [dpAll_len dd]; exact hl, e, F, ts, e', R, k, dd, hg, q⟩
    · cases hg
  | _ => cases hg
/-- target = value -/
def sAsg (g : SemG) (m : SemE) : SemS := fun e => (m e).bind fun r e1 => match esc r e1 with
  | some (t, e2) => (match g t e2 with
    | some e3 => .ok .nx e3
    | none => .bad)
  | none => .bad
theorem qasg {X : Cx} {ws : List Nat} {tg a : Expr} {pos : Pos} {g : SemG} {ma : SemE} (he : QE X W a ma) (hg : QG X B ws tg g) (hs : swapsWithSole [tg] a pos.line X.env = pure false := by rfl) (hw : swappedStores [tg] a X.env = pure none := by rfl)
    (h1 : (assignEach [tg] X.env).map (·.2) = [assign tg X.env] := by rfl) : QS X W B (.Assign [tg] a pos) (sAsg g ma) := by
  refine ps_mono (ps_asg he hg hs hw h1) fun D σ H h => ?_
  obtain ⟨e, F, R, k, h⟩ := h
  refine tX_imp (tS_bind (rel := fun σ => OdR X.K σ) R k h) fun x H1 ⟨r, e1, F1, R1, S1, k1, O, h2⟩ => ?_
  cases q : esc r e1 with
  | none => simp only [q] at h2; exact h2.elim
  | some te =>
    obtain ⟨t, e2⟩ := te
    simp only [q] at h2
    obtain ⟨F2, R2, S2, d, _⟩ := esc_ok R R1 S1 O q
    cases q2 : g t e2 with
    | none => simp only [q2] at h2; exact h2.elim
    | some e3 =>
      simp only [q2] at h2
      exact ⟨e2, F2, t, e3, R2, k.step S2, d, q2, fun σ' R' k' _ => h2 σ' F2 _ R' k'⟩
/-! ### what a loop walks -/
def Wk (K : PySem.W.Frag) (F0 : Hp) (J : It) (ts : List T) : Prop := ∀ (i : Nat) (F H : Hp), (∀ a o, F0 a = some o → F a = some o) → (∀ a o, F a = some o → H a = some o) →
  (∀ t, ts[i]? = some t → J.go i H ∧ ∀ x H', J.yld i H x H' → (H' = H ∧ Dp K F x t) ∨ ∃ p vs ws, x = .ref p ∧ H p = none ∧ H' = upd H p (.tup vs) ∧ t = .tuple ws ∧ DpAll K F vs ws) ∧ (ts.length ≤ i → J.stop i H)
abbrev SemI := En → Out (List T)
theorem pi_mono {X : Cx} {tg it : Expr} {t t' : TI} (h : PI X tg it t) (m : ∀ σ H Q, t' σ H Q → t σ H Q) : PI X tg it t' := ⟨fun pins s σ H Q I q => h.run pins s σ H Q I (m σ H Q q)⟩
abbrev tI (K : PySem.W.Frag) (W : WX) (m : SemI) : TI := tX K W (fun _ _ F _ J ts => Wk K F J ts) m
abbrev QI (X : Cx) (W : WX) (tg it : Expr) (m : SemI) : Prop := PI X tg it (tI X.K W m)
theorem wk_list {F : Hp} {a : Addr} {xs : List V} {ts : List T} (h : SqL K F a xs) (d : DpAll K F xs ts) : Wk K F (Itl K a) ts := by
  intro i F' H ff fh
  have hF : SqL K F' a xs := sqL_mono ff h
  have hH : SqL K H a xs := sqL_mono fh hF
  refine ⟨fun t ht => ?_, fun hi => ⟨xs, hH, by rw [dpAll_len d]; exact hi⟩⟩
  obtain ⟨v, hv, dv⟩ := dpAll_get d ht
  refine ⟨⟨xs, v, hH, hv⟩, fun x H' ⟨eH, y⟩ => .inl ⟨eH, ?_⟩⟩
  have := y xs hH
  rw [hv] at this; cases this
  exact dp_mono ff _ _ dv
theorem wk_tup {F : Hp} {a : Addr} {xs : List V} {ts : List T} (h : SqT K F a xs) (d : DpAll K F xs ts) : Wk K F (Itt K a) ts := by
  intro i F' H ff fh
  have hF : SqT K F' a xs := sqT_mono ff h
  have hH : SqT K H a xs := sqT_mono fh hF
  refine ⟨fun t ht => ?_, fun hi => ⟨xs, hH, by rw [dpAll_len d]; exact hi⟩⟩
  obtain ⟨v, hv, dv⟩ := dpAll_get d ht
  refine ⟨⟨xs, v, hH, hv⟩, fun x H' ⟨eH, y⟩ => .inl ⟨eH, ?_⟩⟩
  have := y xs hH
  rw [hv] at this; cases this
  exact dp_mono ff _ _ dv
def iSeq (K : PySem.W.Frag) (tl : TE) : TI := fun σ H R => tl σ H fun x H1 => ∃ a, x = .ref a ∧ (((∃ xs, SqL K H1 a xs) ∧ R (Itl K a) H1) ∨ ((∃ xs, SqT K H1 a xs) ∧ R (Itt K a) H1))
theorem pi_seq {X : Cx} {tg l : Expr} {tl : TE} (hl : PE X l tl) : PI X tg l (iSeq X.K tl) := by
  refine ⟨fun pins s σ H R I h => ?_⟩
  refine thn (hl.run pins s σ H _ I h) fun v s1 ⟨x, H1, I1, r1, q1⟩ => ?_
  obtain ⟨a, e, q⟩ := q1
  subst e
  cases r1
  have fp : ∀ b ∈ [s1.heap.objs.size], FpOk X pins H1 b := fun b hb => by
    have e : b = s1.heap.objs.size := by simpa using hb
    subst e
    exact I1.fpOk (Nat.le_refl _) (I1.hok.fresh (Nat.le_refl _))
  rcases q with ⟨⟨xs, hq⟩, q⟩ | ⟨⟨xs, hq⟩, q⟩
  · obtain ⟨its, rv, p, hz⟩ := I1.list hq
    refine wpAny_pyIter_list p.isList ?_
    exact ⟨s1.heap.objs.size, [s1.heap.objs.size], _, _, H1, rfl, I1.kept (t' := s1.toks) fun b o e => Heap.get?_push_of_some _ e, turn_list a _, ⟨_, Heap.get?_push_size _ rfl, rfl, rfl⟩, fp, q⟩
  · obtain ⟨its, rv, p, hz⟩ := I1.tuple hq
    refine wpAny_pyIter_tuple (show s1.heap.IsTuple a its.toArray from p) ?_
    exact ⟨s1.heap.objs.size, [s1.heap.objs.size], _, _, H1, rfl, I1.kept (t' := s1.toks) fun b o e => Heap.get?_push_of_some _ e, turn_tuple a _, ⟨_, Heap.get?_push_size _ rfl, rfl, rfl⟩, fp, q⟩
/-- the items of a list, of a tuple -/
def iOf (m : SemE) : SemI := fun e => (m e).bind fun r e1 => match esc r e1 with
  | some (.list ts, e2) => .ok ts e2
  | some (.tuple ts, e2) => .ok ts e2
  | _ => .bad
theorem qiof {X : Cx} {tg a : Expr} {ma : SemE} (ha : QE X W a ma) : QI X W tg a (iOf ma) := by
  refine pi_mono (pi_seq ha) fun σ H Q h => ?_
  obtain ⟨e, F, R, h⟩ := h
  refine tX_imp (tX_bind (rel := fun σ => OdR X.K σ) R .refl h) fun x H1 ⟨r, e1, F1, R1, S1, O, h2⟩ => ?_
  cases q : esc r e1 with
  | none => simp only [q] at h2; exact h2.elim
  | some te =>
    obtain ⟨t, e2⟩ := te
    obtain ⟨F2, R2, S2, d, _⟩ := esc_ok R R1 S1 O q
    cases t with
    | list ts =>
      simp only [q] at h2
      cases d with
      | lst hs dd => exact ⟨_, rfl, .inl ⟨⟨_, sqL_mono R2.sub hs⟩, h2 _ F2 H1 R2 S2 (wk_list hs dd)⟩⟩
    | tuple ts =>
      simp only [q] at h2
      cases d with
      | tup hs dd => exact ⟨_, rfl, .inr ⟨⟨_, tupS R2.sub hs⟩, h2 _ F2 H1 R2 S2 (wk_tup (SqT.of hs) dd)⟩⟩
    | none => simp only [q] at h2; exact h2.elim
    | bool _ => simp only [q] at h2; exact h2.elim
    | str _ => simp only [q] at h2; exact h2.elim
    | int _ => simp only [q] at h2; exact h2.elim
    | dict _ => simp only [q] at h2; exact h2.elim
/-- lo, lo + 1, .. -/
def intsT (lo : Int) (n : Nat) : List T := (List.range n).map fun (k : Nat) => .int (lo + (k : Int))
theorem wk_range {F : Hp} {lo : Int} {n : Nat} : Wk K F (Itr lo n) (intsT lo n) := by
  intro i F' H ff fh
  refine ⟨fun t ht => ?_, fun hi => (show n ≤ i by simpa [intsT] using hi)⟩
  have hi : i < n := by have := (List.getElem?_eq_some_iff.mp ht).1; simpa [intsT] using this
  refine ⟨hi, fun x H' ⟨eH, ex⟩ => .inl ⟨eH, ?_⟩⟩
  subst ex
  simp [intsT, hi] at ht
  subst ht
  exact .int _
def iR1 (m : SemA) : SemI := fun e => (m e).bind fun rs e1 => match vals e1 rs with
  | some [.int j] => if -(2 ^ 62) ≤ j ∧ j < 2 ^ 62 then .ok (intsT 0 j.toNat) e1 else .bad
  | _ => .bad
def iR2 (m : SemA) : SemI := fun e => (m e).bind fun rs e1 => match vals e1 rs with
  | some [.int i, .int j] => if -(2 ^ 62) ≤ i ∧ i < 2 ^ 62 ∧ -(2 ^ 62) ≤ j ∧ j < 2 ^ 62 then .ok (intsT i (j - i).toNat) e1 else .bad
  | _ => .bad
theorem qir1 {X : Cx} {tg a : Expr} {m : SemA} {p pos : Pos} (hg : Gl X "range") (hm : X.mg "range" = none) (ha : QA X W [a] m) (hs : starEach [a] X.env = [(false, eval a X.env)] := by rfl) : QI X W tg (.Call (.Name "range" p) [a] [] pos) (iR1 m) := by
  refine pi_mono (pi_range1 hg hm ha hs) fun σ H Q h => ?_
  obtain ⟨e, F, R, h⟩ := h
  refine tX_imp (tX_bind (rel := fun σ Hs F H xs rs => OdsR X.K σ Hs F H rs xs) R .refl h) fun xs H1 ⟨rs, e1, F1, R1, S1, O, h2⟩ => ?_
  split at h2
  · rename_i j q
    have d := vals_ok R1 O q
    split at h2
    · rename_i hl
      cases d with
      | cons a d => cases d; cases a; exact ⟨j, rfl, hl.1, hl.2, h2 _ F1 H1 R1 S1 wk_range⟩
    · exact h2.elim
  · exact h2.elim
/-- pairs -/
def pairs (ts us : List T) : List T := (ts.zip us).map fun p => .tuple [p.1, p.2]
def iZip (m : SemA) : SemI := fun e => (m e).bind fun rs e1 => match escs rs e1 with
  | some ([.list ts, .list us], e2) => .ok (pairs ts us) e2
  | _ => .bad
/-- numbered -/
def enumT (ts : List T) : List T := ts.zipIdx.map fun p => .tuple [.int (p.2 : Nat), p.1]
def iEnu (m : SemA) : SemI := fun e => (m e).bind fun rs e1 => match escs rs e1 with
  | some ([.list ts], e2) => .ok (enumT ts) e2
  | _ => .bad
/-! ### for -/
def forS (g : SemG) (b : SemS) : List T → SemS
  | [], e => .ok .nx e
  | t :: ts, e => match g t e with
    | some e1 => (match b e1 with
      | .ok .nx e2 => forS g b ts e2
      | .ok .ct e2 => forS g b ts e2
      | .ok .bk e2 => .ok .nx e2
      | .ok (.rt r) e2 => .ok (.rt r) e2
      | .exc c t e2 => .exc c t e2
      | .bad => .bad)
    | none => .bad
def sFor (mi : SemI) (g : SemG) (b : SemS) : SemS := fun e => (mi e).bind fun ts e1 => forS g b ts e1
theorem qss_any {X : Cx} {st : List Stmt} {m : SemS} (h : ∀ B, QSs X W B st m) : PSs X st (fun D σ H => ∃ B, tS X.K W B m D σ H) := ⟨fun pins s σ H D I ⟨B, q⟩ => (h B).run pins s σ H D I q⟩
theorem qg_any {X : Cx} {ws : List Nat} {tg : Expr} {g : SemG} (h : ∀ B, QG X B ws tg g) : PG X tg (fun x σ H Q => ∃ B, tG X.K B ws g x σ H Q) := ⟨fun pins s σ H v u Q I r ⟨B, q⟩ => (h B).run pins s σ H v u Q I r q⟩
def LoopN (K : PySem.W.Frag) (W : WX) (B : Bd) (F1 : Hp) (g : SemG) (b : SemS) (D : Ends) (ts : List T) (σ : Sg) (H : Hp) : Prop :=
  ∃ e F, Rel K e σ F H ∧ BOk { B with F := F1 } e σ F H ∧ OutS K W B (forS g b ts e) D
theorem qfor {X : Cx} {ws : List Nat} {tg it : Expr} {body : List Stmt} {mi : SemI} {g : SemG} {b : SemS} {pos : Pos} (hp : PassesOwn (model X.prog X.w) X.A X.env X.xe) (hc : X.calm = true) (hi : QI X W tg it mi) (hg : ∀ B, QG X B ws tg g) (hb : ∀ B, QSs X W B body b)
    (hs : ∀ x, foldedSetIterable it X.env x = pure x := by intro _; rfl) : QS X W B (.For tg it body [] pos) (sFor mi g b) := by
  refine ps_mono (ps_for hp hc hi (qg_any hg) (qss_any hb) hs) fun D σ H h => ?_
  obtain ⟨e, F, R, k, h⟩ := h
  refine tX_imp (tS_bind (rel := fun _ _ F _ J ts => Wk X.K F J ts) R k h) fun J H1 ⟨ts, e1, F1, R1, S1, k1, wk, h1⟩ => ?_
  refine ⟨fun i m σ' H' => m = ts.length - i ∧ i ≤ ts.length ∧ LoopN X.K W B F1 g b D (ts.drop i) σ' H', ⟨_, rfl, Nat.zero_le _, e1, F1, R1, k1.up, h1⟩, ?_⟩
  rintro i m σ' H' ⟨rfl, hi, e2, F2, R2, k2, h2⟩
  obtain ⟨go, stop⟩ := wk i F2 H' k2.ff R2.sub
  by_cases hlt : i < ts.length
  · have ht : ts[i]? = some ts[i] := List.getElem?_eq_getElem hlt
    rw [List.drop_eq_getElem_cons hlt] at h2
    obtain ⟨g1, y1⟩ := go _ ht
    refine .inr ⟨g1, LoopN X.K W B F1 g b D (ts.drop (i + 1)), fun σ3 H3 n => ⟨_, (by omega : ts.length - (i + 1) < ts.length - i), rfl, hlt, n⟩, fun x H3 y => ?_⟩
    simp only [forS] at h2
    cases q : g ts[i] e2 with
    | none => simp only [q] at h2; exact h2.elim
    | some e3 =>
      simp only [q] at h2
      have next : ∀ (F3 : Hp) (σ4 : Sg) (H4 : Hp), Rel X.K e3 σ4 F3 H4 → BOk { B with F := F1 } e3 σ4 F3 H4 → ∃ B', tS X.K W B' b { D with nx := LoopN X.K W B F1 g b D (ts.drop (i + 1)), ct := LoopN X.K W B F1 g b D (ts.drop (i + 1)), bk := D.nx } σ4 H4 := fun F3 σ4 H4 R4 k4 => by
        refine ⟨{ B with F := F1 }, e3, F3, R4, k4, ?_⟩
        cases w : b e3 with
        | bad => rw [w] at h2; exact h2
        | exc c t e5 => rw [w] at h2; exact fun σ5 F5 H5 cls d R5 k5 => h2 σ5 F5 H5 cls d R5 (k1.down k5)
        | ok f e5 =>
          rw [w] at h2
          cases f with
          | nx => exact fun σ5 F5 H5 R5 k5 => ⟨e5, F5, R5, k5, h2⟩
          | ct => exact fun σ5 F5 H5 R5 k5 => ⟨e5, F5, R5, k5, h2⟩
          | bk => exact fun σ5 F5 H5 R5 k5 => h2 σ5 F5 H5 R5 (k1.down k5)
          | rt r => exact fun x σ5 F5 H5 R5 k5 o => h2 x σ5 F5 H5 R5 (k1.down k5) o
      rcases y1 x H3 y with ⟨eH, d⟩ | ⟨p, vs, ws, ex, hp, eH, et, d⟩
      · subst eH
        exact ⟨_, e2, F2, _, e3, R2, k2, d, q, fun σ4 R4 k4 _ => next F2 σ4 _ R4 k4⟩
      · subst eH ex
        have R3 := laid_frz (o := .tup vs) R2 hp
        have S3 := laid_frz_step (o := .tup vs) R2 .refl hp
        have dd : Dp X.K (upd F2 p (.tup vs)) (.ref p) ts[i] := by
          rw [et]
          exact .tup upd_same (dpAll_mono (fun a o h => by rw [upd_ne (ne_of_none h (sub_none R2 hp))]; exact h) d)
        exact ⟨_, e2, _, _, e3, R3, k2.step S3, dd, q, fun σ4 R4 k4 _ => next _ σ4 _ R4 k4⟩
  · have he : i = ts.length := by omega
    subst he
    rw [List.drop_length] at h2
    exact .inl ⟨stop (Nat.le_refl _), h2 _ F2 H' R2 (k1.down k2)⟩
/-! ### while -/
end
end Ev

set_option Elab.async false
set_option linter.all false
set_option maxRecDepth 100000
namespace Ev
open PySem PySem.Spec PyProof.Rows L2
def GOk (ws : List Nat) (g : SemG) : Prop := ∀ t e e', g t e = some e' → e'.length = e.length ∧ ∀ j, e'[j]? = e[j]? ∨ (j ∈ ws ∧ ∃ t, e'[j]? = some (.v t))
def GsOk (ws : List Nat) (g : SemGs) : Prop := ∀ t e e', g t e = some e' → e'.length = e.length ∧ ∀ j, e'[j]? = e[j]? ∨ (j ∈ ws ∧ ∃ t, e'[j]? = some (.v t))
theorem gok_n {ws : List Nat} {i : Nat} (h : i ∈ ws) : GOk ws (gN i) := fun t e e' hg => by
  simp only [gN] at hg
  split at hg
  · cases hg
  · cases hg
    refine ⟨by simp, fun j => ?_⟩
    by_cases q : i = j
    · subst q
      by_cases hi : i < e.length
      · exact .inr ⟨h, t, List.getElem?_set_self hi⟩
      · left; rw [List.getElem?_eq_none (by simpa using hi), List.getElem?_eq_none (by simpa using hi)]
    · exact .inl (List.getElem?_set_ne q)
theorem gsok_nil {ws : List Nat} : GsOk ws gsNil := fun t e e' hg => by
  cases t with
  | nil => cases hg; exact ⟨rfl, fun j => .inl rfl⟩
  | cons _ _ => cases hg
theorem gsok_cons {ws : List Nat} {g : SemG} {gs : SemGs} (h1 : GOk ws g) (h2 : GsOk ws gs) : GsOk ws (gsCons g gs) := fun t e e' hg => by
  cases t with
  | nil => cases hg
  | cons t ts =>
    simp only [gsCons] at hg
    cases q : g t e with
    | none => rw [q] at hg; cases hg
    | some e1 =>
      rw [q] at hg
      obtain ⟨l1, a1⟩ := h1 t e e1 q
      obtain ⟨l2, a2⟩ := h2 ts e1 e' hg
      refine ⟨l2.trans l1, fun j => ?_⟩
      rcases a2 j with z | z
      · rcases a1 j with w | ⟨w, t', w2⟩
        · exact .inl (z.trans w)
        · exact .inr ⟨w, t', z.trans w2⟩
      · exact .inr z
theorem gok_t {ws : List Nat} {n : Nat} {gs : SemGs} (h : GsOk ws gs) : GOk ws (gT n gs) := fun t e e' hg => by
  cases t with
  | tuple ts =>
    simp only [gT] at hg
    split at hg
    · exact h ts e e' hg
    · cases hg
  | _ => cases hg
def wipeE (e : En) : List Nat → En
  | [] => e
  | v :: vs => (wipeE e vs).set v .un
theorem wipeE_len (e : En) : ∀ vs, (wipeE e vs).length = e.length
  | [] => rfl
  | v :: vs => by unfold wipeE; rw [List.length_set, wipeE_len e vs]
theorem wipeE_out {e : En} {j : Nat} : ∀ {vs : List Nat}, j ∉ vs → (wipeE e vs)[j]? = e[j]?
  | [], _ => rfl
  | v :: vs, h => by
    unfold wipeE
    rw [List.getElem?_set_ne (fun z => h (by rw [← z]; exact List.mem_cons_self)), wipeE_out fun z => h (List.mem_cons_of_mem _ z)]
theorem wipeE_in {e : En} {j : Nat} {s : Sl} : ∀ {vs : List Nat}, j ∈ vs → (wipeE e vs)[j]? = some s → s = .un
  | [], h, _ => by cases h
  | v :: vs, h, q => by
    unfold wipeE at q
    by_cases hv : v = j
    · subst hv
      have hl : v < (wipeE e vs).length := by have := (List.getElem?_eq_some_iff.mp q).1; simpa using this
      rw [List.getElem?_set_self hl] at q; cases q; rfl
    · rw [List.getElem?_set_ne hv] at q
      exact wipeE_in ((List.mem_cons.mp h).resolve_left fun z => hv z.symm) q
theorem wipe_out {σ : Sg} {j : Nat} : ∀ {vs : List Nat}, j ∉ vs → (wipe σ vs)[j]? = σ[j]?
  | [], _ => rfl
  | v :: vs, h => by
    unfold wipe
    rw [List.getElem?_set_ne (fun z => h (by rw [← z]; exact List.mem_cons_self)), wipe_out fun z => h (List.mem_cons_of_mem _ z)]
theorem wipe_in {σ : Sg} {j : Nat} {o : Option V} : ∀ {vs : List Nat}, j ∈ vs → (wipe σ vs)[j]? = some o → o = none
  | [], h, _ => by cases h
  | v :: vs, h, q => by
    unfold wipe at q
    by_cases hv : v = j
    · subst hv
      have hl : v < (wipe σ vs).length := by have := (List.getElem?_eq_some_iff.mp q).1; simpa using this
      rw [List.getElem?_set_self hl] at q; cases q; rfl
    · rw [List.getElem?_set_ne hv] at q
      exact wipe_in ((List.mem_cons.mp h).resolve_left fun z => hv z.symm) q
theorem wipe_agree {σ σ2 : Sg} {vs : List Nat} (a : Agree vs (wipe σ vs) σ2) : wipe σ2 vs = wipe σ vs := by
  have l1 : σ2.length = σ.length := a.1.trans (wipe_length σ vs)
  refine List.ext_getElem? fun j => ?_
  by_cases h : j ∈ vs
  · by_cases hj : j < σ.length
    · have h1 : j < (wipe σ2 vs).length := by rw [wipe_length, l1]; exact hj
      have h2 : j < (wipe σ vs).length := by rw [wipe_length]; exact hj
      have q1 := wipe_in h (List.getElem?_eq_getElem h1)
      have q2 := wipe_in h (List.getElem?_eq_getElem h2)
      rw [List.getElem?_eq_getElem h1, List.getElem?_eq_getElem h2, q1, q2]
    · rw [List.getElem?_eq_none (by rw [wipe_length, l1]; omega), List.getElem?_eq_none (by rw [wipe_length]; omega)]
  · rw [wipe_out h, a.2 j h]
def restE (e e2 : En) : List Nat → En
  | [] => e2
  | v :: vs => (restE e e2 vs).set v ((e[v]?).getD .un)
theorem restE_len (e e2 : En) : ∀ vs, (restE e e2 vs).length = e2.length
  | [] => rfl
  | v :: vs => by unfold restE; rw [List.length_set, restE_len e e2 vs]
theorem restE_out {e e2 : En} {j : Nat} : ∀ {vs : List Nat}, j ∉ vs → (restE e e2 vs)[j]? = e2[j]?
  | [], _ => rfl
  | v :: vs, h => by
    unfold restE
    rw [List.getElem?_set_ne (fun z => h (by rw [← z]; exact List.mem_cons_self)), restE_out fun z => h (List.mem_cons_of_mem _ z)]
theorem restE_in {e e2 : En} {j : Nat} (hl : e2.length = e.length) : ∀ {vs : List Nat}, j ∈ vs → (restE e e2 vs)[j]? = e[j]?
  | [], h => by cases h
  | v :: vs, h => by
    unfold restE
    by_cases hv : v = j
    · subst hv
      by_cases hj : v < e.length
      · rw [List.getElem?_set_self (by rw [restE_len, hl]; exact hj), List.getElem?_eq_getElem hj]; rfl
      · rw [List.getElem?_eq_none (by rw [List.length_set, restE_len, hl]; omega), List.getElem?_eq_none (by omega)]
    · rw [List.getElem?_set_ne hv]
      exact restE_in hl ((List.mem_cons.mp h).resolve_left fun z => hv z.symm)
section
variable {K : PySem.W.Frag} {W : WX} {B : Bd} {e e1 e2 : En} {σ σ1 : Sg} {F H F1 H1 F2 H2 : Hp}
theorem wipe_rel {vs : List Nat} (R : Rel K e σ F H) : Rel K (wipeE e vs) (wipe σ vs) F H := by
  have get : ∀ (j : Nat) (s : Sl), (wipeE e vs)[j]? = some s → s = .un ∨ (j ∉ vs ∧ e[j]? = some s) := fun j s h => by
    by_cases q : j ∈ vs
    · exact .inl (wipeE_in q h)
    · rw [wipeE_out q] at h; exact .inr ⟨q, h⟩
  refine ⟨R.sub, by rw [wipeE_len, wipe_length]; exact R.len, fun j s o h1 h2 => ?_, fun j j' l b l' b' p h1 h2 h3 h4 => ?_⟩
  · rcases get j s h1 with rfl | ⟨q, h⟩
    · trivial
    · rw [wipe_out q] at h2; exact R.at_ j s o h h2
  · rcases get j _ h1 with z | ⟨q, g1⟩
    · cases z
    · rcases get j' _ h2 with z | ⟨q', g2⟩
      · cases z
      · rw [wipe_out q] at h3; rw [wipe_out q'] at h4; exact R.ne j j' l b l' b' p g1 g2 h3 h4
theorem upd_at {D : Addr} {o o' : HO} (R : Rel K e σ F H) (hH : H D = some o) (hf : F D = none) (no : ¬ Own e σ D) : Rel K e σ F (upd H D o') := by
  refine ⟨fun a u h => ?_, R.len, fun i s u h1 h2 => ?_, R.ne⟩
  · have ne : a ≠ D := fun z => by subst z; rw [hf] at h; cases h
    rw [upd_ne ne]; exact R.sub _ _ h
  · have z := R.at_ i s u h1 h2
    cases s with
    | un => trivial
    | v t => exact z
    | fz b => exact z
    | ow l b =>
      obtain ⟨p, ep, hf', bx⟩ := z
      have np : p ≠ D := fun w => no ⟨i, l, b, h1, by rw [h2, ep, w]⟩
      exact ⟨p, ep, hf', bx_keep bx (fun _ _ h => h) fun o h => by rw [upd_ne np]; exact h⟩
theorem step_upd {D : Addr} {o' : HO} (S : Step e e1 σ F H F1 H1) (hD : H D = none) : Step e e1 σ F H F1 (upd H1 D o') := by
  have ne : ∀ a u, H a = some u → a ≠ D := fun a u h z => by subst z; rw [hD] at h; cases h
  exact ⟨S.ff, fun a u h n => ⟨by rw [upd_ne (ne a u h)]; exact (S.keep a u h n).1, (S.keep a u h n).2⟩, fun a u h => by rw [upd_ne (ne a u h)]; exact S.dom a u h, S.own, S.lt, S.sk⟩
/-- a bound that says nothing -/
def bd0 (e : En) (σ : Sg) : Bd := ⟨e, σ, fun _ => none, fun _ => none⟩
theorem bok0 {e : En} {σ : Sg} {F H : Hp} : BOk (bd0 e σ) e σ F H :=
  ⟨(fun _ _ h => nomatch h), (fun _ _ h => nomatch h), (fun _ _ h => nomatch h), (fun _ _ _ _ _ => rfl), (fun i b h => ⟨rfl, b, h⟩), (fun i b h => ⟨⟨b, .inl h⟩, rfl⟩)⟩
/-- behind a turn of a comprehension -/
theorem rest_rel {vs : List Nat} {e4 : En} {σ2 : Sg} {F4 H4 : Hp} (R : Rel K e σ F H) (h1 : e1.length = e.length) (a1 : ∀ j, e1[j]? = (wipeE e vs)[j]? ∨ (j ∈ vs ∧ ∃ t, e1[j]? = some (.v t))) (ag : Agree vs (wipe σ vs) σ2)
    (R4 : Rel K e4 σ2 F4 H4) (S : Step e1 e4 σ2 F H F4 H4) : Rel K (restE e e4 vs) σ F4 H4 ∧ Step e (restE e e4 vs) σ F H F4 H4 := by
  have sg : ∀ j, j ∉ vs → σ2[j]? = σ[j]? := fun j h => by rw [ag.2 j h, wipe_out h]
  have l2 : σ2.length = σ.length := ag.1.trans (wipe_length σ vs)
  have l4 : e4.length = e.length := by rw [R4.len, l2, ← R.len]
  have in1 : ∀ (j : Nat) (l : Bool) (b : Bx), e1[j]? = some (.ow l b) → j ∉ vs ∧ e[j]? = some (.ow l b) := fun j l b h => by
    by_cases q : j ∈ vs
    · rcases a1 j with z | ⟨_, t, z⟩
      · rw [h] at z; exact nomatch wipeE_in q z.symm
      · rw [h] at z; cases z
    · rcases a1 j with z | ⟨q', _⟩
      · rw [h, wipeE_out q] at z; exact ⟨q, z.symm⟩
      · exact absurd q' q
  have own1 : ∀ p, Own e1 σ2 p → Own e σ p := fun p ⟨j, l, b, q1, q2⟩ => by
    obtain ⟨n, q⟩ := in1 j l b q1
    exact ⟨j, l, b, q, by rw [← sg j n]; exact q2⟩
  have get : ∀ (j : Nat) (s : Sl), (restE e e4 vs)[j]? = some s → (j ∈ vs ∧ e[j]? = some s) ∨ (j ∉ vs ∧ e4[j]? = some s) := fun j s h => by
    by_cases q : j ∈ vs
    · rw [restE_in l4 q] at h; exact .inl ⟨q, h⟩
    · rw [restE_out q] at h; exact .inr ⟨q, h⟩
  have kind : SameKinds e (restE e e4 vs) := fun j l b h => by
    rcases get j _ h with ⟨_, q⟩ | ⟨n, q⟩
    · exact ⟨b, q⟩
    · obtain ⟨b', q'⟩ := S.sk j l b q
      exact ⟨b', (in1 j l b' q').2⟩
  refine ⟨⟨R4.sub, by rw [restE_len, l4]; exact R.len, fun j s o g1 g2 => ?_, fun j j' l b l' b' p g1 g2 g3 g4 => ?_⟩, ⟨S.ff, fun a o h n => S.keep a o h fun z => n (own1 a z), S.dom, fun p ⟨j, l, b, g1, g2⟩ => ?_, fun j hj => ?_, kind⟩⟩
  · rcases get j s g1 with ⟨q, g⟩ | ⟨q, g⟩
    · have w := R.at_ j s o g g2
      cases s with
      | un => trivial
      | v t => obtain ⟨y, ey, d⟩ := w; exact ⟨y, ey, dp_mono S.ff _ _ d⟩
      | fz b => obtain ⟨y, ey, d⟩ := w; exact ⟨y, ey, dp_mono S.ff _ _ d⟩
      | ow l b =>
        obtain ⟨p, ep, hf, bx⟩ := w
        subst ep
        obtain ⟨u, hu⟩ := bx_some bx
        have na : ¬ Own e1 σ2 p := fun ⟨j', l', b', q1, q2⟩ => by
          obtain ⟨n, q3⟩ := in1 j' l' b' q1
          have := R.ne j' j l' b' l b p q3 g (by rw [← sg j' n]; exact q2) g2
          subst this
          exact n q
        obtain ⟨k1, k2⟩ := S.keep p u hu na
        exact ⟨p, rfl, k2 hf, bx_keep bx S.ff fun o' h' => by rw [hu] at h'; cases h'; exact k1⟩
    · rw [← sg j q] at g2; exact R4.at_ j s o g g2
  · obtain ⟨b1, q1⟩ := kind j l b g1
    obtain ⟨b2, q2⟩ := kind j' l' b' g2
    exact R.ne j j' l b1 l' b2 p q1 q2 g3 g4
  · obtain ⟨b1, q1⟩ := kind j l b g1
    exact ⟨j, l, b1, q1, g2⟩
  · by_cases q : j ∈ vs
    · obtain ⟨b, w⟩ := hj
      exact ⟨b, by rw [restE_in l4 q]; exact w⟩
    · have : Lent e1 j := by
        obtain ⟨b, w⟩ := hj
        rcases a1 j with z | ⟨q', _⟩
        · exact ⟨b, by rw [z, wipeE_out q]; exact w⟩
        · exact absurd q' q
      obtain ⟨b, w⟩ := S.lt j this
      exact ⟨b, by rw [restE_out q]; exact w⟩
end
/-! ### comprehensions -/
/-- nothing raised -/
def Out.nx {α : Type} : Out α → Out α
  | .exc _ _ _ => .bad
  | o => o
def compS (g : SemG) (c : SemT) (m : SemE) (vs : List Nat) : List T → List T → SemE
  | [], acc, e => .ok (.b (.l acc)) e
  | t :: ts, acc, e => match g t (wipeE e vs) with
    | some e1 => (c e1).nx.bind fun k e2 => if k then (m e2).nx.bind fun r e3 => (match esc r e3 with
        | some (u, e4) => if acc.length < sizeLine then compS g c m vs ts (acc ++ [u]) (restE e e4 vs) else .bad
        | none => .bad)
      else compS g c m vs ts acc (restE e e2 vs)
    | none => .bad
def eComp (mi : SemI) (g : SemG) (c : SemT) (m : SemE) (vs : List Nat) : SemE := fun e => (mi e).bind fun ts e1 => compS g c m vs ts [] e1
abbrev W0 : WX := fun _ _ _ _ => False
theorem tX_nx {α β : Type} {K : PySem.W.Frag} {rel : Sg → Hp → Hp → Hp → β → α → Prop} {m : En → Out α} {e1 e2 : En} {r : α} {σ : Sg} {F1 H1 : Hp} {Q : β → Hp → Prop} (R1 : Rel K e1 σ F1 H1) (w : m e1 = .ok r e2)
    (hq : ∀ x F2 H2, Rel K e2 σ F2 H2 → Step e1 e2 σ F1 H1 F2 H2 → rel σ H1 F2 H2 x r → Q x H2) : tX K W0 rel m σ H1 Q := by
  refine ⟨e1, F1, R1, ?_⟩
  rw [w]
  exact fun x F' H' R' S' O => hq x F' H' R' S' O
/-- the reading of a comprehension's walk, from a state on -/
structure CompN (K : PySem.W.Frag) (W : WX) (F1 : Hp) (g : SemG) (c : SemT) (m : SemE) (vs : List Nat) (e0 : En) (F0 H0 : Hp) (σ : Sg) (D : Addr) (Q : VK) (ts : List T) (H : Hp) : Prop where
  ex : ∃ e F acc accV, Rel K e σ F H ∧ Step e0 e σ F0 H0 F H ∧ (∀ a o, F1 a = some o → F a = some o) ∧ F D = none ∧ H D = some (.lst accV) ∧ DpAll K F accV acc ∧ OutX K W (OdR K σ) (compS g c m vs ts acc e) e0 σ F0 H0 Q
theorem comp_read {K : PySem.W.Frag} {W : WX} {mi : SemI} {g : SemG} {c : SemT} {m : SemE} {vs : List Nat} {σ : Sg} {H : Hp} {Q : VK} (hk : GOk vs g) (h : tE K W (eComp mi g c m vs) σ H Q) :
    tLc (tI K W mi) (fun x σ H Q => ∃ B, tG K B vs g x σ H Q) (tT K W0 c) (tE K W0 m) vs σ H Q := by
  obtain ⟨e0, F0, R0, h⟩ := h
  refine tX_imp (tX_bind (rel := fun _ _ F _ J ts => Wk K F J ts) R0 .refl h) fun J H1 ⟨ts, e1, F1, R1, S1, wk, h1⟩ => ?_
  intro D hD
  have hD0 : H D = none := step_none S1 hD
  have hDF : F1 D = none := sub_none R1 hD
  have ff0 : ∀ a o, F1 a = some o → F1 a = some o := fun _ _ h => h
  refine ⟨fun i n H' => n = ts.length - i ∧ i ≤ ts.length ∧ CompN K W F1 g c m vs e0 F0 H σ D Q (ts.drop i) H', ⟨_, rfl, Nat.zero_le _, ⟨e1, F1, [], [], laid_own R1 hD, S1.trans (laid_own_step hD), ff0, hDF, upd_same, .nil, h1⟩⟩, ?_⟩
  rintro i n H' ⟨rfl, hi, ⟨e2, F2, acc, accV, R2, S2, ff2, hf, hH, d, h2⟩⟩
  obtain ⟨go, stop⟩ := wk i F2 H' ff2 R2.sub
  by_cases hlt : i < ts.length
  · have ht : ts[i]? = some ts[i] := List.getElem?_eq_getElem hlt
    rw [List.drop_eq_getElem_cons hlt] at h2
    obtain ⟨g1, y1⟩ := go _ ht
    refine .inr ⟨g1, CompN K W F1 g c m vs e0 F0 H σ D Q (ts.drop (i + 1)), fun H3 n => ⟨_, (by omega : ts.length - (i + 1) < ts.length - i), rfl, hlt, n⟩, fun x H3 y => ?_⟩
    simp only [compS] at h2
    cases q : g ts[i] (wipeE e2 vs) with
    | none => simp only [q] at h2; exact h2.elim
    | some e3 =>
      simp only [q] at h2
      obtain ⟨l3, a3⟩ := hk _ _ _ q
      have l3 : e3.length = e2.length := l3.trans (wipeE_len e2 vs)
      have D0 : ∀ {e F H3}, Step e0 e σ F0 H F H3 → ¬ Own e σ D := fun S => fresh_not_own R0 S hD0
      -- behind the target
      have next : ∀ (F3 : Hp) (H3 : Hp) (σ2 : Sg), Rel K e2 σ F3 H3 → Step e0 e2 σ F0 H F3 H3 → (∀ a o, F1 a = some o → F3 a = some o) → F3 D = none → H3 D = some (.lst accV) → DpAll K F3 accV acc → Rel K e3 σ2 F3 H3 → Agree vs (wipe σ vs) σ2 →
          wipe σ2 vs = wipe σ vs ∧ tT K W0 c σ2 H3 fun b H4 => if b = true then tE K W0 m σ2 H4 fun y H5 => ∃ acc, H5 D = some (.lst acc) ∧ acc.length < sizeLine ∧ CompN K W F1 g c m vs e0 F0 H σ D Q (ts.drop (i + 1)) (upd H5 D (.lst (acc ++ [y]))) else CompN K W F1 g c m vs e0 F0 H σ D Q (ts.drop (i + 1)) H4 := by
        intro F3 H3 σ2 R3 S3 ff3 hf3 hH3 d3 RB ag
        refine ⟨wipe_agree ag, ?_⟩
        have noD : ¬ Own e3 σ2 D := fun ⟨j, l, b, q1, q2⟩ => by
          have n : j ∉ vs ∧ e2[j]? = some (.ow l b) := by
            by_cases qv : j ∈ vs
            · rcases a3 j with z | ⟨_, t, z⟩
              · rw [q1] at z; exact absurd (wipeE_in qv z.symm) (by intro w; cases w)
              · rw [q1] at z; cases z
            · rcases a3 j with z | ⟨q', _⟩
              · rw [q1, wipeE_out qv] at z; exact ⟨qv, z.symm⟩
              · exact absurd q' qv
          exact D0 S3 ⟨j, l, b, n.2, by rw [← wipe_out n.1, ← ag.2 j n.1]; exact q2⟩
        cases wc : c e3 with
        | bad => rw [wc] at h2; exact h2.elim
        | exc _ _ _ => rw [wc] at h2; exact h2.elim
        | ok k e4 =>
        rw [wc] at h2
        have h4 : OutX K W (OdR K σ) (if k = true then (m e4).nx.bind fun r e5 => (match esc r e5 with
            | some (u, e6) => if acc.length < sizeLine then compS g c m vs (ts.drop (i + 1)) (acc ++ [u]) (restE e2 e6 vs) else .bad
            | none => .bad) else compS g c m vs (ts.drop (i + 1)) acc (restE e2 e4 vs)) e0 σ F0 H Q := h2
        refine tX_nx RB wc fun b F4 H4 R4 S4 eb => ?_
        subst eb
        obtain ⟨hD4, fD4⟩ := S4.keep D _ hH3 noD
        have fD4 := fD4 hf3
        cases b with
        | false =>
          obtain ⟨R', S'⟩ := rest_rel R3 l3 a3 ag R4 S4
          exact ⟨restE e2 e4 vs, F4, acc, accV, R', S3.trans S', fun a o h => S4.ff _ _ (ff3 _ _ h), fD4, hD4, dpAll_mono S4.ff d3, h4⟩
        | true =>
          simp only [if_true] at h4
          rw [if_pos rfl]
          cases wm : m e4 with
          | bad => rw [wm] at h4; exact h4.elim
          | exc _ _ _ => rw [wm] at h4; exact h4.elim
          | ok r e5 =>
          rw [wm] at h4
          have h5 : OutX K W (OdR K σ) (match esc r e5 with
            | some (u, e6) => if acc.length < sizeLine then compS g c m vs (ts.drop (i + 1)) (acc ++ [u]) (restE e2 e6 vs) else .bad
            | none => .bad) e0 σ F0 H Q := h4
          refine tX_nx R4 wm fun y F5 H5 R5 S5 O5 => ?_
          obtain ⟨hD5, fD5⟩ := S5.keep D _ hD4 (fun z => noD (S4.own _ z))
          have fD5 := fD5 fD4
          cases w : esc r e5 with
          | none => simp only [w] at h5; exact h5.elim
          | some te =>
            obtain ⟨u, e6⟩ := te
            simp only [w] at h5
            obtain ⟨F6, R6, S6, d6, _, only⟩ := esc_ok R4 R5 S5 O5 w
            by_cases hl : acc.length < sizeLine
            · rw [if_pos hl] at h5
              obtain ⟨R', S'⟩ := rest_rel R3 l3 a3 ag R6 (S4.trans S6)
              have dd : DpAll K F6 (accV ++ [y]) (acc ++ [u]) := dpAll_app (dpAll_mono (fun a o h => S6.ff _ _ (S4.ff _ _ h)) d3) (.cons d6 .nil)
              have fD6 : F6 D = none := (S6.keep D _ hD4 (fun z => noD (S4.own _ z))).2 fD4
              refine ⟨accV, hD5, by rw [dpAll_len d3]; exact hl, ⟨restE e2 e6 vs, F6, acc ++ [u], accV ++ [y], upd_at R' hD5 fD6 (D0 (S3.trans S')), ?_, fun a o h => S6.ff _ _ (S4.ff _ _ (ff3 _ _ h)), fD6, upd_same, dd, h5⟩⟩
              exact step_upd (S3.trans S') hD0
            · rw [if_neg hl] at h5; exact h5.elim
      have Rw := wipe_rel (vs := vs) R2
      rcases y1 x H3 y with ⟨eH, dx⟩ | ⟨p, xs, ws, ex, hp, eH, et, dx⟩
      · subst eH
        exact ⟨bd0 _ _, wipeE e2 vs, F2, _, e3, Rw, bok0, dx, q, fun σ2 R' _ ag => next F2 _ σ2 R2 S2 ff2 hf hH d R' ag⟩
      · subst eH ex
        have ff3 : ∀ a o, F2 a = some o → upd F2 p (.tup xs) a = some o := fun a o h => by rw [upd_ne (ne_of_none h (sub_none R2 hp))]; exact h
        have nD : D ≠ p := ne_of_none hH hp
        have R3 := laid_frz (o := .tup xs) R2 hp
        have S3 := laid_frz_step (o := .tup xs) R2 S2 hp
        have dd : Dp K (upd F2 p (.tup xs)) (.ref p) ts[i] := by
          rw [et]
          exact .tup upd_same (dpAll_mono ff3 dx)
        exact ⟨bd0 _ _, wipeE e2 vs, _, _, e3, wipe_rel R3, bok0, dd, q, fun σ2 R' _ ag => next _ _ σ2 R3 S3 (fun a o h => ff3 _ _ (ff2 _ _ h)) (by rw [upd_ne nD]; exact hf) (by rw [upd_ne nD]; exact hH) (dpAll_mono ff3 d) R' ag⟩
  · have he : i = ts.length := by omega
    subst he
    rw [List.drop_length] at h2
    exact .inl ⟨stop (Nat.le_refl _), h2 _ F2 H' R2 S2 ⟨D, rfl, hD0, hf, accV, hH, d⟩⟩
end Ev

set_option Elab.async false
set_option linter.all false
set_option maxRecDepth 100000
namespace Ev
open PySem PySem.Spec PyProof.Rows L2
section
variable {X : Cx} {W : WX} {a b c : Expr} {ma mb mc : SemE} {pos : Pos}
abbrev tTrue : SemT := fun e => .ok true e
abbrev QTs (X : Cx) (W : WX) (ex : List Expr) (m : SemT) : Prop := PTs X ex (tT X.K W m)
theorem qtsnil : QTs X W [] tTrue := ⟨fun pins s σ H Q I ⟨e, F, R, h⟩ => pts_nil.run pins s σ H Q I (h true F H R .refl rfl)⟩
theorem qcomp {elt tg iter : Expr} {ifs : List Expr} {scope : Scope} {own : List (Str × Nat)} {vs : List Nat} {mi : SemI} {g : SemG} {t : SemT} {m : SemE} (hc : X.calm = true) (hN : X.N.Nodup) (hi : QI X W tg iter mi) (ok : BlkOk X.N X.env.scope scope own) (hk : GOk vs g) (hvs : own.map (·.2) = vs)
    (hg : ∀ (s : Shared) (H : Hp) (C : Addr) (cl : List (Str × Addr)) (fp : List Addr) (B : Bd), QG (X.blk s H scope (compEnvC scope cl C X.env) fp) B vs tg g) (ht : ∀ (s : Shared) (H : Hp) (C : Addr) (cl : List (Str × Addr)) (fp : List Addr), QTs (X.blk s H scope (compEnvC scope cl C X.env) fp) W0 ifs t)
    (he : ∀ (s : Shared) (H : Hp) (C : Addr) (cl : List (Str × Addr)) (fp : List Addr), QE (X.blk s H scope (compEnvC scope cl C X.env) fp) W0 elt m) (hs : ∀ x, foldedSetIterable iter X.env x = pure x := by intro _; rfl) :
    QE X W (.ListComp elt [⟨tg, iter, ifs, 0⟩] scope pos) (eComp mi g t m vs) := by
  subst hvs
  exact pe_mono (pe_lc hc hN hi ok (fun s H C cl fp => qg_any (hg s H C cl fp)) ht he hs) fun σ H Q h => comp_read hk h
end
/-! ### a def -/
def okArg : Sl → Bool
  | .v _ => true
  | .ow true _ => true
  | _ => false
def finE : List Sl → En → List Sl
  | .ow true z :: ss, s' :: es => s' :: finE ss es
  | s :: ss, _ :: es => s :: finE ss es
  | ss, [] => ss
  | [], _ => []
def runFn (n : Nat) (b : SemS) : FSem := fun ss => if ss.all okArg then (match b (ss ++ List.replicate (n - ss.length) .un) with
  | .ok .nx e' => .ok (.r .none) (finE ss e')
  | .ok (.rt r) e' => .ok r (finE ss e')
  | .exc c t e' => .exc c t (finE ss e')
  | _ => .bad) else .bad
theorem finE_len : ∀ (ss : List Sl) (es : En), (finE ss es).length = ss.length
  | [], [] => rfl
  | [], _ :: _ => rfl
  | .un :: ss, [] => rfl
  | .v _ :: ss, [] => rfl
  | .fz _ :: ss, [] => rfl
  | .ow true _ :: ss, [] => rfl
  | .ow false _ :: ss, [] => rfl
  | .un :: ss, _ :: es => by simp [finE, finE_len ss es]
  | .v _ :: ss, _ :: es => by simp [finE, finE_len ss es]
  | .fz _ :: ss, _ :: es => by simp [finE, finE_len ss es]
  | .ow true _ :: ss, _ :: es => by simp [finE, finE_len ss es]
  | .ow false _ :: ss, _ :: es => by simp [finE, finE_len ss es]
theorem finE_get : ∀ {ss : List Sl} {es : En} {j : Nat} {s : Sl}, ss[j]? = some s → ((∃ z, s = .ow true z) → j < es.length) → (∃ z, s = .ow true z ∧ (finE ss es)[j]? = es[j]?) ∨ ((∀ z, s ≠ .ow true z) ∧ (finE ss es)[j]? = some s)
  | [], _, _, _, h, _ => by simp at h
  | s0 :: ss, [], j, s, h, hl => by
    have e : finE (s0 :: ss) [] = s0 :: ss := by
      cases s0 with
      | ow l z => cases l <;> rfl
      | un => rfl
      | v _ => rfl
      | fz _ => rfl
    refine .inr ⟨fun z ez => ?_, by rw [e]; exact h⟩
    have := hl ⟨z, ez⟩
    simp at this
  | s :: ss, s' :: es, 0, _, h, _ => by
    simp at h; subst h
    cases s with
    | ow l z => cases l with
      | true => exact .inl ⟨z, rfl, rfl⟩
      | false => exact .inr ⟨fun z h => (by cases h), rfl⟩
    | un => exact .inr ⟨fun z h => (by cases h), rfl⟩
    | v _ => exact .inr ⟨fun z h => (by cases h), rfl⟩
    | fz _ => exact .inr ⟨fun z h => (by cases h), rfl⟩
  | s :: ss, s' :: es, j + 1, _, h, hl => by
    have ih := finE_get (ss := ss) (es := es) (j := j) (by simpa using h) (fun q => by have := hl q; simpa using this)
    have e : (finE (s :: ss) (s' :: es))[j + 1]? = (finE ss es)[j]? := by
      cases s with
      | ow l z => cases l <;> simp [finE]
      | un => simp [finE]
      | v _ => simp [finE]
      | fz _ => simp [finE]
    rw [e]
    simpa using ih
section
variable {K : PySem.W.Frag} {F H : Hp}
theorem start_rel {N : List Str} {vs : List V} {ss : List Sl} (R : Rel K ss (vs.map some) F H) : Rel K (ss ++ List.replicate (N.length - ss.length) .un) (start N vs) F H := by
  have hl : ss.length = vs.length := by have := R.len; simpa using this
  have get : ∀ (j : Nat) (s : Sl), (ss ++ List.replicate (N.length - ss.length) Sl.un)[j]? = some s → (j < ss.length ∧ ss[j]? = some s) ∨ s = .un := fun j s h => by
    by_cases q : j < ss.length
    · rw [List.getElem?_append_left q] at h; exact .inl ⟨q, h⟩
    · rw [List.getElem?_append_right (by omega)] at h
      have := List.mem_of_getElem? h
      exact .inr (List.eq_of_mem_replicate this)
  have sg : ∀ j, j < ss.length → (start N vs)[j]? = (vs.map some)[j]? := fun j h => by
    unfold L2.start
    rw [List.getElem?_append_left (by simp; omega)]
  refine ⟨R.sub, by unfold L2.start; simp [hl], fun j s o h1 h2 => ?_, fun j j' l b l' b' p h1 h2 h3 h4 => ?_⟩
  · rcases get j s h1 with ⟨q, h⟩ | rfl
    · rw [sg j q] at h2; exact R.at_ j s o h h2
    · trivial
  · rcases get j _ h1 with ⟨q, g1⟩ | z
    · rcases get j' _ h2 with ⟨q', g2⟩ | z
      · rw [sg j q] at h3; rw [sg j' q'] at h4; exact R.ne j j' l b l' b' p g1 g2 h3 h4
      · cases z
    · cases z
theorem fin_rel {N : List Str} {vs : List V} {ss : List Sl} {e' : En} {σ' : Sg} {F' H' : Hp} (R : Rel K ss (vs.map some) F H) (R' : Rel K e' σ' F' H') (k : BOk ⟨ss ++ List.replicate (N.length - ss.length) .un, start N vs, F, H⟩ e' σ' F' H')
    (ha : ss.all okArg = true) : Rel K (finE ss e') (vs.map some) F' H' ∧ Step ss (finE ss e') (vs.map some) F H F' H' := by
  have hl : ss.length = vs.length := by have := R.len; simpa using this
  have sg : ∀ j, j < ss.length → (start N vs)[j]? = (vs.map some)[j]? := fun j h => by
    unfold L2.start
    rw [List.getElem?_append_left (by simp; omega)]
  have e0 : ∀ j, j < ss.length → (ss ++ List.replicate (N.length - ss.length) Sl.un)[j]? = ss[j]? := fun j h => List.getElem?_append_left h
  have lentLt : ∀ (j : Nat) (z : Bx), ss[j]? = some (.ow true z) → j < e'.length := fun j z h => by
    have hj := (List.getElem?_eq_some_iff.mp h).1
    obtain ⟨⟨b, q⟩, _⟩ := k.lent j z (by show (ss ++ _)[j]? = _; rw [e0 j hj, h])
    rcases q with q | q
    · exact (List.getElem?_eq_some_iff.mp q).1
    · exact (List.getElem?_eq_some_iff.mp q).1
  have get : ∀ (j : Nat) (s : Sl), (finE ss e')[j]? = some s → ∃ s0, ss[j]? = some s0 ∧ j < ss.length ∧ ((∃ z, s0 = .ow true z ∧ e'[j]? = some s ∧ Lent e' j ∧ σ'[j]? = (vs.map some)[j]?) ∨ (s = s0 ∧ ∃ t, s = .v t)) := fun j s h => by
    have hj : j < ss.length := by have := (List.getElem?_eq_some_iff.mp h).1; rw [finE_len] at this; exact this
    have hs : ss[j]? = some ss[j] := List.getElem?_eq_getElem hj
    refine ⟨_, hs, hj, ?_⟩
    rcases finE_get (es := e') hs (fun ⟨z, q⟩ => lentLt j z (by rw [hs, q])) with ⟨z, q, w⟩ | ⟨q, w⟩
    · have hL := k.lent j z (by show (ss ++ _)[j]? = _; rw [e0 j hj, hs, q])
      exact .inl ⟨z, q, by rw [← w, h], hL.1, by rw [hL.2]; exact sg j hj⟩
    · rw [h] at w
      cases w
      have hm : okArg ss[j] = true := List.all_eq_true.mp ha _ (List.getElem_mem hj)
      cases w2 : ss[j] with
      | v t => exact .inr ⟨rfl, t, rfl⟩
      | un => rw [w2] at hm; cases hm
      | fz _ => rw [w2] at hm; cases hm
      | ow l z => cases l with
        | true => exact absurd w2 (q z)
        | false => rw [w2] at hm; cases hm
  have kind : SameKinds ss (finE ss e') := fun j l b h => by
    obtain ⟨s0, h0, hj, q⟩ := get j _ h
    rcases q with ⟨z, ez, he, ⟨b', lent⟩, _⟩ | ⟨_, t, et⟩
    · rw [he] at lent
      rcases lent with lent | lent
      · cases lent; exact ⟨z, by rw [h0, ez]⟩
      · cases lent
    · cases et
  have owB : ∀ a, Own (ss ++ List.replicate (N.length - ss.length) .un) (start N vs) a → Own ss (vs.map some) a := fun a ⟨j, l, b, h1, h2⟩ => by
    by_cases q : j < ss.length
    · rw [e0 j q] at h1; rw [sg j q] at h2; exact ⟨j, l, b, h1, h2⟩
    · rw [List.getElem?_append_right (by omega)] at h1
      have := List.eq_of_mem_replicate (List.mem_of_getElem? h1)
      cases this
  refine ⟨⟨R'.sub, by rw [finE_len, hl]; simp, fun j s o g1 g2 => ?_, fun j j' l b l' b' p g1 g2 g3 g4 => ?_⟩, ⟨k.ff, fun a o h n => k.keep a o h fun z => n (owB a z), k.dom, fun p ⟨j, l, b, g1, g2⟩ => ?_, fun j hj => ?_, kind⟩⟩
  · obtain ⟨s0, h0, hj, q⟩ := get j _ g1
    rcases q with ⟨z, ez, he, _, hs⟩ | ⟨es, t, et⟩
    · exact R'.at_ j s o he (by rw [hs]; exact g2)
    · have w := R.at_ j s o (by rw [es]; exact h0) g2
      subst et
      obtain ⟨y, ey, d⟩ := w
      exact ⟨y, ey, dp_mono k.ff _ _ d⟩
  · obtain ⟨s0, h0, hj, q⟩ := get j _ g1
    obtain ⟨s0', h0', hj', q'⟩ := get j' _ g2
    rcases q with ⟨z, ez, he, _, hs⟩ | ⟨es, t, et⟩
    · rcases q' with ⟨z', ez', he', _, hs'⟩ | ⟨es, t, et⟩
      · exact R'.ne j j' l b l' b' p he he' (by rw [hs]; exact g3) (by rw [hs']; exact g4)
      · cases et
    · cases et
  · obtain ⟨b', q⟩ := kind j l b g1
    exact ⟨j, l, b', q, g2⟩
  · obtain ⟨b, hb⟩ := hj
    rcases hb with hb | hb
    · have hjl : j < ss.length := (List.getElem?_eq_some_iff.mp hb).1
      have hL := k.lent j b (by show (ss ++ _)[j]? = _; rw [e0 j hjl, hb])
      rcases finE_get (es := e') hb (fun ⟨z, q⟩ => lentLt j z (by rw [hb, q])) with ⟨z, _, w⟩ | ⟨w, _⟩
      · obtain ⟨b', q⟩ := hL.1
        exact ⟨b', by rw [w]; exact q⟩
      · exact absurd rfl (w b)
    · have hjl : j < ss.length := (List.getElem?_eq_some_iff.mp hb).1
      have hm : okArg (.fz b) = true := List.all_eq_true.mp ha _ (List.mem_of_getElem? hb)
      cases hm
end
theorem fn_ok {P : Program} {w : World} {K : PySem.W.Frag} {mg : Str → Option Value} {base : Heap} {x qual : Str} {params : Arguments} {body : List Stmt} {scope : Scope} {f : Addr} {fd : FuncData} {N ps : List Str} {k : Nat} {b : SemS}
    (Fn : FunD K x qual params body scope [] [] f fd) (S : FnScope N ps scope)
    (hb : ∀ (cdv : Value) (A : Around) (outer : List Env) (s : Shared) (H : Hp) (E : XK), Room k (A.deeper (envOfC qual scope s.heap.objs.size f cdv)) →
      ∀ B, QSs (cxOf (L2N.CX P w) P w K mg base N qual scope f cdv A outer s H E) (fun cls d _ H => E cls d H) B body b) :
    FnOk P w K mg base (L2N.CX P w) (k + 1) f fd ps (spF K ps.length (runFn N.length b)) := by
  refine Fn.ok S (fun vs H Q E h => h.1) fun cdv A outer s H vs Q E hr ⟨hlen, ss, F, R, h⟩ => ?_
  have hl : ss.length = vs.length := by have := R.len; simpa using this
  have hN : ps.length ≤ N.length := by have := congrArg List.length S.pre; rw [List.length_take] at this; omega
  unfold runFn at h
  by_cases ha : ss.all okArg = true
  · rw [if_pos ha] at h
    refine ⟨_, hb cdv A outer s H E hr ⟨ss ++ List.replicate (N.length - ss.length) Sl.un, L2.start N vs, F, H⟩, ss ++ List.replicate (N.length - ss.length) Sl.un, F, start_rel (N := N) R, ?_, ?_⟩
    · refine ⟨fun _ _ h => h, fun a o h _ => ⟨h, fun z => z⟩, fun a o h => ⟨o, h⟩, fun i b p h1 _ => ?_, fun i b h => ⟨rfl, b, h⟩, fun i b h => ⟨⟨b, .inl h⟩, rfl⟩⟩
      by_cases q : i < ss.length
      · rw [List.getElem?_append_left q] at h1
        have := List.all_eq_true.mp ha _ (List.mem_of_getElem? h1)
        cases this
      · rw [List.getElem?_append_right (by omega)] at h1
        have := List.eq_of_mem_replicate (List.mem_of_getElem? h1)
        cases this
    · cases q : b (ss ++ List.replicate (N.length - ss.length) .un) with
      | bad => rw [q] at h; exact h
      | exc c t e' =>
        rw [q] at h
        intro σ' F' H' cls d R' k' ex
        obtain ⟨a1, a2⟩ := fin_rel R R' k' ha
        exact h F' H' cls d a1 a2 ex
      | ok f e' =>
        rw [q] at h
        cases f with
        | bk => exact h.elim
        | ct => exact h.elim
        | nx =>
          intro σ' F' H' R' k'
          obtain ⟨a1, a2⟩ := fin_rel R R' k' ha
          exact h _ F' H' a1 a2 .non
        | rt r =>
          intro x σ' F' H' R' k' o
          obtain ⟨a1, a2⟩ := fin_rel R R' k' ha
          refine h _ F' H' a1 a2 ?_
          cases r with
          | r t => exact o
          | b z => exact o
          | s i => cases o
  · rw [if_neg ha] at h; exact h.elim
end Ev

set_option Elab.async false
set_option linter.all false
set_option maxRecDepth 100000
namespace Ev
open PySem PySem.Spec PyProof.Rows L2
/-! ### a, b = x, y: names -/
/-- what names alone hold is let go -/
def presc : List Od → En → Option (List Od × En)
  | [], e => some ([], e)
  | .s i :: rs, e => match esc (.s i) e with
    | some (t, e1) => (match presc rs e1 with
      | some (rs', e2) => some (.r t :: rs', e2)
      | none => none)
    | none => none
  | r :: rs, e => match presc rs e with
    | some (rs', e2) => some (r :: rs', e2)
    | none => none
def noS : List Od → Prop
  | [] => True
  | .s _ :: _ => False
  | _ :: rs => noS rs
theorem presc_ok {K : PySem.W.Frag} {σ : Sg} {e0 : En} {F0 H0 H : Hp} (R0 : Rel K e0 σ F0 H0) : ∀ {rs rs' : List Od} {xs : List V} {e e' : En} {F : Hp}, Rel K e σ F H → Step e0 e σ F0 H0 F H → OdsR K σ H0 F H rs xs → presc rs e = some (rs', e') →
    ∃ F', Rel K e' σ F' H ∧ Step e0 e' σ F0 H0 F' H ∧ OdsR K σ H0 F' H rs' xs ∧ noS rs' ∧ (∀ a o, F a = some o → F' a = some o) ∧ (∀ (j : Nat) (z : Bx), rs'[j]? = some (.b z) → rs[j]? = some (.b z)) ∧ ∀ a, H0 a = none → F' a = F a
  | [], _, _, _, _, F, R, S, .nil, h => by cases h; exact ⟨F, R, S, .nil, trivial, fun _ _ h => h, fun j z h => h, fun _ _ => rfl⟩
  | .s i :: rs, _, _, e, _, F, R, S, .cons (x := x) (xs := xs) a b n, h => by
    unfold presc at h
    cases q : esc (.s i) e with
    | none => rw [q] at h; cases h
    | some te =>
      obtain ⟨t, e1⟩ := te
      simp only [q] at h
      cases q2 : presc rs e1 with
      | none => rw [q2] at h; cases h
      | some te2 =>
        obtain ⟨rs', e2⟩ := te2
        simp only [q2] at h
        cases h
        obtain ⟨F1, R1, S1, d1, ff1, only⟩ := esc_ok R0 R S a q
        have b1 : OdsR K σ H0 F1 H rs xs := ods_grow ff1 b fun p j z hj hx hn => by
          rcases only p with e | ⟨ex, e | e⟩
          · exact e
          · obtain ⟨z', e'⟩ := e; cases e'
          · exact absurd (S.own _ e) (fun w => by obtain ⟨_, o, q⟩ := R0.owned w; rw [hn] at q; cases q)
        obtain ⟨F2, R2, S2, d2, ns, ff2, bs, same⟩ := presc_ok R0 R1 S1 b1 q2
        refine ⟨F2, R2, S2, .cons (dp_mono ff2 _ _ d1) d2 (fun z p hr => by cases hr), ns, fun a o h => ff2 _ _ (ff1 _ _ h), fun j z h => ?_, fun a hn => ?_⟩
        · cases j with
          | zero => simp at h
          | succ j => simpa using bs j z (by simpa using h)
        · rw [same a hn]
          rcases only a with e | ⟨ex, e | e⟩
          · exact e
          · obtain ⟨z', e'⟩ := e; cases e'
          · exact absurd (S.own _ e) (fun w => by obtain ⟨_, o, q⟩ := R0.owned w; rw [hn] at q; cases q)
  | .r t :: rs, _, _, e, _, F, R, S, .cons (x := x) (xs := xs) a b n, h => by
    unfold presc at h
    cases q2 : presc rs e with
    | none => rw [q2] at h; cases h
    | some te2 =>
      obtain ⟨rs', e2⟩ := te2
      simp only [q2] at h
      cases h
      obtain ⟨F2, R2, S2, d2, ns, ff2, bs, same⟩ := presc_ok R0 R S b q2
      refine ⟨F2, R2, S2, .cons (dp_mono ff2 _ _ a) d2 (fun z p hr => by cases hr), ns, ff2, fun j z h => ?_, same⟩
      cases j with
      | zero => simp at h
      | succ j => simpa using bs j z (by simpa using h)
  | .b z0 :: rs, _, _, e, _, F, R, S, .cons (x := x) (xs := xs) a b n, h => by
    unfold presc at h
    cases q2 : presc rs e with
    | none => rw [q2] at h; cases h
    | some te2 =>
      obtain ⟨rs', e2⟩ := te2
      simp only [q2] at h
      cases h
      obtain ⟨F2, R2, S2, d2, ns, ff2, bs, same⟩ := presc_ok R0 R S b q2
      have a2 : OdR K σ H0 F2 H x (.b z0) := by
        obtain ⟨p, ep, hn, hf, bx⟩ := a
        exact ⟨p, ep, hn, by rw [same p hn]; exact hf, bx_keep bx ff2 fun _ h => h⟩
      refine ⟨F2, R2, S2, .cons a2 d2 (fun z p hr hx j z' hj => n z p hr hx j z' (bs j z' hj)), ns, ff2, fun j z h => ?_, same⟩
      cases j with
      | zero => simpa using h
      | succ j => simpa using bs j z (by simpa using h)
section
variable {K : PySem.W.Frag} {W : WX} {B : Bd} {e e1 : En} {σ : Sg} {F H H0 : Hp}
theorem put_ok {i : Nat} {r : Od} {x : V} {e' : En} (R : Rel K e σ F H) (k : BOk B e σ F H) (hB : ∀ p, H0 p = none → B.H p = none) (O : OdR K σ H0 F H x r) (ns : ∀ j, r ≠ .s j) (no : ∀ p z, r = .b z → x = .ref p → ¬ Own e σ p) (h : setO i r e = .ok .nx e') :
    Rel K e' (σ.set i (some x)) F H ∧ BOk B e' (σ.set i (some x)) F H ∧ ∀ q, Own e' (σ.set i (some x)) q → Own e σ q ∨ ∃ z, r = .b z ∧ x = .ref q := by
  unfold setO at h
  cases l : isLent e i with
  | true => rw [l] at h; cases h
  | false =>
    rw [l, if_neg (by decide)] at h
    have n := isLent_no l
    cases r with
    | s j => exact absurd rfl (ns j)
    | r t =>
      simp only [esc] at h
      cases h
      obtain ⟨a, b⟩ := set_v R k O n
      refine ⟨a, b, fun q ⟨j, l', b', q1, q2⟩ => .inl ?_⟩
      by_cases ij : i = j
      · subst ij
        have hi : i < e.length := by have := (List.getElem?_eq_some_iff.mp q1).1; simpa using this
        rw [List.getElem?_set_self hi] at q1; cases q1
      · rw [List.getElem?_set_ne ij] at q1 q2; exact ⟨j, l', b', q1, q2⟩
    | b z =>
      cases h
      obtain ⟨p, rfl, hn, hf, bx⟩ := O
      obtain ⟨a, b⟩ := set_b R k hf bx (hB p hn) (no p z rfl rfl) n
      refine ⟨a, b, fun q ⟨j, l', b', q1, q2⟩ => ?_⟩
      by_cases ij : i = j
      · subst ij
        have hi : i < e.length := by have := (List.getElem?_eq_some_iff.mp q1).1; simpa using this
        rw [List.getElem?_set_self (by rw [← R.len]; exact hi)] at q2
        cases q2
        exact .inr ⟨z, rfl, rfl⟩
      · rw [List.getElem?_set_ne ij] at q1 q2; exact .inl ⟨j, l', b', q1, q2⟩
def setOs : List Nat → List Od → En → Option En
  | [], [], e => some e
  | i :: is, r :: rs, e => match setO i r e with
    | .ok .nx e1 => setOs is rs e1
    | _ => none
  | _, _, _ => none
def setsσ : List Nat → List V → Sg → Sg
  | i :: is, x :: xs, σ => setsσ is xs (σ.set i (some x))
  | _, _, σ => σ
theorem sets_ok : ∀ {is : List Nat} {rs : List Od} {xs : List V} {e e' : En} {σ σ0 : Sg}, Rel K e σ F H → BOk B e σ F H → (∀ p, H0 p = none → B.H p = none) → OdsR K σ0 H0 F H rs xs → noS rs → (∀ p (j : Nat) z, rs[j]? = some (.b z) → xs[j]? = some (.ref p) → ¬ Own e σ p) → setOs is rs e = some e' →
    Rel K e' (setsσ is xs σ) F H ∧ BOk B e' (setsσ is xs σ) F H
  | [], [], _, _, _, _, _, R, k, _, .nil, _, _, h => by cases h; exact ⟨R, k⟩
  | [], _ :: _, _, _, _, _, _, _, _, _, _, _, _, h => by cases h
  | _ :: _, [], _, _, _, _, _, _, _, _, _, _, _, h => by cases h
  | i :: is, r :: rs, _, e, _, σ, σ0, R, k, hB, .cons (x := x) (xs := xs) a b n, ns, no, h => by
    unfold setOs at h
    cases q : setO i r e with
    | bad => rw [q] at h; cases h
    | exc _ _ _ => rw [q] at h; cases h
    | ok f e1 =>
      rw [q] at h
      cases f with
      | rt _ => cases h
      | bk => cases h
      | ct => cases h
      | nx =>
        have nsr : (∀ j, r ≠ .s j) ∧ noS rs := by
          cases r with
          | s j => exact ns.elim
          | r t => exact ⟨(fun j q => by cases q), ns⟩
          | b z => exact ⟨(fun j q => by cases q), ns⟩
        have a' : OdR K σ H0 F H x r := by
          cases r with
          | s j => exact ns.elim
          | r t => exact a
          | b z => exact a
        obtain ⟨R1, k1, ow⟩ := put_ok R k hB a' nsr.1 (fun p z er ex => no p 0 z (by rw [er]; rfl) (by rw [ex]; rfl)) q
        refine sets_ok (is := is) (rs := rs) (xs := xs) R1 k1 hB b nsr.2 (fun p j z hj hx hO => ?_) h
        rcases ow p hO with w | ⟨z', er, ex⟩
        · exact no p (j + 1) z (by simpa using hj) (by simpa using hx) w
        · exact n z' p er ex j z hj hx
end
section
variable {X : Cx} {W : WX} {B : Bd} {a b c : Expr} {ma mb mc : SemE} {pos : Pos}
/-- names = values, all at once -/
def sPar (is : List Nat) (m : SemA) : SemS := fun e => (m e).bind fun rs e1 => match presc rs e1 with
  | some (rs', e2) => (match setOs is rs' e2 with
    | some e3 => .ok .nx e3
    | none => .bad)
  | none => .bad
theorem par_read {is : List Nat} {m : SemA} {K : PySem.W.Frag} {D : Ends} {σ : Sg} {H : Hp} (h : tS K W B (sPar is m) D σ H) : tA K W m σ H fun xs H1 => xs.length = is.length ∧ D.nx (setsσ is xs σ) H1 ∧ ∀ p o, H1 p = none → D.nx (setsσ is xs σ) (upd H1 p o) := by
  obtain ⟨e, F, R, k, h⟩ := h
  refine tX_imp (tS_bind (rel := fun σ Hs F H xs rs => OdsR K σ Hs F H rs xs) R k h) fun xs H1 ⟨rs, e1, F1, R1, S1, k1, O, h1⟩ => ?_
  cases q : presc rs e1 with
  | none => simp only [q] at h1; exact h1.elim
  | some te =>
    obtain ⟨rs', e2⟩ := te
    simp only [q] at h1
    obtain ⟨F2, R2, S2, O2, ns, _, _, _⟩ := presc_ok R R1 S1 O q
    have k2 := k.step S2
    cases q2 : setOs is rs' e2 with
    | none => simp only [q2] at h1; exact h1.elim
    | some e3 =>
      simp only [q2] at h1
      have hB : ∀ p, H p = none → B.H p = none := fun p hn => by
        cases q : B.H p with
        | none => rfl
        | some o => obtain ⟨o', e'⟩ := k.dom _ _ q; rw [hn] at e'; cases e'
      have no : ∀ {F' H'}, OdsR K σ H F' H' rs' xs → ∀ p (j : Nat) z, rs'[j]? = some (.b z) → xs[j]? = some (.ref p) → ¬ Own e2 σ p := fun O2 p j z hj hx => by
        obtain ⟨p', hx', hn, _⟩ := ods_tmp O2 j z hj
        rw [hx] at hx'; cases hx'
        exact fresh_not_own R S2 hn
      have len : ∀ {is : List Nat} {rs : List Od} {e e' : En}, setOs is rs e = some e' → is.length = rs.length := by
        intro is
        induction is with
        | nil => intro rs e e' h; cases rs with
          | nil => rfl
          | cons _ _ => cases h
        | cons i is ih => intro rs e e' h; cases rs with
          | nil => cases h
          | cons r rs =>
            unfold setOs at h
            split at h
            · simp [ih h]
            · cases h
      refine ⟨by rw [len q2, ods_len O2], ?_, fun p o hp => ?_⟩
      · obtain ⟨R3, k3⟩ := sets_ok R2 k2 hB O2 ns (no O2) q2
        exact h1 _ _ _ R3 k3
      · have R2' := laid_own (o := o) R2 hp
        have k2' := k2.step (laid_own_step (e := e2) (σ := σ) (F := F2) (o := o) hp)
        have O2' : OdsR K σ H F2 (upd H1 p o) rs' xs := by
          have mono : ∀ {rs xs}, OdsR K σ H F2 H1 rs xs → OdsR K σ H F2 (upd H1 p o) rs xs := by
            intro rs xs O
            induction O with
            | nil => exact .nil
            | cons a b n ih =>
              refine .cons ?_ ih n
              rename_i r x _ _
              cases r with
              | r t => exact a
              | s i => exact a
              | b z =>
                obtain ⟨p', ep, hn, hf, bx⟩ := a
                exact ⟨p', ep, hn, hf, bx_keep bx (fun _ _ h => h) fun o' h' => by rw [upd_ne (ne_of_none h' hp)]; exact h'⟩
          exact mono O2
        obtain ⟨R3, k3⟩ := sets_ok R2' k2' hB O2' ns (no O2') q2
        exact h1 _ _ _ R3 k3
theorem qpar2 {i j : Nat} {x y : Str} {px py pt : Pos} {kt k2 pt2} {m : SemA} (hc : X.calm = true) (hN : X.N.Nodup) (hi : X.N[i]? = some x) (hj : X.N[j]? = some y) (hij : i ≠ j)
    (hx : X.env.scope.names.lookup x = some .local) (hy : X.env.scope.names.lookup y = some .local) (ha : QA X W [a, b] m)
    (hw : swappedStores [.Tuple [.Name x px, .Name y py] kt pt] (.Tuple [a, b] k2 pt2) X.env = pure (some [x, y]))
    (hs : swapsWithSole [.Tuple [.Name x px, .Name y py] kt pt] (.Tuple [a, b] k2 pt2) pos.line X.env = pure false := by rfl) :
    QS X W B (.Assign [.Tuple [.Name x px, .Name y py] kt pt] (.Tuple [a, b] k2 pt2) pos) (sPar [i, j] m) :=
  ps_mono (ps_par hc hN hi hj hij hx hy ha hw hs) fun D σ H h => tX_imp (par_read h) fun xs H1 ⟨hl, q, _⟩ => by
    match xs, hl, q with
    | [v, w], _, q => exact ⟨v, w, rfl, q⟩
/-- by the tuple -/
theorem qparT {tgs es : List Expr} {is : List Nat} {m : SemA} {kt k2 : Nat} {pt pt2 : Pos} {gs : TGs} (hc : X.calm = true) (ha : QA X W es m) (hg : PGs X tgs gs) (hgs : ∀ xs σ H Q, xs.length = is.length → Q (setsσ is xs σ) H → gs xs σ H Q) (hlen : is.length ≤ sizeLine)
    (hs : swapsWithSole [.Tuple tgs kt pt] (.Tuple es k2 pt2) pos.line X.env = pure false := by rfl) (hw : swappedStores [.Tuple tgs kt pt] (.Tuple es k2 pt2) X.env = pure none := by rfl)
    (h1 : (assignEach [.Tuple tgs kt pt] X.env).map (·.2) = [assign (.Tuple tgs kt pt) X.env] := by rfl) (hn : (assignEach tgs X.env).length = is.length := by rfl) (hst : (assignEach tgs X.env).findIdx? (·.1) = none := by rfl) :
    QS X W B (.Assign [.Tuple tgs kt pt] (.Tuple es k2 pt2) pos) (sPar is m) :=
  ps_mono (ps_asg (pe_tup ha) (pg_tup hc hg hn hst) hs hw h1) fun D σ H h => tX_imp (par_read h) fun xs H1 ⟨hl, _, q⟩ =>
    ⟨by rw [hl]; exact hlen, fun p hp => ⟨p, xs, rfl, SqT.of upd_same, hl, hgs _ _ _ _ hl (q p _ hp)⟩⟩
def gsNames : List Nat → TGs
  | [] => gNil
  | i :: is => gCons (gName i) (gsNames is)
theorem gsNames_ok : ∀ (is : List Nat) (xs : List V) (σ : Sg) (H : Hp) (Q : Sg → Hp → Prop), xs.length = is.length → Q (setsσ is xs σ) H → gsNames is xs σ H Q
  | [], [], σ, H, Q, _, h => ⟨rfl, h⟩
  | [], _ :: _, _, _, _, h, _ => by cases h
  | _ :: _, [], _, _, _, h, _ => by cases h
  | i :: is, x :: xs, σ, H, Q, hl, h => ⟨x, xs, rfl, gsNames_ok is xs _ H Q (by simpa using hl) h⟩
end
end Ev

set_option Elab.async false
set_option linter.all false
set_option maxRecDepth 100000
namespace Ev
open PySem PySem.Spec PyProof.Rows L2
section
variable {X : Cx} {W : WX} {B : Bd} {a b c : Expr} {ma mb mc : SemE} {pos : Pos}
/-! ### calls -/
/-! ### x.index(y) -/
def findT (ts : List T) (u : T) : Option Nat := ts.findIdx? fun z => PyData.eqv z u
def eIndex (mo : SemE) (ma : SemA) : SemE := fun e => (mo e).bind fun r e1 => match r.val e1 with
  | some (.list _) => (ma e1).bind fun rs e2 => (match r.val e2, vals e2 rs with
    | some (.list ts), some [u] => if SeqAt.shaped (.list ts) && SeqAt.shaped u then (match findT ts u with
      | some j => .ok (.r (.int (j : Nat))) e2
      | none => .bad) else .bad
    | _, _ => .bad)
  | _ => .bad
/-! ### x[i] = v of a list that a name alone holds -/
def sSetIx (i : Nat) (mi mv : SemE) : SemS := fun e => (mv e).bind fun r e1 => match e1[i]? with
  | some (.ow _ (.l _)) => (mi e1).bind fun ri e2 => (match ri.val e2, esc r e2 with
    | some (.int k), some (t, e3) => (match e3[i]? with
      | some (.ow l (.l ts)) => (match ixN ts.length k with
        | some j => .ok .nx (e3.set i (.ow l (.l (ts.set j t))))
        | none => .bad)
      | _ => .bad)
    | _, _ => .bad)
  | _ => .bad
theorem qsetix {i : Nat} {x : Str} {p p' : Pos} {ix v : Expr} {mi mv : SemE} (hN : X.N[i]? = some x) (hv : Vis X.env.scope x) (hi : QE X W ix mi) (hval : QE X W v mv) (hd : (x == ("__debug__" : Str)) = false := by decide) (hcd : (x == ("__classdict__" : Str)) = false := by decide)
    (ha : ∀ w, assign (.Subscript (.Name x p) ix p') X.env w = (do
      let ov ← holding [w] (eval (.Name x p) X.env)
      let iv ← holding [w, ov] (eval ix X.env)
      standAt p'
      holding [w, ov, iv] (setItem ov iv w)
      release [w, ov, iv] []) := by intro _; rfl)
    (hs : swapsWithSole [.Subscript (.Name x p) ix p'] v pos.line X.env = pure false := by rfl) (hw : swappedStores [.Subscript (.Name x p) ix p'] v X.env = pure none := by rfl)
    (h1 : (assignEach [.Subscript (.Name x p) ix p'] X.env).map (·.2) = [assign (.Subscript (.Name x p) ix p') X.env] := by rfl) : QS X W B (.Assign [.Subscript (.Name x p) ix p'] v pos) (sSetIx i mi mv) := by
  refine ps_mono (ps_asg hval (pg_sub (pe_var hN hv hd hcd) hi set_list ha) hs hw h1) fun D σ H h => ?_
  obtain ⟨e, F, R, k, h⟩ := h
  refine tX_imp (tS_bind (rel := fun σ => OdR X.K σ) R k h) fun y H1 ⟨r, e1, F1, R1, S1, k1, O1, h1⟩ => ?_
  split at h1
  rename_i l0 ts0 q0
  obtain ⟨o, hs0, p, ep, _⟩ := R1.var q0
  subst ep
  refine ⟨_, hs0, tX_imp (tS_bind (B := B) (m := mi) (rel := fun σ => OdR X.K σ) R1 k1 h1) fun iv H2 ⟨ri, e2, F2, R2, S2, k2, O2, h2⟩ => ?_⟩
  have O1' := od_stay O1 (fun p hp => fresh_not_own R S1 hp) S2
  split at h2
  · rename_i kk t e3 q1 q2
    have d := val_ok R2 O2 q1
    cases d
    obtain ⟨F3, R3, S3, d3, _⟩ := esc_ok R R2 (S1.trans S2) O1' q2
    split at h2
    · rename_i l ts q3
      cases q4 : ixN ts.length kk with
      | none => simp only [q4] at h2; exact h2.elim
      | some j =>
        simp only [q4] at h2
        obtain ⟨p', ep, hf, xs, hx, dd⟩ := R3.at_ i _ _ q3 hs0
        cases ep
        refine ⟨p, xs, kk, j, rfl, rfl, hx, by rw [dpAll_len dd]; exact q4, ?_⟩
        obtain ⟨R4, S4⟩ := upd_own R3 q3 hs0 (dpAll_set d3 j dd)
        exact h2 σ F3 _ R4 ((k.step S3).step S4)
    · exact h2.elim
  · exact h2.elim
  · exact h1.elim
end
end Ev

set_option Elab.async false
set_option linter.all false
set_option maxRecDepth 100000
namespace Ev
open PySem PySem.Spec PyProof.Rows L2
section
variable {X : Cx} {W : WX} {B : Bd} {a b c : Expr} {ma mb mc : SemE} {pos : Pos}
/-! ### f(k = v, ..): keywords alone -/
abbrev QK (X : Cx) (W : WX) (kws : List Keyword) (m : SemA) : Prop := PK X kws (tA X.K W m)
theorem pk_mono {kws : List Keyword} {t t' : TA} (h : PK X kws t) (m : ∀ σ H Q, t' σ H Q → t σ H Q) : PK X kws t' := ⟨fun pos pins s σ H Q I q => h.run pos pins s σ H Q I (m σ H Q q)⟩
theorem qk_nil : QK X W [] aNil := pk_mono pk_nil fun σ H Q ⟨e, F, R, h⟩ => h _ F H R .refl .nil
theorem qk_cons {kws : List Keyword} {mr : SemA} {nm : Option Str} {kpos : Pos} (ha : QE X W a ma) (hr : QK X W kws mr) : QK X W (⟨nm, a, kpos⟩ :: kws) (aCons ma mr) := by
  refine pk_mono (pk_cons ha hr) fun σ H Q h => ?_
  obtain ⟨e, F, R, h⟩ := h
  refine tX_imp (tX_bind R .refl h) fun x H1 ⟨r, e1, F1, R1, S1, O1, h1⟩ => ?_
  refine tX_imp (tX_bind (rel := fun σ Hs F H xs rs => OdsR X.K σ Hs F H rs xs) R1 S1 h1) fun xs H2 ⟨rs, e2, F2, R2, S2, O2, h2⟩ => ?_
  refine h2 _ F2 H2 R2 (S1.trans S2) (.cons (od_stay O1 (fun p hp => fresh_not_own R S1 hp) S2) (ods_back S1 O2) fun z p er ex j z' hj hx => ?_)
  subst er
  obtain ⟨p', ep, hn, hf, bx⟩ := O1
  rw [ex] at ep; cases ep
  obtain ⟨q, hq, hn2, _⟩ := ods_tmp O2 j z' hj
  rw [hx] at hq; cases hq
  obtain ⟨o, ho⟩ := bx_some bx
  rw [hn2] at ho; cases ho
def pick {α : Type} (perm : List Nat) (l : List α) : List α := perm.filterMap (l[·]?)
theorem pick_ods {K : PySem.W.Frag} {σ : Sg} {Hs F H : Hp} {rs : List Od} {xs : List V} (O : OdsR K σ Hs F H rs xs) : ∀ {perm : List Nat}, perm.Nodup → OdsR K σ Hs F H (pick perm rs) (pick perm xs)
  | [], _ => .nil
  | i :: perm, nd => by
    have ih := pick_ods O (List.nodup_cons.mp nd).2
    by_cases hi : i < rs.length
    · have h1 : rs[i]? = some rs[i] := List.getElem?_eq_getElem hi
      obtain ⟨x, hx, o⟩ := ods_get O h1
      have e1 : pick (i :: perm) rs = rs[i] :: pick perm rs := by unfold pick; rw [List.filterMap_cons, h1]
      have e2 : pick (i :: perm) xs = x :: pick perm xs := by unfold pick; rw [List.filterMap_cons, hx]
      rw [e1, e2]
      refine .cons o ih fun z p er ex j z' hj hxj => ?_
      subst ex
      -- the j-th of the picked ones stands at some place of perm
      have key : ∀ {perm : List Nat} {j : Nat}, (pick perm rs)[j]? = some (.b z') → (pick perm xs)[j]? = some (.ref p) → ∃ k ∈ perm, rs[k]? = some (.b z') ∧ xs[k]? = some (.ref p) := by
        intro perm
        induction perm with
        | nil => intro j h _; simp [pick] at h
        | cons k perm ih2 =>
          intro j h1 h2
          by_cases hk : k < rs.length
          · have g1 : rs[k]? = some rs[k] := List.getElem?_eq_getElem hk
            obtain ⟨y, hy, _⟩ := ods_get O g1
            have f1 : pick (k :: perm) rs = rs[k] :: pick perm rs := by unfold pick; rw [List.filterMap_cons, g1]
            have f2 : pick (k :: perm) xs = y :: pick perm xs := by unfold pick; rw [List.filterMap_cons, hy]
            rw [f1] at h1; rw [f2] at h2
            cases j with
            | zero => simp at h1 h2; exact ⟨k, List.mem_cons_self, by rw [g1, h1], by rw [hy, h2]⟩
            | succ j =>
              obtain ⟨k', m, q⟩ := ih2 (j := j) (by simpa using h1) (by simpa using h2)
              exact ⟨k', List.mem_cons_of_mem _ m, q⟩
          · have g1 : rs[k]? = none := List.getElem?_eq_none (by omega)
            have g2 : xs[k]? = none := List.getElem?_eq_none (by rw [← ods_len O]; omega)
            have f1 : pick (k :: perm) rs = pick perm rs := by unfold pick; rw [List.filterMap_cons, g1]
            have f2 : pick (k :: perm) xs = pick perm xs := by unfold pick; rw [List.filterMap_cons, g2]
            rw [f1] at h1; rw [f2] at h2
            obtain ⟨k', m, q⟩ := ih2 (j := j) h1 h2
            exact ⟨k', List.mem_cons_of_mem _ m, q⟩
      obtain ⟨k, hk, q1, q2⟩ := key hj hxj
      have := ods_ne O (h1.trans (by rw [er])) q1 hx q2
      subst this
      exact (List.nodup_cons.mp nd).1 hk
    · have g1 : rs[i]? = none := List.getElem?_eq_none (by omega)
      have g2 : xs[i]? = none := List.getElem?_eq_none (by rw [← ods_len O]; omega)
      have f1 : pick (i :: perm) rs = pick perm rs := by unfold pick; rw [List.filterMap_cons, g1]
      have f2 : pick (i :: perm) xs = pick perm xs := by unfold pick; rw [List.filterMap_cons, g2]
      rw [f1, f2]; exact ih
theorem pick_vals {xs : List V} {us : List Value} (r : Vals xs us) : ∀ (perm : List Nat), Vals (pick perm xs) (pick perm us)
  | [] => .nil
  | i :: perm => by
    have ih := pick_vals r perm
    cases q : xs[i]? with
    | none =>
      have f1 : pick (i :: perm) xs = pick perm xs := by unfold pick; rw [List.filterMap_cons, q]
      have f2 : pick (i :: perm) us = pick perm us := by unfold pick; rw [List.filterMap_cons, r.none_of q]
      rw [f1, f2]; exact ih
    | some x =>
      obtain ⟨u, hu, ru⟩ := r.get q
      have f1 : pick (i :: perm) xs = x :: pick perm xs := by unfold pick; rw [List.filterMap_cons, q]
      have f2 : pick (i :: perm) us = u :: pick perm us := by unfold pick; rw [List.filterMap_cons, hu]
      rw [f1, f2]; exact .cons ru ih
/-- how keywords alone are bound -/
def KwBinds (K : PySem.W.Frag) (fd : FuncData) (ps ks : List Str) (perm : List Nat) : Prop := ∀ (s : Shared) (ws : List Value), ws.length = ks.length → BindsTo s fd ⟨[], ks.zip ws⟩ (ps.zip (pick perm ws))
theorem kwBinds_of {K : PySem.W.Frag} {x qual : Str} {params : Arguments} {body : List Stmt} {scope : Scope} {kws : List (Str × V)} {f : Addr} {fd : FuncData} {ps ks : List Str} {perm : List Nat} (F : FunD K x qual params body scope [] kws f fd)
    (h : ∀ (kV doc pm : Value) (an : Option Addr) (cdv ct : Value) (ws : List Value), ws.length = ks.length → bindArgs (PySem.W.fnOf x qual params body scope .none kV doc pm an cdv ct) ⟨[], ks.zip ws⟩ = pure (ps.zip (pick perm ws))) : KwBinds K fd ps ks perm := fun s ws hl => by
  obtain ⟨oc, od, dV, kV, doc, pm, an, cdv, ct, osl, rfl, lk, hcd, hD, hK⟩ := F.ex
  rcases hD with ⟨_, rfl⟩ | ⟨e, _⟩
  · exact .of_eq (h kV doc pm an cdv ct ws hl)
  · exact absurd rfl e
def tCallKS (sp : Sp) (perm : List Nat) (n : Nat) (E : Sg → XK) (tk : TA) : TE := fun σ H Q => tk σ H fun zs H1 => zs.length = n ∧ sp (pick perm zs) H1 Q (E σ)
theorem pe_callKS {CX : CXT} {k : Nat} {f : Addr} {fd : FuncData} {ps ks : List Str} {sp : Sp} {E : Sg → XK} {x : Str} {p : Pos} {kws : List Keyword} {tk : TA} {perm : List Nat} (Fn : FnOk X.prog X.w X.K X.mg X.base CX k f fd ps sp) (hr : Room k X.A) (hg : Gl X x) (hm : X.mg x = some (.ref f)) (hk : PySem.W.keepIn X.K (.ref f) = true)
    (hb : KwBinds X.K fd ps ks perm) (hx : ∀ σ, PassesAt CX X σ (E σ)) (hkw : PK X kws tk) (hall : (backToKw pos (keywordEach kws X.env)).all (·.1.isSome) = true := by rfl) (hks : (backToKw pos (keywordEach kws X.env)).filterMap (·.1) = ks := by rfl)
    (hdb : (x == ("__debug__" : Str)) = false := by decide) (hpl : ((backTo pos (starEach [] X.env)).any (·.1) || (backToKw pos (keywordEach kws X.env)).any (·.1.isNone)) = false := by rfl) :
    PE X (.Call (.Name x p) [] kws pos) (tCallKS sp perm ks.length E tk) := by
  refine ⟨fun pins s σ H Q I h => ?_⟩
  refine wpAny_Call_Name_kw (ld_glob I hg hm ?_ hdb)
  refine PySem.W.callWith_KW0 (h₀ := X.base) I.ok.mod.kin hk hall ?_ hpl
  refine thn (hkw.run pos pins s σ H _ I h) fun ws s2 ⟨zs, H2, I2, rz, hl, q2⟩ => ⟨I2.kIn, ?_⟩
  rw [hks]
  have hl2 : ws.length = ks.length := by rw [← rz.length]; exact hl
  refine wpAny_call (codeAny_mono (Fn.run X.A X.stack s2 H2 ⟨[], ks.zip ws⟩ (pick perm ws) (pick perm zs) Q (E σ) hr I2.env0 (hb s2 ws hl2) (pick_vals rz perm) q2) fun r s' hq => ?_)
  cases r with
  | error e => exact hx σ pins H2 s2 e s' I2 hq
  | ok fl =>
    cases fl with
    | ret u => exact I2.after hq
    | next => exact False.elim hq
    | brk => exact False.elim hq
    | cont => exact False.elim hq
def eCallK (n : Nat) (perm : List Nat) (m : FSem) (mk : SemA) : SemE := fun e => (mk e).bind fun rs e1 => if (pick perm rs).length = n ∧ rs.length = n ∧ perm.Nodup then eCallR m (pick perm rs) e1 else .bad
theorem callK_read {n : Nat} {perm : List Nat} {m : FSem} {ma : SemA} {K : PySem.W.Frag} {σ : Sg} {H : Hp} {Q : VK} (h : tE K W (eCallK n perm m ma) σ H Q) : tA K W ma σ H fun vs H1 => vs.length = n ∧ spF K n m (pick perm vs) H1 Q (WE W σ) := by
  obtain ⟨e, F, R, h⟩ := h
  refine tX_imp (tX_bind (rel := fun σ Hs F H xs rs => OdsR K σ Hs F H rs xs) R .refl h) fun xs0 H1 ⟨rs0, e1, F1, R1, S1, O0, h1⟩ => ?_
  by_cases hl0 : (pick perm rs0).length = n ∧ rs0.length = n ∧ perm.Nodup
  · rw [if_pos hl0] at h1
    obtain ⟨hl, hl1, ndp⟩ := hl0
    have O1 := pick_ods O0 ndp
    refine ⟨by rw [← ods_len O0]; exact hl1, by rw [← ods_len O1]; exact hl, ?_⟩
    generalize pick perm rs0 = rs at *
    generalize pick perm xs0 = xs at *
    unfold eCallR at h1
    cases q : toSls e1 rs with
    | none => rw [q] at h1; exact h1.elim
    | some ss =>
      simp only [q] at h1
      by_cases nd : (sIdx rs).Nodup
      · rw [if_pos nd] at h1
        obtain ⟨RA, _⟩ := args_rel R R1 S1 O1 q nd
        refine ⟨ss, F1, RA, ?_⟩
        cases w : m ss with
        | bad => rw [w] at h1; exact h1
        | exc c t ss' =>
          rw [w] at h1
          exact fun F' H' cls d R' S' x => let ⟨a, b⟩ := back_rel R R1 S1 O1 q nd R' S'; h1 F' H' cls d a b x
        | ok r ss' =>
          rw [w] at h1
          intro x F' H' R' S' o
          obtain ⟨a, b⟩ := back_rel R R1 S1 O1 q nd R' S'
          cases r with
          | s i => exact h1.elim
          | r t => exact h1 x F' H' a b o
          | b z => obtain ⟨p, ep, hn, hf, bx⟩ := o; exact h1 x F' H' a b ⟨p, ep, step_none S1 hn, hf, bx⟩
      · rw [if_neg nd] at h1; exact h1.elim
  · rw [if_neg hl0] at h1; exact h1.elim
theorem qcallk {CX : CXT} {k : Nat} {f : Addr} {fd : FuncData} {ps ks : List Str} {m : FSem} {ma : SemA} {x : Str} {p : Pos} {kws : List Keyword} {perm : List Nat} (Fn : FnOk X.prog X.w X.K X.mg X.base CX k f fd ps (spF X.K ks.length m)) (hr : Room k X.A) (hg : Gl X x) (hm : X.mg x = some (.ref f)) (hk : PySem.W.keepIn X.K (.ref f) = true)
    (hb : KwBinds X.K fd ps ks perm) (hx : ∀ σ, PassesAt CX X σ (WE W σ)) (hkw : QK X W kws ma) (hall : (backToKw pos (keywordEach kws X.env)).all (·.1.isSome) = true := by rfl) (hks : (backToKw pos (keywordEach kws X.env)).filterMap (·.1) = ks := by rfl)
    (hdb : (x == ("__debug__" : Str)) = false := by decide) (hpl : ((backTo pos (starEach [] X.env)).any (·.1) || (backToKw pos (keywordEach kws X.env)).any (·.1.isNone)) = false := by rfl) :
    QE X W (.Call (.Name x p) [] kws pos) (eCallK ks.length perm m ma) :=
  pe_mono (pe_callKS (E := fun σ => WE W σ) Fn hr hg hm hk hb hx hkw hall hks hdb hpl) fun σ H Q h => callK_read h
/-! ### a < b < c -/
end
/-! ### the law's own end -/
theorem law_sp {K : PySem.W.Frag} {m : FSem} {a : Addr} {H : Hp} {ns : List Int} (hS : SqL K H a (ns.map V.int)) (h : ∃ e', m [.v (.list (ns.map PyData.int))] = .ok (.r (.bool true)) e') : spF K 1 m [.ref a] H (fun v _ => v = .bl true) fun _ _ _ => False := by
  obtain ⟨e', h⟩ := h
  have dp : DpAll K H (ns.map V.int) (ns.map PyData.int) := by
    clear hS h
    induction ns with
    | nil => exact .nil
    | cons n ns ih => exact .cons (.int n) ih
  refine ⟨rfl, [.v (.list (ns.map PyData.int))], H, ⟨fun _ _ h => h, rfl, fun i s o h1 h2 => ?_, fun i j l b l' b' p h1 => ?_⟩, ?_⟩
  · cases i with
    | zero => simp at h1 h2; subst h1 h2; exact ⟨_, rfl, .lst hS dp⟩
    | succ i => simp at h1
  · cases i with
    | zero => simp at h1
    | succ i => simp at h1
  · rw [h]
    intro x F' H' R' S' o
    cases o
    rfl
theorem law_CX {P : Program} {w : World} (H : Hp) (s : Shared) (e : Value) (s' : Shared) : L2N.CX P w [] H s (fun _ _ _ => False) e s' → False := fun h => by
  obtain ⟨_, _, _, _, _, _, _, _, _, _, _, _, z⟩ := h
  exact z.elim
theorem takesN0 {X : Cx} : L2N.Takes X (fun _ _ _ _ => False) := fun _ _ x => by
  obtain ⟨_, _, _, _, _, _, _, _, _, _, _, _, _, _, _, _, z⟩ := x
  exact z.elim
end Ev
namespace Ev
open PySem PySem.Spec PyProof.Rows L2
theorem room65 {k : Nat} {A : Around} (r : Room k A) : A.units + 65 < cLine := by have := r.un; omega
section
variable {X : Cx} {W : WX} {B : Bd} {a : Expr} {ma : SemE} {pos : Pos}
/-- name += e, ints -/
def sAug (i : Nat) (g : T → T → Option Od) (m : SemE) : SemS := fun e => match e[i]? with
  | some (.v t) => (m e).bind fun r e1 => (match r.val e1 with
    | some u => (match g t u with
      | some (.r (.int k)) => setO i (.r (.int k)) e1
      | _ => .bad)
    | none => .bad)
  | _ => .bad
end
end Ev

set_option Elab.async false
set_option linter.all false
set_option maxRecDepth 100000
namespace Ev
open PySem PySem.Spec PyProof.Rows L2
/-- each once -/
def dd {α : Type} [DecidableEq α] : List α → List α
  | [] => []
  | x :: xs => if x ∈ xs then dd xs else x :: dd xs
theorem mem_dd {α : Type} [DecidableEq α] {a : α} : ∀ {xs : List α}, a ∈ dd xs ↔ a ∈ xs
  | [] => Iff.rfl
  | x :: xs => by
    unfold dd
    split
    · rename_i h
      rw [mem_dd, List.mem_cons]
      exact ⟨.inr, fun q => q.elim (fun z => z ▸ h) id⟩
    · rw [List.mem_cons, List.mem_cons, mem_dd]
theorem nodup_dd {α : Type} [DecidableEq α] : ∀ (xs : List α), (dd xs).Nodup
  | [] => List.nodup_nil
  | x :: xs => by
    unfold dd
    split
    · exact nodup_dd xs
    · rename_i h
      exact List.nodup_cons.mpr ⟨fun z => h (mem_dd.mp z), nodup_dd xs⟩
theorem len_le_of_sub {α : Type} [DecidableEq α] : ∀ {xs ys : List α}, xs.Nodup → (∀ a ∈ xs, a ∈ ys) → xs.length ≤ ys.length
  | [], _, _, _ => Nat.zero_le _
  | x :: xs, ys, nd, h => by
    have hx : x ∈ ys := h x List.mem_cons_self
    have := len_le_of_sub (xs := xs) (ys := ys.erase x) (List.nodup_cons.mp nd).2 fun a ha => by
      have ne : a ≠ x := fun z => (List.nodup_cons.mp nd).1 (z ▸ ha)
      exact (List.mem_erase_of_ne ne).mpr (h a (List.mem_cons_of_mem _ ha))
    rw [List.length_erase_of_mem hx] at this
    have hp : 0 < ys.length := List.length_pos_of_mem hx
    simp only [List.length_cons]
    omega
theorem len_dd {α : Type} [DecidableEq α] {L xs : List α} (nd : L.Nodup) (h : ∀ a, a ∈ L ↔ a ∈ xs) : L.length = (dd xs).length :=
  Nat.le_antisymm (len_le_of_sub nd fun a ha => mem_dd.mpr ((h a).mp ha)) (len_le_of_sub (nodup_dd xs) fun a ha => (h a).mpr (mem_dd.mp ha))
section
variable {X : Cx} {W : WX} {a : Expr} {ma : SemE} {pos : Pos}
def tLenSetT (K : PySem.W.Frag) (ta : TE) : TE := fun σ H Q => ta σ H fun x H1 => ∃ (l : Addr) (ks : List (Addr × List Int)), x = .ref l ∧ SqL K H1 l (ks.map fun p => V.ref p.1) ∧ (∀ p ∈ ks, SqT K H1 p.1 (p.2.map V.int)) ∧ ks.length < 64 ∧ Q (.int ((dd (ks.map (·.2))).length : Nat)) H1
theorem pe_lenSetT {ta : TE} {p p2 q : Pos} (hc : X.calm = true) (hu : X.A.units + 64 < cLine) (hg : Gl X "len") (hm : X.mg "len" = none) (hg2 : Gl X "set") (hm2 : X.mg "set" = none) (ha : PE X a ta)
    (na : starEach [a] X.env = (false, eval a X.env) :: starEach [] X.env := by rfl) : PE X (.Call (.Name "len" p) [.Call (.Name "set" p2) [a] [] q] [] pos) (tLenSetT X.K ta) := by
  refine ⟨fun pins s σ H Q I h => ?_⟩
  refine Call_ (ld_blt I hg hm PySem.boot_len ?_)
  refine PyProof.Rows.callWith_builtin1 (PyProof.Rows.args_cons ?_ rfl) rfl rfl
  refine Call_ (ld_blt I hg2 hm2 PyProof.Rows.boot_set ?_)
  refine PyProof.Rows.callWith_type1 (PyProof.Rows.args_cons (thn (ha.run pins s σ H _ I h) fun v s1 ⟨x, H1, I1, r1, q1⟩ => PyProof.Rows.args_nil ?_) na) na rfl
  obtain ⟨l, ks, rfl, hl, hk, hf, q1⟩ := q1
  cases r1
  obtain ⟨its, rv, pl, hz⟩ := I1.list hl
  refine call_set_tups (P := X.prog) (w := X.w) ks (I1.ok.hd hc) pl.isList (by simpa using refs_of_vals rv) (fun p hp => I1.isT (hk p hp)) hf (by omega) fun h' tk L es ep t R g k => ?_
  refine PyProof.Rows.args_nil ?_
  have I2 : Inv X pins σ H1 { s1 with heap := h', toks := tk } := I1.kept (t' := tk) k
  obtain ⟨o, ho, hex, hd⟩ := R.ob
  have hsz := SetTR.size (s := { s1 with heap := h', toks := tk }) R
  have hle : es.size = (dd (ks.map (·.2))).length := by
    rw [hsz]
    have e1 : L.length = (L.map (·.2)).length := by simp
    rw [e1]
    refine len_dd R.nd fun a => ⟨fun ha => ?_, fun ha => ?_⟩
    · obtain ⟨p, hp, e⟩ := List.mem_map.mp ha
      exact List.mem_map.mpr ⟨p, List.mem_of_mem_take (g.sub p hp), e⟩
    · obtain ⟨p, hp, e⟩ := List.mem_map.mp ha
      rw [← e]
      exact g.all p (by rw [List.take_length]; exact hp)
  refine call_len_set ho hex hd (SetTR.fits (s := { s1 with heap := h', toks := tk }) R) (by have := R.few; rw [hsz]; omega) ⟨.int ((dd (ks.map (·.2))).length : Nat), H1, I2.tok _, ⟨_, by rw [hle]⟩, q1⟩
/-- the ints of a tuple; of all tuples of a list -/
def intsOf : List T → Option (List Int)
  | [] => some []
  | .int i :: ts => (intsOf ts).map (i :: ·)
  | _ => none
def tupsOf : List T → Option (List (List Int))
  | [] => some []
  | .tuple ts :: us => (match intsOf ts, tupsOf us with
    | some a, some b => some (a :: b)
    | _, _ => none)
  | _ => none
theorem intsOf_dp {K : PySem.W.Frag} {F : Hp} : ∀ {ts : List T} {xs : List V} {ns : List Int}, DpAll K F xs ts → intsOf ts = some ns → xs = ns.map V.int
  | [], _, _, d, h => by cases d; cases h; rfl
  | t :: ts, _, _, d, h => by
    cases d with
    | cons a d =>
      cases t with
      | int i =>
        cases a
        simp only [intsOf] at h
        cases q : intsOf ts with
        | none => rw [q] at h; cases h
        | some ns => rw [q] at h; cases h; rw [intsOf_dp d q]; rfl
      | _ => cases h
theorem tupsOf_dp {K : PySem.W.Frag} {F : Hp} : ∀ {ts : List T} {xs : List V} {ns : List (List Int)}, DpAll K F xs ts → tupsOf ts = some ns → ∃ ks : List (Addr × List Int), xs = ks.map (fun p => V.ref p.1) ∧ ks.map (·.2) = ns ∧ ∀ p ∈ ks, SqT K F p.1 (p.2.map V.int)
  | [], _, _, d, h => by cases d; cases h; exact ⟨[], rfl, rfl, fun p hp => by cases hp⟩
  | t :: ts, _, _, d, h => by
    cases d with
    | cons a d =>
      cases t with
      | tuple us =>
        simp only [tupsOf] at h
        cases q : intsOf us with
        | none => rw [q] at h; cases h
        | some ms =>
          cases q2 : tupsOf ts with
          | none => rw [q, q2] at h; cases h
          | some ns =>
            rw [q, q2] at h; cases h
            obtain ⟨ks, e1, e2, e3⟩ := tupsOf_dp d q2
            cases a with
            | tup hs dd =>
              rename_i p xs'
              refine ⟨(p, ms) :: ks, by rw [e1]; rfl, by rw [← e2]; rfl, fun p' hp => ?_⟩
              rcases List.mem_cons.mp hp with e | hp
              · subst e; rw [← intsOf_dp dd q]; exact SqT.of hs
              · exact e3 p' hp
      | _ => cases h
def eLenSet (m : SemE) : SemE := fun e => (m e).bind fun r e1 => match r.val e1 with
  | some (.list ts) => (match tupsOf ts with
    | some ns => if ns.length < 64 then .ok (.r (.int ((dd ns).length : Nat))) e1 else .bad
    | none => .bad)
  | _ => .bad
theorem qlenset {p p2 q : Pos} (hc : X.calm = true) (hu : X.A.units + 64 < cLine) (hg : Gl X "len") (hm : X.mg "len" = none) (hg2 : Gl X "set") (hm2 : X.mg "set" = none) (ha : QE X W a ma)
    (na : starEach [a] X.env = (false, eval a X.env) :: starEach [] X.env := by rfl) : QE X W (.Call (.Name "len" p) [.Call (.Name "set" p2) [a] [] q] [] pos) (eLenSet ma) := by
  refine pe_mono (pe_lenSetT hc hu hg hm hg2 hm2 ha na) fun σ H Q h => ?_
  obtain ⟨e, F, R, h⟩ := h
  refine tX_imp (tX_bind (rel := fun σ => OdR X.K σ) R .refl h) fun x H1 ⟨r, e1, F1, R1, S1, O1, h1⟩ => ?_
  split at h1
  · rename_i ts q
    obtain ⟨l, xs, rfl, hs, d⟩ := val_ok R1 O1 q
    cases q2 : tupsOf ts with
    | none => simp only [q2] at h1; exact h1.elim
    | some ns =>
      simp only [q2] at h1
      split at h1
      · rename_i hl
        obtain ⟨ks, e1, e2, e3⟩ := tupsOf_dp d q2
        refine ⟨l, ks, rfl, by rw [← e1]; exact hs, fun p hp => sqT_mono R1.sub (e3 p hp), ?_, ?_⟩
        · have : ks.length = ns.length := by rw [← e2]; simp
          omega
        · rw [e2]; exact h1 _ F1 H1 R1 S1 (.int _)
      · exact h1.elim
  · exact h1.elim
end
end Ev
namespace Ev
open PySem PySem.Spec PyProof.Rows L2
/-! ### the law's end: any world -/
def CXE : CXT := fun outer H s E e s' => ∃ (P : Program) (w : World), L2N.CX P w outer H s E e s'
theorem fnok_cx {P : Program} {w : World} {K : PySem.W.Frag} {mg : Str → Option Value} {base : Heap} {k : Nat} {f : Addr} {fd : FuncData} {ps : List Str} {sp : Sp} (F : FnOk P w K mg base (L2N.CX P w) k f fd ps sp) : FnOk P w K mg base CXE k f fd ps sp :=
  ⟨F.len, fun A outer s H args us vs Q E hr he hb hv hs => codeAny_mono (F.run A outer s H args us vs Q E hr he hb hv hs) fun r s' h => by
    rcases r with e | (_ | _ | _ | _)
    all_goals first | exact h | exact ⟨P, w, h⟩⟩
theorem law_CXE (H : Hp) (s : Shared) (e : Value) (s' : Shared) : CXE [] H s (fun _ _ _ => False) e s' → False := fun ⟨_, _, z⟩ => law_CX H s e s' z
end Ev

set_option Elab.async false
set_option linter.all false
set_option maxRecDepth 100000
namespace L2
open PySem PySem.Spec PyProof.Rows
end L2
namespace Ev
open PySem PySem.Spec PyProof.Rows L2
def iR2w (m : SemA) : SemI := fun e => (m e).bind fun rs e1 => match vals e1 rs with
  | some [.int i, .int j] => .ok (intsT i (j - i).toNat) e1
  | _ => .bad
end Ev
namespace Ev
open PySem PySem.Spec PyProof.Rows L2
theorem qpar3 {X : Cx} {W : WX} {B : Bd} {a b c : Expr} {pos : Pos} {i j l : Nat} {x y z : Str} {px py pz pt : Pos} {kt k2 pt2} {m : SemA} (hc : X.calm = true) (hN : X.N.Nodup) (hi : X.N[i]? = some x) (hj : X.N[j]? = some y) (hl : X.N[l]? = some z) (hij : i ≠ j) (hil : i ≠ l) (hjl : j ≠ l)
    (hx : X.env.scope.names.lookup x = some .local) (hy : X.env.scope.names.lookup y = some .local) (hz : X.env.scope.names.lookup z = some .local) (ha : QA X W [a, b, c] m)
    (hw : swappedStores [.Tuple [.Name x px, .Name y py, .Name z pz] kt pt] (.Tuple [a, b, c] k2 pt2) X.env = pure (some [x, y, z]))
    (hs : swapsWithSole [.Tuple [.Name x px, .Name y py, .Name z pz] kt pt] (.Tuple [a, b, c] k2 pt2) pos.line X.env = pure false := by rfl) :
    QS X W B (.Assign [.Tuple [.Name x px, .Name y py, .Name z pz] kt pt] (.Tuple [a, b, c] k2 pt2) pos) (sPar [i, j, l] m) :=
  ps_mono (ps_par3 hc hN hi hj hl hij hil hjl hx hy hz ha hw hs) fun D σ H h => tX_imp (par_read h) fun xs H1 ⟨hl, q, _⟩ => by
    match xs, hl, q with
    | [v, w, u], _, q => exact ⟨v, w, u, rfl, q⟩
end Ev

set_option Elab.async false
set_option linter.all false
set_option maxRecDepth 100000
namespace Ev
open PySem PySem.Spec PyProof.Rows L2
section
variable {K : PySem.W.Frag} {W : WX} {e e1 : En} {σ : Sg} {F H : Hp}
end
/-! ### dicts of one's own: keys ints and texts -/
def keyEq : T → T → Bool
  | .int i, .int j => decide (i = j)
  | .str x, .str y => decide (x = y)
  | _, _ => false
def keyOf : T → Option Key
  | .int i => some (.inl i)
  | .str x => some (.inr x)
  | _ => none
def dLook (kvs : List (T × T)) (k : T) : Option T := (kvs.find? fun q => keyEq q.1 k).map (·.2)
def dPut (kvs : List (T × T)) (k v : T) : List (T × T) := if (kvs.any fun q => keyEq q.1 k) = true then kvs.map (fun q => if keyEq q.1 k = true then (q.1, v) else q) else kvs ++ [(k, v)]
section
variable {X : Cx} {W : WX} {B : Bd} {a b c : Expr} {ma mb mc : SemE} {pos : Pos}
/-- d[k] -/
def eDGet (i : Nat) (mk : SemE) : SemE := fun e => match e[i]? with
  | some (.ow _ (.d _)) => (mk e).bind fun r e1 => match r.val e1, e1[i]? with
    | some t, some (.ow _ (.d kvs)) => (match keyOf t, dLook kvs t with
      | some _, some u => .ok (.r u) e1
      | _, _ => .bad)
    | _, _ => .bad
  | _ => .bad
/-- d[k] = v -/
def sDPutV (i : Nat) (mk mv : SemE) : SemS := fun e => (mv e).bind fun r e1 => match e1[i]? with
  | some (.ow _ (.d _)) => (mk e1).bind fun rk e2 => (match rk.val e2, esc r e2 with
    | some t, some (u, e3) => (match keyOf t, e3[i]? with
      | some _, some (.ow l (.d kvs)) => if kvs.length < sizeLine then .ok .nx (e3.set i (.ow l (.d (dPut kvs t u)))) else .bad
      | _, _ => .bad)
    | _, _ => .bad)
  | _ => .bad
end
section
variable {K : PySem.W.Frag} {e e1 : En} {σ : Sg} {F H F1 H1 : Hp} {p : Addr} {o : HO}
end
section
variable {X : Cx} {W : WX} {B : Bd} {a b c : Expr} {ma mb mc : SemE} {pos : Pos}
end
end Ev

set_option Elab.async false
set_option linter.all false
set_option maxRecDepth 100000
namespace Ev
open PySem PySem.Spec PyProof.Rows L2
/-! ### dicts of one's own: keys tuples of ints and texts -/
def keyOfs : List T → Option (List Key)
  | [] => some []
  | t :: ts => match keyOf t, keyOfs ts with
    | some k, some ks => some (k :: ks)
    | _, _ => none
def keyM : T → Option (List Key)
  | .tuple ts => keyOfs ts
  | _ => none
def mEq (a b : T) : Bool := decide (keyM a = keyM b)
def mLook (kvs : List (T × T)) (k : T) : Option T := (kvs.find? fun q => mEq q.1 k).map (·.2)
def mPut (kvs : List (T × T)) (k v : T) : List (T × T) := if (kvs.any fun q => mEq q.1 k) = true then kvs.map (fun q => if mEq q.1 k = true then (q.1, v) else q) else kvs ++ [(k, v)]
section
variable {X : Cx} {W : WX} {B : Bd} {a b c : Expr} {ma mb mc : SemE} {pos : Pos}
/-- d[k] -/
def eMGet (i : Nat) (mk : SemE) : SemE := fun e => match e[i]? with
  | some (.ow _ (.m _)) => (mk e).bind fun r e1 => match r.val e1, e1[i]? with
    | some t, some (.ow _ (.m kvs)) => (match keyM t, mLook kvs t with
      | some _, some u => .ok (.r u) e1
      | _, _ => .bad)
    | _, _ => .bad
  | _ => .bad
/-- k in d, k not in d -/
def eMIn (neg : Bool) (i : Nat) (mk : SemE) : SemE := fun e => (mk e).bind fun r e1 => match r.val e1, e1[i]? with
  | some t, some (.ow _ (.m kvs)) => (match keyM t with
    | some _ => .ok (.r (.bool (if neg then !(mLook kvs t).isSome else (mLook kvs t).isSome))) e1
    | _ => .bad)
  | _, _ => .bad
/-- k in a dict that is made there and then -/
def eMInE (neg : Bool) (mk md : SemE) : SemE := fun e => (mk e).bind fun r e1 => match r with
  | .r t => (md e1).bind fun rd e2 => (match rd, keyM t with
    | .b (.m kvs), some _ => .ok (.r (.bool (if neg then !(mLook kvs t).isSome else (mLook kvs t).isSome))) e2
    | _, _ => .bad)
  | _ => .bad
/-- d[k] = v -/
def sMPut (i : Nat) (mk mv : SemE) : SemS := fun e => (mv e).bind fun r e1 => match e1[i]? with
  | some (.ow _ (.m _)) => (mk e1).bind fun rk e2 => (match rk.val e2, esc r e2 with
    | some t, some (u, e3) => (match keyM t, e3[i]? with
      | some _, some (.ow l (.m kvs)) => if kvs.length < sizeLine then .ok .nx (e3.set i (.ow l (.m (mPut kvs t u)))) else .bad
      | _, _ => .bad)
    | _, _ => .bad)
  | _ => .bad
/-- {} -/
def eMNew : SemE := fun e => .ok (.b (.m [])) e
/-- the number of keys -/
def eMLen (i : Nat) : SemE := fun e => match e[i]? with
  | some (.ow _ (.m kvs)) => .ok (.r (.int (kvs.length : Int))) e
  | _ => .bad
end
/-! #### {k: v} with a tuple k -/
section
variable {X : Cx} {W : WX} {B : Bd} {a b c : Expr} {ma mb mc : SemE} {pos : Pos}
def eMDict1 (mk mv : SemE) : SemE := fun e => (mk e).bind fun rk e1 => (mv e1).bind fun rv e2 => match rk.val e2, rv with
  | some t, .r u => (match keyM t with
    | some _ => .ok (.b (.m [(t, u)])) e2
    | none => .bad)
  | _, _ => .bad
end
end Ev

set_option Elab.async false
set_option linter.all false
set_option maxRecDepth 100000
namespace Ev
open PySem PySem.Spec PyProof.Rows L2
/-! ### len of a dict with tuple keys -/
section
variable {X : Cx} {W : WX} {B : Bd} {a b c : Expr} {ma mb mc : SemE} {pos : Pos}
end
/-! ### sorted, of trees -/
end Ev

set_option Elab.async false
set_option linter.all false
set_option maxRecDepth 100000
set_option maxHeartbeats 1000000
/-! ### list(zip(t, u)) of two tuples -/
namespace LZ
open PySem PySem.W PySem.Calls PyProof.Rows PyProof.V PySem.Spec
open PySem.Sem (wp)
section
variable {prog : Program} {w : World} {A : Around} {E : Value → Shared → Prop} {s : Shared}
end
/-- the zip before its turn i; the list S stands apart -/
structure ZSt (h : Heap) (z TI TO i1 i2 l1 l2 S : Addr) (xs ys : Array Value) (i : Nat) : Prop where
  zip : (IsZip h z TI TO .none ∧ ∃ a b, IsPair h TO a b) ∨ ∃ (T : Addr) (f : Bool) (oT : Obj), IsZipHeld h z TI TO T f ∧ h.get? T = some oT ∧ T ≠ z ∧ T ≠ i1 ∧ T ≠ i2 ∧ T ≠ S
  tI : IsPair h TI (.ref i1) (.ref i2)
  it1 : h.IsTupleIter i1 l1 i
  it2 : h.IsTupleIter i2 l2 i
  li1 : h.IsTuple l1 xs
  li2 : h.IsTuple l2 ys
structure SApart (z TI TO i1 i2 l1 l2 S : Addr) : Prop where
  z : S ≠ z
  TI : S ≠ TI
  TO : S ≠ TO
  i1 : S ≠ i1
  i2 : S ≠ i2
  l1 : S ≠ l1
  l2 : S ≠ l2
theorem ZSt.up {h h' : Heap} {z TI TO i1 i2 l1 l2 S : Addr} {xs ys : Array Value} {i : Nat} (st : ZSt h z TI TO i1 i2 l1 l2 S xs ys i) (D : SApart z TI TO i1 i2 l1 l2 S) (up : ∀ b o, b ≠ S → h.get? b = some o → h'.get? b = some o) : ZSt h' z TI TO i1 i2 l1 l2 S xs ys i where
  zip := by
    rcases st.zip with ⟨hz, a, b, hTO⟩ | ⟨T, f, oT, hz, hT, n1, n2, n3, n4⟩
    · exact .inl ⟨up _ _ D.z.symm hz, a, b, up _ _ D.TO.symm hTO⟩
    · exact .inr ⟨T, f, oT, up _ _ D.z.symm hz, up _ _ n4 hT, n1, n2, n3, n4⟩
  tI := up _ _ D.TI.symm st.tI
  it1 := st.it1.at fun o e => up _ o D.i1.symm e
  it2 := st.it2.at fun o e => up _ o D.i2.symm e
  li1 := st.li1.at fun o e => up _ o D.l1.symm e
  li2 := st.li2.at fun o e => up _ o D.l2.symm e
section
variable {prog : Program} {w : World} {A : Around} {E : Value → Shared → Prop} {s : Shared}
end
/-- the pairs made so far -/
structure MadeZ (xs ys : Array Value) (lo : Addr) (h : Heap) (as : List Addr) : Prop where
  rise : as.Pairwise (· < ·)
  above : ∀ a ∈ as, lo < a
  pairs : ∀ (j : Nat) (a : Addr), as[j]? = some a → ∃ x y, xs[j]? = some x ∧ ys[j]? = some y ∧ IsPair h a x y
theorem MadeZ.there {xs ys : Array Value} {lo : Addr} {h : Heap} {as : List Addr} (g : MadeZ xs ys lo h as) {a : Addr} (ha : a ∈ as) : a < h.objs.size := by
  obtain ⟨j, hj⟩ := List.mem_iff_getElem?.mp ha
  obtain ⟨_, _, _, _, e⟩ := g.pairs j a hj
  exact Heap.lt_size e
section
variable {prog : Program} {w : World} {A : Around} {s : Shared} {R : Result → Shared → Prop} {xs ys : Array Value}
end
section
variable {prog : Program} {w : World} {A : Around} {E : Value → Shared → Prop} {s : Shared} {xs ys : Array Value}
end
end LZ

set_option Elab.async false
set_option linter.all false
set_option maxRecDepth 100000
set_option maxHeartbeats 1000000
namespace Ev
open PySem PySem.Spec PyProof.Rows L2
/-! ### list(zip(t, u)) -/
section
variable {K : PySem.W.Frag} {W : WX} {e e1 : En} {σ : Sg} {F H H2 : Hp} {as : List Addr}
end
def eListZip (m : SemA) : SemE := fun e => (m e).bind fun rs e1 => match escs rs e1 with
  | some ([.tuple ts, .tuple us], e2) => if ts.length = us.length then .ok (.b (.l (pairs ts us))) e2 else .bad
  | _ => .bad
end Ev

set_option Elab.async false
set_option linter.all false
set_option maxRecDepth 100000
namespace L2
open PySem PySem.Spec PyProof.Rows
/-! ### a dict comprehension whose keys are tuples -/
end L2

set_option Elab.async false
set_option linter.all false
set_option maxRecDepth 100000
namespace Ev
open PySem PySem.Spec PyProof.Rows L2
/-! ### {k: v for target in iter}, k a tuple: a tree at once -/
section
variable {X : Cx} {W : WX} {B : Bd} {a b c : Expr} {ma mb mc : SemE} {pos : Pos}
end
/-! ### sum -/
def intL : List T → Option (List Int)
  | [] => some []
  | .int i :: ts => (intL ts).map (i :: ·)
  | _ :: _ => none
def fSum : T → Option Od
  | .list ts => (intL ts).map fun ns => .r (.int ns.sum)
  | _ => none
abbrev gSum := g1 fSum
end Ev
namespace Ev
open PySem PySem.Spec PyProof.Rows L2
section
variable {X : Cx} {W : WX} {B : Bd} {a : Expr} {ma : SemE} {pos : Pos}
end
end Ev

set_option Elab.async false
set_option linter.all false
set_option maxRecDepth 100000
namespace Ev
open PySem PySem.Spec PyProof.Rows L2
/-! ### dicts whose keys are ints and tuples of such, nested -/
section
variable {X : Cx} {pins : List (Addr × Obj)} {σ : Sg} {F H : Hp} {s : Shared}
end
end Ev

set_option Elab.async false
set_option linter.all false
set_option maxRecDepth 100000
namespace Ev
open PySem PySem.Spec PyProof.Rows L2
section
variable {X : Cx} {W : WX} {B : Bd} {a b c : Expr} {ma mb mc : SemE} {pos : Pos}
/-- {}, to be a dict with nested keys -/
def eNNew : SemE := fun e => .ok (.b (.n [])) e
/-- the number of keys -/
def eNLen (i : Nat) : SemE := fun e => match e[i]? with
  | some (.ow _ (.n kvs)) => .ok (.r (.int (kvs.length : Int))) e
  | _ => .bad
end
/-! ### max(xs), xs a list of ints -/
def top : List Int → Option Int
  | [] => none
  | i :: is => some (is.foldl (fun m y => if m < y then y else m) i)
def fMax1 : T → Option Od
  | .list ts => (intL ts).bind fun ns => (top ns).map fun m => .r (.int m)
  | _ => none
abbrev gMax1 := g1 fMax1
end Ev

set_option Elab.async false
set_option linter.all false
set_option maxRecDepth 100000
namespace Ev
open PySem PySem.Spec PyProof.Rows L2
/-! ### list(range(n)) -/
section
variable {X : Cx}
theorem cr_range1 : CallR X (.type "range") (fun vs H Q => ∃ j, vs = [V.int j] ∧ ∀ p, H p = none → Q (.ref p) (upd H p (.rng 0 j))) := by
  intro pins s σ H vs us Q I r h
  obtain ⟨j, rfl, q⟩ := h
  obtain ⟨u, rfl, t, rfl⟩ := vals1 r
  exact call_range_1 ⟨.ref s.heap.objs.size, upd H s.heap.objs.size (.rng 0 j), I.laid (t' := s.toks + 1 + 1) (fun b o e => Heap.get?_push_of_some _ e) (Nat.le_refl _) ⟨_, _, _, Heap.get?_push_size _ rfl⟩, rfl, q _ (I.hok.fresh (Nat.le_refl _))⟩
def intV (n : Nat) : List V := (List.range n).map fun (i : Nat) => V.int (0 + (i : Int))
theorem vals_of {f : Nat → Int} : ∀ (n k : Nat) (us : List Value), us.length = n → (∀ j v, us[j]? = some v → ∃ t, v = Value.int (f (k + j)) t) → Vals ((List.range' k n).map fun i => V.int (f i)) us
  | 0, _, [], _, _ => .nil
  | n + 1, k, u :: us, hl, h => by
    obtain ⟨t, ht⟩ := h 0 u rfl
    rw [List.range'_succ, List.map_cons]
    exact .cons ⟨t, by simpa using ht⟩ (vals_of n (k + 1) us (by simpa using hl) fun j v e => by
      obtain ⟨t, q⟩ := h (j + 1) v (by simpa using e)
      exact ⟨t, by rw [q]; congr 2; omega⟩)
theorem cr_listrng (hc : X.calm = true) : CallR X (.type "list") (fun vs H Q => ∃ (p : Addr) (n : Nat), vs = [V.ref p] ∧ H p = some (.rng 0 (n : Int)) ∧ n ≤ 2 ^ 16 ∧ ∀ l, H l = none → Q (.ref l) (upd H l (.lst (intV n)))) := by
  intro pins s σ H vs us Q I r h
  obtain ⟨p, n, rfl, hp, hn, q⟩ := h
  obtain ⟨u, rfl, rx⟩ := vals1 r
  cases (show u = Value.ref p from rx)
  obtain ⟨t1, t2, t3, hr⟩ := I.hok _ _ hp
  refine call_list_range (n := n) (I.ok.hd hc) hr (small_one (by omega) (by omega) (by omega) (by omega)) (by rw [rangeSize_one]; split <;> omega) (by omega) fun h' tk acc' c' hk hg hi => ?_
  obtain ⟨hs, hv⟩ := hi
  have vs : Vals (intV n) acc'.toList := by
    unfold intV
    rw [List.range_eq_range']
    refine vals_of (f := fun i => 0 + (i : Int)) n 0 _ (by simpa using hs) fun j v e => ?_
    obtain ⟨t, et⟩ := hv j v (by simpa using e)
    exact ⟨t, by rw [et]; congr 1⟩
  exact ⟨.ref s.heap.objs.size, _, I.laid (a := s.heap.objs.size) (o := .lst (intV n)) (t' := tk) hk (Nat.le_refl _) ⟨by unfold intV; rw [List.length_map, List.length_range, sizeLine_eq]; omega, acc'.toList, c', vs, by simpa using hg⟩, rfl, q _ (I.hok.fresh (Nat.le_refl _))⟩
end
def eListRng (m : SemE) : SemE := fun e => (m e).bind fun r e1 => match r.val e1 with
  | some (.int i) => if 0 ≤ i ∧ i ≤ 2 ^ 16 then .ok (.b (.l (intsT 0 i.toNat))) e1 else .bad
  | _ => .bad
theorem dp_ints {K : PySem.W.Frag} {F : Hp} (n : Nat) : DpAll K F (intV n) (intsT 0 n) := by
  unfold intV intsT
  induction List.range n with
  | nil => exact .nil
  | cons a as ih => exact .cons (.int _) ih
section
variable {X : Cx} {W : WX} {a : Expr} {ma : SemE} {p p2 q pos : Pos}
theorem qlistrng (hc : X.calm = true) (hg : Gl X "list") (hm : X.mg "list" = none) (hg2 : Gl X "range") (hm2 : X.mg "range" = none) (ha : QE X W a ma)
    (hs : starEach [a] X.env = (false, eval a X.env) :: starEach [] X.env := by rfl) (hs2 : starEach [.Call (.Name "range" p2) [a] [] q] X.env = (false, eval (.Call (.Name "range" p2) [a] [] q) X.env) :: starEach [] X.env := by rfl)
    (h1 : (backTo q (starEach ([] : List Expr) X.env)).any (·.1) = false := by rfl) (h2 : (backTo pos (starEach ([] : List Expr) X.env)).any (·.1) = false := by rfl) : QE X W (.Call (.Name "list" p) [.Call (.Name "range" p2) [a] [] q] [] pos) (eListRng ma) := by
  refine pe_mono (pe_callTy (cr_listrng hc) hg hm boot_list (pa_cons (pe_callTy cr_range1 hg2 hm2 boot_range (pa_cons ha pa_nil hs) (by decide) (by decide) hs h1) pa_nil hs2) (by decide) (by decide) hs2 h2) fun σ H Q h => ?_
  obtain ⟨e, F, R, h⟩ := h
  refine tX_imp (tX_bind (rel := fun σ => OdR X.K σ) R .refl h) fun x H1 ⟨r, e1, F1, R1, S1, O1, h1⟩ => ?_
  cases w : r.val e1 with
  | none => simp only [w] at h1; exact h1.elim
  | some t =>
    have d := val_ok R1 O1 w
    cases t with
    | int i =>
      simp only [w] at h1
      split at h1
      · rename_i hi
        cases d
        refine ⟨i, rfl, fun p hp => ⟨p, i.toNat, rfl, by rw [upd_same]; congr 2; omega, by have := hi.2; omega, fun l hl => ?_⟩⟩
        have R2 := laid_own (o := .rng 0 i) R1 hp
        have S2 : Step e1 e1 σ F1 H1 F1 (upd H1 p (.rng 0 i)) := laid_own_step hp
        have R3 := laid_own (o := .lst (intV i.toNat)) R2 hl
        have S3 : Step e1 e1 σ F1 (upd H1 p (.rng 0 i)) F1 (upd (upd H1 p (.rng 0 i)) l (.lst (intV i.toNat))) := laid_own_step hl
        exact h1 _ F1 _ R3 ((S1.trans S2).trans S3) ⟨l, rfl, step_none (S1.trans S2) hl, sub_none R2 hl, intV i.toNat, upd_same, dp_ints _⟩
      · exact h1.elim
    | none => simp only [w] at h1; exact h1.elim
    | bool _ => simp only [w] at h1; exact h1.elim
    | str _ => simp only [w] at h1; exact h1.elim
    | list _ => simp only [w] at h1; exact h1.elim
    | tuple _ => simp only [w] at h1; exact h1.elim
    | dict _ => simp only [w] at h1; exact h1.elim
end
end Ev

set_option Elab.async false
set_option linter.all false
set_option maxRecDepth 100000
namespace Ev
open PySem PySem.Spec PyProof.Rows L2
section
variable {X : Cx} {W : WX} {B : Bd} {a b c : Expr} {ma mb mc : SemE} {pos : Pos}
/-! ### len of a dict whose keys are ints or texts -/
def eDLen (i : Nat) : SemE := fun e => match e[i]? with
  | some (.ow _ (.d kvs)) => .ok (.r (.int (kvs.length : Int))) e
  | _ => .bad
/-! ### x[k], x a dict of its own or a list -/
end
end Ev

set_option Elab.async false
set_option linter.all false
set_option maxRecDepth 100000
namespace Ev
open PySem PySem.Spec PyProof.Rows L2
section
variable {X : Cx} {W : WX} {a b : Expr} {ma mb : SemE} {pos : Pos}
/-! ### [x] * n -/
def eRep (ma mb : SemE) : SemE := fun e => (ma e).bind fun ra e1 => (mb e1).bind fun rb e2 => match ra with
  | .b (.l us) => (match rb.val e2 with
    | some (.int k) => if 0 ≤ k ∧ k ≤ 2 ^ 16 ∧ us.length ≤ 16 then .ok (.b (.l (List.replicate k.toNat us).flatten)) e2 else .bad
    | _ => .bad)
  | _ => .bad
theorem dpAll_rep {K : PySem.W.Frag} {F : Hp} {ts : List T} {vs : List V} (d : DpAll K F vs ts) : ∀ n, DpAll K F (List.replicate n vs).flatten (List.replicate n ts).flatten
  | 0 => .nil
  | n + 1 => by
    rw [List.replicate_succ, List.replicate_succ, List.flatten_cons, List.flatten_cons]
    exact dpAll_app d (dpAll_rep d n)
theorem qrep (ha : QE X W a ma) (hb : QE X W b mb) : QE X W (.BinOp a .Mult b pos) (eRep ma mb) := by
  refine pe_mono (pe_op op_rep ha hb) fun σ H Q h => ?_
  obtain ⟨e, F, R, h⟩ := h
  refine tX_imp (tX_bind (rel := fun σ => OdR X.K σ) R .refl h) fun x H1 ⟨ra, e1, F1, R1, S1, O1, h1⟩ => ?_
  refine tX_imp (tX_bind (rel := fun σ => OdR X.K σ) R1 S1 h1) fun y H2 ⟨rb, e2, F2, R2, S2, O2, h2⟩ => ?_
  have O1' := od_stay O1 (fun p hp => fresh_not_own R S1 hp) S2
  cases ra with
  | r _ => exact h2.elim
  | s _ => exact h2.elim
  | b z =>
  cases z with
  | d _ => exact h2.elim
  | m _ => exact h2.elim
  | n _ => exact h2.elim
  | l us =>
  simp only at h2
  cases w : rb.val e2 with
  | none => simp only [w] at h2; exact h2.elim
  | some t =>
  have d := val_ok R2 O2 w
  cases t with
  | none => simp only [w] at h2; exact h2.elim
  | bool _ => simp only [w] at h2; exact h2.elim
  | str _ => simp only [w] at h2; exact h2.elim
  | list _ => simp only [w] at h2; exact h2.elim
  | tuple _ => simp only [w] at h2; exact h2.elim
  | dict _ => simp only [w] at h2; exact h2.elim
  | int k =>
  simp only [w] at h2
  split at h2
  · rename_i hk
    cases d
    obtain ⟨p, rfl, hp, hf, xs, hx, dd⟩ := O1'
    have hl := dpAll_len dd
    have hm : xs.length * k.toNat ≤ 16 * 2 ^ 16 := Nat.mul_le_mul (by rw [hl]; exact hk.2.2) (by omega)
    refine ⟨p, k, xs, rfl, rfl, hx, by omega, by omega, by rw [sizeLine_eq]; omega, fun l hl => ?_⟩
    exact h2 _ F2 _ (laid_own R2 hl) ((S1.trans S2).trans (laid_own_step hl)) ⟨l, rfl, step_none (S1.trans S2) hl, sub_none R2 hl, _, upd_same, dpAll_rep dd k.toNat⟩
  · exact h2.elim
end
end Ev
namespace Ev
open PySem PySem.Spec PyProof.Rows L2
section
variable {X : Cx} {W : WX} {a : Expr} {ma : SemE} {pos : Pos}
/-! ### len of a new dict with tuple keys -/
def eMLenE (m : SemE) : SemE := fun e => (m e).bind fun r e1 => match r with
  | .b (.m kvs) => .ok (.r (.int (kvs.length : Int))) e1
  | _ => .bad
end
end Ev

set_option Elab.async false
set_option linter.all false
set_option maxRecDepth 100000
namespace Ev
open PySem PySem.Spec PyProof.Rows L2
/-! ### dict(xs), xs a list of pairs -/
def pairsOf : List T → Option (List (T × T))
  | [] => some []
  | .tuple [k, v] :: ts => (match keyOf k, pairsOf ts with
    | some _, some r => some ((k, v) :: r)
    | _, _ => none)
  | _ => none
def mergeT (acc kvs : List (T × T)) : List (T × T) := kvs.foldl (fun acc q => dPut acc q.1 q.2) acc
def eDictP (m : SemA) : SemE := fun e => (m e).bind fun rs e1 => match escs rs e1 with
  | some ([.list ts], e2) => (match pairsOf ts with
    | some kvs => .ok (.b (.d (mergeT [] kvs))) e2
    | none => .bad)
  | _ => .bad
section
variable {X : Cx} {W : WX} {B : Bd} {a b c : Expr} {ma mb mc : SemE} {pos : Pos}
/-! ### xs[i], xs[j] = v, w -/
def putS : List (Nat × SemE) → List T → SemS
  | [], [], e => .ok .nx e
  | (i, mk) :: tgs, t :: ts, e => (match e[i]? with
    | some (.ow _ (.l _)) => (mk e).bind fun ri e2 => (match ri.val e2, e2[i]? with
      | some (.int k), some (.ow l (.l us)) => (match ixN us.length k with
        | some j => putS tgs ts (e2.set i (.ow l (.l (us.set j t))))
        | none => .bad)
      | _, _ => .bad)
    | some (.ow _ (.d _)) => (mk e).bind fun ri e2 => (match ri.val e2, e2[i]? with
      | some u, some (.ow l (.d kvs)) => (match keyOf u with
        | some _ => if kvs.length < sizeLine then putS tgs ts (e2.set i (.ow l (.d (dPut kvs u t)))) else .bad
        | none => .bad)
      | _, _ => .bad)
    | _ => .bad)
  | _, _, _ => .bad
def sPutS (tgs : List (Nat × SemE)) (m : SemA) : SemS := fun e => (m e).bind fun rs e1 => match escs rs e1 with
  | some (ts, e2) => if ts.length = tgs.length ∧ ts.length ≤ sizeLine then putS tgs ts e2 else .bad
  | none => .bad
end
end Ev

set_option Elab.async false
set_option linter.all false
set_option maxRecDepth 100000
namespace Ev
open PySem PySem.Spec PyProof.Rows L2
/-! ### wide powers -/
def CPowW (i j : Int) : Prop := 0 ≤ j ∧ j ≤ 100 ∧ i.natAbs.log2 < 1000000
section
variable {X : Cx}
theorem op_powW : OpR X (binaryOp .Pow) (rI CPowW fun i j => .int (i ^ j.toNat)) := opI fun i j _ _ _ _ _ hc q => by
  obtain ⟨h0, h1, h2⟩ := hc
  have hb : Builtin.Int.intBits i ≤ 1000000 := by
    unfold Builtin.Int.intBits
    split <;> omega
  refine pow_int h0 ?_ q
  have h3 : (Builtin.Int.intBits i : Int) * j ≤ 1000000 * j := Int.mul_le_mul_of_nonneg_right (by omega) h0
  omega
end
abbrev gPowW : T → T → Option Od := gII (fun i j => decide (0 ≤ j ∧ j ≤ 100 ∧ i.natAbs.log2 < 1000000)) fun i j => .int (i ^ j.toNat)
theorem does_powW {K : PySem.W.Frag} : Does2 K (rI CPowW fun i j => .int (i ^ j.toNat)) gPowW := does_ii (fun i j h => of_decide_eq_true (p := 0 ≤ j ∧ j ≤ 100 ∧ i.natAbs.log2 < 1000000) h) fun _ _ _ => .int _
theorem gPowW_ok {i j : Int} (h : 0 ≤ j ∧ j ≤ 100 ∧ i.natAbs.log2 < 1000000) : gPowW (.int i) (.int j) = some (.r (.int (i ^ j.toNat))) := by
  simp only [gPowW, gII, h, and_self, decide_true, if_true]
/-! ### zip of two lists or of two tuples -/
def iZip2 (m : SemA) : SemI := fun e => (m e).bind fun rs e1 => match escs rs e1 with
  | some ([.list ts, .list us], e2) => .ok (pairs ts us) e2
  | some ([.tuple ts, .tuple us], e2) => .ok (pairs ts us) e2
  | _ => .bad
end Ev

set_option Elab.async false
set_option linter.all false
set_option maxRecDepth 100000
namespace Ev
open PySem PySem.Spec PyProof.Rows L2
/-! ### a walk over what names hold, which they go on to hold -/
abbrev SemIG := En → Out (List T × (En → Prop))
def WkG (K : PySem.W.Frag) (J : It) (ts : List T) (gd : En → Prop) (σ : Sg) : Prop := ∀ (i : Nat) (e : En) (F H : Hp), Rel K e σ F H → gd e →
  (∀ t, ts[i]? = some t → J.go i H ∧ ∀ x H', J.yld i H x H' → (H' = H ∧ Dp K F x t) ∨ ∃ p vs ws, x = .ref p ∧ H p = none ∧ H' = upd H p (.tup vs) ∧ t = .tuple ws ∧ DpAll K F vs ws) ∧ (ts.length ≤ i → J.stop i H)
abbrev tIG (K : PySem.W.Frag) (W : WX) (m : SemIG) : TI := tX K W (fun σ _ _ _ J p => WkG K J p.1 p.2 σ) m
open Classical in
noncomputable def compSG (gd : En → Prop) (g : SemG) (c : SemT) (m : SemE) (vs : List Nat) : List T → List T → SemE
  | [], acc, e => if gd e then .ok (.b (.l acc)) e else .bad
  | t :: ts, acc, e => if gd e then (match g t (wipeE e vs) with
    | some e1 => (c e1).nx.bind fun k e2 => if k then (m e2).nx.bind fun r e3 => (match esc r e3 with
        | some (u, e4) => if acc.length < sizeLine then compSG gd g c m vs ts (acc ++ [u]) (restE e e4 vs) else .bad
        | none => .bad)
      else compSG gd g c m vs ts acc (restE e e2 vs)
    | none => .bad) else .bad
noncomputable def eCompG (mi : SemIG) (g : SemG) (c : SemT) (m : SemE) (vs : List Nat) : SemE := fun e => (mi e).bind fun p e1 => compSG p.2 g c m vs p.1 [] e1
/-- the reading of a comprehension's walk, from a state on -/
structure CompGN (K : PySem.W.Frag) (W : WX) (F1 : Hp) (gd : En → Prop) (g : SemG) (c : SemT) (m : SemE) (vs : List Nat) (e0 : En) (F0 H0 : Hp) (σ : Sg) (D : Addr) (Q : VK) (ts : List T) (H : Hp) : Prop where
  ex : ∃ e F acc accV, Rel K e σ F H ∧ Step e0 e σ F0 H0 F H ∧ (∀ a o, F1 a = some o → F a = some o) ∧ F D = none ∧ H D = some (.lst accV) ∧ DpAll K F accV acc ∧ OutX K W (OdR K σ) (compSG gd g c m vs ts acc e) e0 σ F0 H0 Q
theorem comp_readG {K : PySem.W.Frag} {W : WX} {mi : SemIG} {g : SemG} {c : SemT} {m : SemE} {vs : List Nat} {σ : Sg} {H : Hp} {Q : VK} (hk : GOk vs g) (h : tE K W (eCompG mi g c m vs) σ H Q) :
    tLc (tIG K W mi) (fun x σ H Q => ∃ B, tG K B vs g x σ H Q) (tT K W0 c) (tE K W0 m) vs σ H Q := by
  obtain ⟨e0, F0, R0, h⟩ := h
  refine tX_imp (tX_bind (rel := fun σ _ _ _ J p => WkG K J p.1 p.2 σ) R0 .refl h) fun J H1 ⟨⟨ts, gd⟩, e1, F1, R1, S1, wk, h1⟩ => ?_
  intro D hD
  have hD0 : H D = none := step_none S1 hD
  have hDF : F1 D = none := sub_none R1 hD
  have ff0 : ∀ a o, F1 a = some o → F1 a = some o := fun _ _ h => h
  refine ⟨fun i n H' => n = ts.length - i ∧ i ≤ ts.length ∧ CompGN K W F1 gd g c m vs e0 F0 H σ D Q (ts.drop i) H', ⟨_, rfl, Nat.zero_le _, ⟨e1, F1, [], [], laid_own R1 hD, S1.trans (laid_own_step hD), ff0, hDF, upd_same, .nil, h1⟩⟩, ?_⟩
  rintro i n H' ⟨rfl, hi, ⟨e2, F2, acc, accV, R2, S2, ff2, hf, hH, d, h2⟩⟩
  have hgd : gd e2 := by
    refine Classical.byContradiction fun z => ?_
    have : compSG gd g c m vs (ts.drop i) acc e2 = .bad := by
      cases ts.drop i with
      | nil => exact if_neg z
      | cons _ _ => exact if_neg z
    rw [this] at h2
    exact h2.elim
  obtain ⟨go, stop⟩ := wk i e2 F2 H' R2 hgd
  by_cases hlt : i < ts.length
  · have ht : ts[i]? = some ts[i] := List.getElem?_eq_getElem hlt
    rw [List.drop_eq_getElem_cons hlt] at h2
    obtain ⟨g1, y1⟩ := go _ ht
    refine .inr ⟨g1, CompGN K W F1 gd g c m vs e0 F0 H σ D Q (ts.drop (i + 1)), fun H3 n => ⟨_, (by omega : ts.length - (i + 1) < ts.length - i), rfl, hlt, n⟩, fun x H3 y => ?_⟩
    simp only [compSG] at h2
    rw [if_pos hgd] at h2
    cases q : g ts[i] (wipeE e2 vs) with
    | none => simp only [q] at h2; exact h2.elim
    | some e3 =>
      simp only [q] at h2
      obtain ⟨l3, a3⟩ := hk _ _ _ q
      have l3 : e3.length = e2.length := l3.trans (wipeE_len e2 vs)
      have D0 : ∀ {e F H3}, Step e0 e σ F0 H F H3 → ¬ Own e σ D := fun S => fresh_not_own R0 S hD0
      -- behind the target
      have next : ∀ (F3 : Hp) (H3 : Hp) (σ2 : Sg), Rel K e2 σ F3 H3 → Step e0 e2 σ F0 H F3 H3 → (∀ a o, F1 a = some o → F3 a = some o) → F3 D = none → H3 D = some (.lst accV) → DpAll K F3 accV acc → Rel K e3 σ2 F3 H3 → Agree vs (wipe σ vs) σ2 →
          wipe σ2 vs = wipe σ vs ∧ tT K W0 c σ2 H3 fun b H4 => if b = true then tE K W0 m σ2 H4 fun y H5 => ∃ acc, H5 D = some (.lst acc) ∧ acc.length < sizeLine ∧ CompGN K W F1 gd g c m vs e0 F0 H σ D Q (ts.drop (i + 1)) (upd H5 D (.lst (acc ++ [y]))) else CompGN K W F1 gd g c m vs e0 F0 H σ D Q (ts.drop (i + 1)) H4 := by
        intro F3 H3 σ2 R3 S3 ff3 hf3 hH3 d3 RB ag
        refine ⟨wipe_agree ag, ?_⟩
        have noD : ¬ Own e3 σ2 D := fun ⟨j, l, b, q1, q2⟩ => by
          have n : j ∉ vs ∧ e2[j]? = some (.ow l b) := by
            by_cases qv : j ∈ vs
            · rcases a3 j with z | ⟨_, t, z⟩
              · rw [q1] at z; exact absurd (wipeE_in qv z.symm) (by intro w; cases w)
              · rw [q1] at z; cases z
            · rcases a3 j with z | ⟨q', _⟩
              · rw [q1, wipeE_out qv] at z; exact ⟨qv, z.symm⟩
              · exact absurd q' qv
          exact D0 S3 ⟨j, l, b, n.2, by rw [← wipe_out n.1, ← ag.2 j n.1]; exact q2⟩
        cases wc : c e3 with
        | bad => rw [wc] at h2; exact h2.elim
        | exc _ _ _ => rw [wc] at h2; exact h2.elim
        | ok k e4 =>
        rw [wc] at h2
        have h4 : OutX K W (OdR K σ) (if k = true then (m e4).nx.bind fun r e5 => (match esc r e5 with
            | some (u, e6) => if acc.length < sizeLine then compSG gd g c m vs (ts.drop (i + 1)) (acc ++ [u]) (restE e2 e6 vs) else .bad
            | none => .bad) else compSG gd g c m vs (ts.drop (i + 1)) acc (restE e2 e4 vs)) e0 σ F0 H Q := h2
        refine tX_nx RB wc fun b F4 H4 R4 S4 eb => ?_
        subst eb
        obtain ⟨hD4, fD4⟩ := S4.keep D _ hH3 noD
        have fD4 := fD4 hf3
        cases b with
        | false =>
          obtain ⟨R', S'⟩ := rest_rel R3 l3 a3 ag R4 S4
          exact ⟨restE e2 e4 vs, F4, acc, accV, R', S3.trans S', fun a o h => S4.ff _ _ (ff3 _ _ h), fD4, hD4, dpAll_mono S4.ff d3, h4⟩
        | true =>
          simp only [if_true] at h4
          rw [if_pos rfl]
          cases wm : m e4 with
          | bad => rw [wm] at h4; exact h4.elim
          | exc _ _ _ => rw [wm] at h4; exact h4.elim
          | ok r e5 =>
          rw [wm] at h4
          have h5 : OutX K W (OdR K σ) (match esc r e5 with
            | some (u, e6) => if acc.length < sizeLine then compSG gd g c m vs (ts.drop (i + 1)) (acc ++ [u]) (restE e2 e6 vs) else .bad
            | none => .bad) e0 σ F0 H Q := h4
          refine tX_nx R4 wm fun y F5 H5 R5 S5 O5 => ?_
          obtain ⟨hD5, fD5⟩ := S5.keep D _ hD4 (fun z => noD (S4.own _ z))
          have fD5 := fD5 fD4
          cases w : esc r e5 with
          | none => simp only [w] at h5; exact h5.elim
          | some te =>
            obtain ⟨u, e6⟩ := te
            simp only [w] at h5
            obtain ⟨F6, R6, S6, d6, _, only⟩ := esc_ok R4 R5 S5 O5 w
            by_cases hl : acc.length < sizeLine
            · rw [if_pos hl] at h5
              obtain ⟨R', S'⟩ := rest_rel R3 l3 a3 ag R6 (S4.trans S6)
              have dd : DpAll K F6 (accV ++ [y]) (acc ++ [u]) := dpAll_app (dpAll_mono (fun a o h => S6.ff _ _ (S4.ff _ _ h)) d3) (.cons d6 .nil)
              have fD6 : F6 D = none := (S6.keep D _ hD4 (fun z => noD (S4.own _ z))).2 fD4
              refine ⟨accV, hD5, by rw [dpAll_len d3]; exact hl, ⟨restE e2 e6 vs, F6, acc ++ [u], accV ++ [y], upd_at R' hD5 fD6 (D0 (S3.trans S')), ?_, fun a o h => S6.ff _ _ (S4.ff _ _ (ff3 _ _ h)), fD6, upd_same, dd, h5⟩⟩
              exact step_upd (S3.trans S') hD0
            · rw [if_neg hl] at h5; exact h5.elim
      have Rw := wipe_rel (vs := vs) R2
      rcases y1 x H3 y with ⟨eH, dx⟩ | ⟨p, xs, ws, ex, hp, eH, et, dx⟩
      · subst eH
        exact ⟨bd0 _ _, wipeE e2 vs, F2, _, e3, Rw, bok0, dx, q, fun σ2 R' _ ag => next F2 _ σ2 R2 S2 ff2 hf hH d R' ag⟩
      · subst eH ex
        have ff3 : ∀ a o, F2 a = some o → upd F2 p (.tup xs) a = some o := fun a o h => by rw [upd_ne (ne_of_none h (sub_none R2 hp))]; exact h
        have nD : D ≠ p := ne_of_none hH hp
        have R3 := laid_frz (o := .tup xs) R2 hp
        have S3 := laid_frz_step (o := .tup xs) R2 S2 hp
        have dd : Dp K (upd F2 p (.tup xs)) (.ref p) ts[i] := by
          rw [et]
          exact .tup upd_same (dpAll_mono ff3 dx)
        exact ⟨bd0 _ _, wipeE e2 vs, _, _, e3, wipe_rel R3, bok0, dd, q, fun σ2 R' _ ag => next _ _ σ2 R3 S3 (fun a o h => ff3 _ _ (ff2 _ _ h)) (by rw [upd_ne nD]; exact hf) (by rw [upd_ne nD]; exact hH) (dpAll_mono ff3 d) R' ag⟩
  · have he : i = ts.length := by omega
    subst he
    rw [List.drop_length] at h2
    rw [show compSG gd g c m vs [] acc e2 = .ok (.b (.l acc)) e2 from if_pos hgd] at h2
    exact .inl ⟨stop (Nat.le_refl _), h2 _ F2 H' R2 S2 ⟨D, rfl, hD0, hf, accV, hH, d⟩⟩

section
variable {X : Cx} {W : WX} {a b c : Expr} {ma mb mc : SemE} {pos : Pos}
theorem qcompG {elt tg iter : Expr} {ifs : List Expr} {scope : Scope} {own : List (Str × Nat)} {vs : List Nat} {mi : SemIG} {g : SemG} {t : SemT} {m : SemE} (hc : X.calm = true) (hN : X.N.Nodup) (hi : PI X tg iter (tIG X.K W mi)) (ok : BlkOk X.N X.env.scope scope own) (hk : GOk vs g) (hvs : own.map (·.2) = vs)
    (hg : ∀ (s : Shared) (H : Hp) (C : Addr) (cl : List (Str × Addr)) (fp : List Addr) (B : Bd), QG (X.blk s H scope (compEnvC scope cl C X.env) fp) B vs tg g) (ht : ∀ (s : Shared) (H : Hp) (C : Addr) (cl : List (Str × Addr)) (fp : List Addr), QTs (X.blk s H scope (compEnvC scope cl C X.env) fp) W0 ifs t)
    (he : ∀ (s : Shared) (H : Hp) (C : Addr) (cl : List (Str × Addr)) (fp : List Addr), QE (X.blk s H scope (compEnvC scope cl C X.env) fp) W0 elt m) (hs : ∀ x, foldedSetIterable iter X.env x = pure x := by intro _; rfl) :
    QE X W (.ListComp elt [⟨tg, iter, ifs, 0⟩] scope pos) (eCompG mi g t m vs) := by
  subst hvs
  exact pe_mono (pe_lc hc hN hi ok (fun s H C cl fp => qg_any (hg s H C cl fp)) ht he hs) fun σ H Q h => comp_readG hk h
/-- zip of two names -/
def seqOf : Sl → Option (List T ⊕ List T)
  | .v (.list ts) => some (.inl ts)
  | .v (.tuple ts) => some (.inr ts)
  | .ow _ (.l ts) => some (.inl ts)
  | .fz (.l ts) => some (.inl ts)
  | _ => none
def iZipV (i j : Nat) : SemIG := fun e => match e[i]?, e[j]? with
  | some si, some sj => (match seqOf si, seqOf sj with
    | some (.inl ts), some (.inl us) => .ok (pairs ts us, fun e' => e'[i]? = some si ∧ e'[j]? = some sj) e
    | some (.inr ts), some (.inr us) => .ok (pairs ts us, fun e' => e'[i]? = some si ∧ e'[j]? = some sj) e
    | _, _ => .bad)
  | _, _ => .bad
theorem seq_l {K : PySem.W.Frag} {F H : Hp} {s : Sl} {o : Option V} {ts : List T} (ff : ∀ a o, F a = some o → H a = some o) (h : RS K F H s o) (q : seqOf s = some (.inl ts)) : ∃ a xs, o = some (.ref a) ∧ SqL K H a xs ∧ DpAll K F xs ts := by
  cases s with
  | un => cases q
  | v t =>
    obtain ⟨x, rfl, d⟩ := h
    cases t with
    | list us => cases q; cases d with | lst h1 h2 => exact ⟨_, _, rfl, sqL_mono ff h1, h2⟩
    | tuple us => cases q
    | _ => cases q
  | ow l b =>
    cases b with
    | l us =>
      cases q
      obtain ⟨p, rfl, _, xs, h1, h2⟩ := h
      exact ⟨p, xs, rfl, SqL.of h1, h2⟩
    | _ => cases q
  | fz b =>
    cases b with
    | l us =>
      cases q
      obtain ⟨x, rfl, d⟩ := h
      cases d with | lst h1 h2 => exact ⟨_, _, rfl, sqL_mono ff h1, h2⟩
    | _ => cases q
theorem seq_r {K : PySem.W.Frag} {F H : Hp} {s : Sl} {o : Option V} {ts : List T} (ff : ∀ a o, F a = some o → H a = some o) (h : RS K F H s o) (q : seqOf s = some (.inr ts)) : ∃ a xs, o = some (.ref a) ∧ SqT K H a xs ∧ DpAll K F xs ts := by
  cases s with
  | un => cases q
  | v t =>
    obtain ⟨x, rfl, d⟩ := h
    cases t with
    | list us => cases q
    | tuple us => cases q; cases d with | tup h1 h2 => exact ⟨_, _, rfl, SqT.of (ff _ _ h1), h2⟩
    | _ => cases q
  | ow l b => cases b <;> cases q
  | fz b => cases b <;> cases q
theorem qizipV {i j : Nat} {x y : Str} {px py : Pos} {p pos tpos : Pos} {elts : List Expr} {kk : Nat} (hg : Gl X "zip") (hm : X.mg "zip" = none) (hN : X.N[i]? = some x) (hv : Vis X.env.scope x) (hN2 : X.N[j]? = some y) (hv2 : Vis X.env.scope y) (hd : (x == ("__debug__" : Str)) = false := by decide) (hcd : (x == ("__classdict__" : Str)) = false := by decide) (hd2 : (y == ("__debug__" : Str)) = false := by decide) (hcd2 : (y == ("__classdict__" : Str)) = false := by decide)
    (hs : starEach [.Name x px, .Name y py] X.env = (false, eval (.Name x px) X.env) :: starEach [.Name y py] X.env := by rfl) (hs2 : starEach [.Name y py] X.env = (false, eval (.Name y py) X.env) :: starEach [] X.env := by rfl) (hpl : (backTo pos (starEach [.Name y py] X.env)).any (·.1) = false := by rfl) :
    PI X (.Tuple elts kk tpos) (.Call (.Name "zip" p) [.Name x px, .Name y py] [] pos) (tIG X.K W (iZipV i j)) := by
  refine pi_mono (RZ.pi_zipA hg hm (pa_cons (pe_var hN hv hd hcd) (pa_cons (pe_var hN2 hv2 hd2 hcd2) pa_nil)) hs hpl) fun σ H Q h => ?_
  obtain ⟨e, F, R, h⟩ := h
  unfold iZipV at h
  split at h
  · rename_i si sj q1 q2
    obtain ⟨o1, k1, r1⟩ := R.var q1
    obtain ⟨o2, k2, r2⟩ := R.var q2
    split at h
    · rename_i ts us w1 w2
      obtain ⟨a, xs, rfl, h1, d1⟩ := seq_l R.sub r1 w1
      obtain ⟨b, ys, rfl, h2, d2⟩ := seq_l R.sub r2 w2
      refine ⟨_, k1, _, k2, a, b, xs, ys, rfl, .inl ⟨h1, h2, h _ F H R .refl fun n e' F' H' R' ⟨g1, g2⟩ => ?_⟩⟩
      obtain ⟨o3, k3, r3⟩ := R'.var g1
      obtain ⟨o4, k4, r4⟩ := R'.var g2
      rw [k1] at k3; cases k3
      rw [k2] at k4; cases k4
      obtain ⟨a', xs', ea, h1', d1'⟩ := seq_l R'.sub r3 w1
      obtain ⟨b', ys', eb, h2', d2'⟩ := seq_l R'.sub r4 w2
      cases ea; cases eb
      refine ⟨fun t ht => ?_, fun hi => ⟨xs', ys', h1', h2', ?_⟩⟩
      · simp only [pairs, List.getElem?_map] at ht
        cases q : (ts.zip us)[n]? with
        | none => rw [q] at ht; cases ht
        | some tu =>
          rw [q] at ht
          cases ht
          obtain ⟨z1, z2⟩ := List.getElem?_zip_eq_some.mp q
          obtain ⟨v, hv, dv⟩ := dpAll_get d1' z1
          obtain ⟨w, hw, dw⟩ := dpAll_get d2' z2
          refine ⟨⟨xs', ys', v, w, h1', h2', hv, hw⟩, fun x H'' ⟨p, x1, y1, ex, hp, eH, y, y'⟩ => .inr ⟨p, [x1, y1], [tu.1, tu.2], ex, hp, eH, rfl, ?_⟩⟩
          have e1 := y xs' h1'
          have e2 := y' ys' h2'
          rw [hv] at e1; cases e1
          rw [hw] at e2; cases e2
          exact .cons dv (.cons dw .nil)
      · simp only [pairs, List.length_map, List.length_zip] at hi
        rw [dpAll_len d1', dpAll_len d2']
        omega
    · rename_i ts us w1 w2
      obtain ⟨a, xs, rfl, h1, d1⟩ := seq_r R.sub r1 w1
      obtain ⟨b, ys, rfl, h2, d2⟩ := seq_r R.sub r2 w2
      refine ⟨_, k1, _, k2, a, b, xs, ys, rfl, .inr ⟨h1, h2, h _ F H R .refl fun n e' F' H' R' ⟨g1, g2⟩ => ?_⟩⟩
      obtain ⟨o3, k3, r3⟩ := R'.var g1
      obtain ⟨o4, k4, r4⟩ := R'.var g2
      rw [k1] at k3; cases k3
      rw [k2] at k4; cases k4
      obtain ⟨a', xs', ea, h1', d1'⟩ := seq_r R'.sub r3 w1
      obtain ⟨b', ys', eb, h2', d2'⟩ := seq_r R'.sub r4 w2
      cases ea; cases eb
      refine ⟨fun t ht => ?_, fun hi => ⟨xs', ys', h1', h2', ?_⟩⟩
      · simp only [pairs, List.getElem?_map] at ht
        cases q : (ts.zip us)[n]? with
        | none => rw [q] at ht; cases ht
        | some tu =>
          rw [q] at ht
          cases ht
          obtain ⟨z1, z2⟩ := List.getElem?_zip_eq_some.mp q
          obtain ⟨v, hv, dv⟩ := dpAll_get d1' z1
          obtain ⟨w, hw, dw⟩ := dpAll_get d2' z2
          refine ⟨⟨xs', ys', v, w, h1', h2', hv, hw⟩, fun x H'' ⟨p, x1, y1, ex, hp, eH, y, y'⟩ => .inr ⟨p, [x1, y1], [tu.1, tu.2], ex, hp, eH, rfl, ?_⟩⟩
          have e1 := y xs' h1'
          have e2 := y' ys' h2'
          rw [hv] at e1; cases e1
          rw [hw] at e2; cases e2
          exact .cons dv (.cons dw .nil)
      · simp only [pairs, List.length_map, List.length_zip] at hi
        rw [dpAll_len d1', dpAll_len d2']
        omega
    · exact h.elim
  · exact h.elim
end
end Ev

set_option Elab.async false
set_option linter.all false
set_option maxRecDepth 100000
namespace Ev
open PySem PySem.Spec PyProof.Rows L2
/-! ### what is never reached -/
section
variable {X : Cx} {W : WX} {B : Bd} {a b c : Expr} {ma mb mc : SemE} {pos : Pos}
/-! ### great products -/
def CMulX (i j : Int) : Prop := i.natAbs.log2 + j.natAbs.log2 < 100000000
theorem CMulX.ok {i j : Int} (h : CMulX i j) : IntMulOk i j := by
  have b : ∀ x : Int, Builtin.Int.intBits x ≤ x.natAbs.log2 + 1 := fun x => by
    unfold Builtin.Int.intBits
    split <;> omega
  have h1 := b i
  have h2 := b j
  have h3 : i.natAbs.log2 + j.natAbs.log2 < 100000000 := h
  have e : bitsLine = 134217728 := by decide
  unfold IntMulOk
  intro z
  rw [Bool.and_eq_true] at z
  have z2 := z.2
  unfold Builtin.Int.intTooBig at z2
  have z3 := of_decide_eq_true z2
  rw [e] at z3
  omega
theorem op_mulX : OpR X (binaryOp .Mult) (rI CMulX fun i j => .int (i * j)) := opI fun _ _ _ _ _ _ _ hc q => mul_int q hc.ok
end
abbrev gMulX : T → T → Option Od := gII (fun i j => decide (i.natAbs.log2 + j.natAbs.log2 < 100000000)) fun i j => .int (i * j)
theorem does_mulX {K : PySem.W.Frag} : Does2 K (rI CMulX fun i j => .int (i * j)) gMulX := does_ii (fun i j h => of_decide_eq_true (p := i.natAbs.log2 + j.natAbs.log2 < 100000000) h) fun _ _ _ => .int _
theorem gMulX_ok {i j : Int} (h : i.natAbs.log2 + j.natAbs.log2 < 100000000) : gMulX (.int i) (.int j) = some (.r (.int (i * j))) := by
  simp only [gMulX, gII, h, decide_true, if_true]
/-! ### ints as texts -/
def fStr : T → Option Od
  | .int i => if i.natAbs.log2 < 1920 then some (.r (.str (toString i))) else none
  | _ => none
abbrev gStr := g1 fStr
theorem does_str {K : PySem.W.Frag} : DoesN K (fun xs H Q => ∃ i, xs = [.int i] ∧ i.natAbs.log2 < 1920 ∧ Q (.str (toString i)) H) gStr := doesN1 fun x t w F H Q ff d hg => by
  cases t with
  | int i =>
    have d' : Dp K F x (.int i) := d
    cases d'
    by_cases hl : i.natAbs.log2 < 1920
    · have e : fStr (.int i) = some (.r (.str (toString i))) := if_pos hl
      rw [e] at hg
      cases hg
      exact ⟨trivial, fun q => ⟨i, rfl, hl, q.1 _ (.str _)⟩⟩
    · have e : fStr (.int i) = none := if_neg hl
      rw [e] at hg
      cases hg
  | _ => cases hg
/-! ### texts joined -/
def strsOf : List T → Option (List Str)
  | [] => some []
  | .str x :: ts => (strsOf ts).map (x :: ·)
  | _ :: _ => none
theorem strs_read {K : PySem.W.Frag} {F : Hp} : ∀ {ts : List T} {xs : List V} {ys : List Str}, DpAll K F xs ts → strsOf ts = some ys → xs = ys.map V.str
  | [], _, _, h, e => by cases h; cases e; rfl
  | t :: ts, _, ys, h, e => by
    cases h with
    | cons a b =>
      cases t with
      | str x =>
        simp only [strsOf] at e
        cases q : strsOf ts with
        | none => rw [q] at e; cases e
        | some zs =>
          rw [q] at e
          cases e
          cases a
          rw [strs_read b q]; rfl
      | _ => cases e
def eJoin (mo m : SemE) : SemE := fun e => (mo e).bind fun ro e0 => match ro with
  | .r (.str sep) => (m e0).bind fun r e1 => (match r.val e1 with
    | some (.list ts) => (match strsOf ts with
      | some ys => if (ys.map (·.length)).sum + ys.length * sep.length ≤ 16777216 then .ok (.r (.str (Txt.join sep ys))) e1 else .bad
      | none => .bad)
    | some (.tuple ts) => (match strsOf ts with
      | some ys => if (ys.map (·.length)).sum + ys.length * sep.length ≤ 16777216 then .ok (.r (.str (Txt.join sep ys))) e1 else .bad
      | none => .bad)
    | _ => .bad)
  | _ => .bad
section
variable {X : Cx} {W : WX} {B : Bd} {a b c : Expr} {ma mb mc : SemE} {pos : Pos}
theorem qjoin {apos : Pos} {o e : Expr} {mo m : SemE} (ho : QE X W o mo) (he : QE X W e m) (hs : starEach [e] X.env = [(false, eval e X.env)] := by rfl) (hbase : attributeBase o "join" X.env (eval o X.env) = eval o X.env := by rfl) (hline : (apos.endLine == pos.line) = true := by rfl) :
    QE X W (.Call (.Attribute o "join" apos) [e] [] pos) (eJoin mo m) := by
  refine pe_mono (pe_join ho he hs hbase hline) fun σ H Q h => ?_
  obtain ⟨e0, F0, R0, h⟩ := h
  refine tX_imp (tX_bind (rel := fun σ => OdR X.K σ) R0 .refl h) fun x H1 ⟨r, e1, F1, R1, S1, O1, h1⟩ => ?_
  split at h1
  · rename_i sep
    cases (show Dp X.K F1 x (.str sep) from O1)
    refine ⟨⟨_, rfl⟩, tX_imp (tX_bind (rel := fun σ => OdR X.K σ) R1 S1 h1) fun y H2 ⟨r2, e2, F2, R2, S2, O2, h2⟩ => ?_⟩
    have S12 := S1.trans S2
    split at h2
    · rename_i ts q
      obtain ⟨p, xs, rfl, hl, hd⟩ := val_ok R2 O2 q
      split at h2
      · rename_i ys q2
        split at h2
        · rename_i hz
          have ex := strs_read hd q2
          subst ex
          exact ⟨sep, p, ys, rfl, rfl, .inl hl, hz, h2 _ F2 H2 R2 S12 (.str _)⟩
        · exact h2.elim
      · exact h2.elim
    · rename_i ts q
      have dd : Dp X.K F2 y (.tuple ts) := val_ok R2 O2 q
      cases dd with
      | tup hl hd =>
        split at h2
        · rename_i ys q2
          split at h2
          · rename_i hz
            have ex := strs_read hd q2
            subst ex
            exact ⟨sep, _, ys, rfl, rfl, .inr (SqT.of (R2.sub _ _ hl)), hz, h2 _ F2 H2 R2 S12 (.str _)⟩
          · exact h2.elim
        · exact h2.elim
    · exact h2.elim
  · exact h1.elim
/-! ### f-strings -/
def eFmt (m : SemE) : SemE := fun e => (m e).bind fun r e1 => match r.val e1 with
  | some (.str y) => if y.length ≤ sizeLine then .ok (.r (.str y)) e1 else .bad
  | some (.int i) => if i.natAbs.log2 < 1920 then .ok (.r (.str (toString i))) e1 else .bad
  | _ => .bad
def eJs : List SemE → Str → SemE
  | [], acc, e => .ok (.r (.str acc)) e
  | m :: ms, acc, e => (m e).bind fun r e1 => match r with
    | .r (.str y) => if (acc ++ y).length ≤ sizeLine then eJs ms (acc ++ y) e1 else .bad
    | _ => .bad
end
end Ev
namespace L2
open PySem PySem.Spec PyProof.Rows
/-- as walk_ofE, the bits told -/
theorem walk_ofEB {l : PySem.W.OpenLaw} {n k : Nat} {q : Program} {loose : List Str} {XP : (Str → Option Value) → Heap → Prop} {YP : World → Heap → Prop} {d : DefRec} {CX : CXT} {x : Str}
    (hn : l.most = some n) (hn2 : n ≤ sizeLine) (hdf : d.params.defaults = []) (hr : Room k callerA)
    (F : ∀ (w : World) (mg : Str → Option Value) (fa : Addr) (h : Heap), YP w h → h.Ns mainGlobals mg → mg d.name = some (.ref fa) →
      ∃ (K : PySem.W.Frag) (fd : FuncData) (sp : Sp), K.In h ∧ (∀ (s : Shared) (u : Value), BindsTo s fd ⟨[u], []⟩ [(x, u)]) ∧
        (∀ (H : Hp) (a : Addr) (ns : List Int), ns.length ≤ n → (∀ k ∈ ns, Builtin.Int.intBits k ≤ 1048576) → Only H → SqL K H a (ns.map V.int) → sp [.ref a] H (fun v _ => v = .bl true) fun _ _ _ => False) ∧
        ∀ base : Heap, K.In base → base.Ns mainGlobals mg → FnOk l.prog w K mg base CX k fa fd [x] sp)
    (hCX : ∀ (H : Hp) (s : Shared) (e : Value) (s' : Shared), CX [] H s (fun _ _ _ => False) e s' → False) :
    PySem.W.WalkO q loose XP YP l.row.toRowW d [] (fun f vs => PySem.call f vs) := by
  refine Att.attach_callB hn hdf fun w s₀ s₁ mg mb fa o pm cd doc a vs ns G Y ho hd hcd hmg hobj hints hlen hbits hg => ?_
  obtain ⟨K, fd, sp, KX, hb, hsp, hF⟩ := F w mg fa _ Y G.T.g hmg
  exact law_call KX G.T.g G.T.b G.T.builtins G.T.nolimit hg hobj hints (Nat.le_trans hlen hn2) hr hF hb (fun H hO hS => hsp H a ns hlen hbits hO hS) fun H e s' => hCX H s₁ e s'
end L2

set_option Elab.async false
set_option linter.all false
set_option maxRecDepth 100000
namespace Ev
open PySem PySem.Spec PyProof.Rows L2
/-! ### a walk over what one name holds, which it goes on to hold -/
def iNmG (i : Nat) : SemIG := fun e => match e[i]? with
  | some si => (match seqOf si with
    | some (.inl ts) => .ok (ts, fun e' => e'[i]? = some si) e
    | some (.inr ts) => .ok (ts, fun e' => e'[i]? = some si) e
    | none => .bad)
  | none => .bad
section
variable {X : Cx} {W : WX}
end
/-! ### the length of a text -/
def fLenS : T → Option Od
  | .str z => if z.length ≤ sizeLine then some (.r (.int z.length)) else none
  | _ => none
abbrev gLenS := g1 fLenS
theorem gLenS_ok {z : Str} (h : z.length ≤ sizeLine) : gLenS [.str z] = some (.r (.int z.length)) := if_pos h
end Ev

set_option Elab.async false
set_option linter.all false
set_option maxRecDepth 100000
namespace Ev
open PySem PySem.Spec PyProof.Rows L2
/-! ### a list of lists that are grown one by one -/
def plainS : Sl → Bool
  | .un => true
  | .v _ => true
  | _ => false
def plainE (e : En) : Bool := e.all plainS
section
variable {K : PySem.W.Frag} {W : WX} {B : Bd} {e e' : En} {σ σ' : Sg} {F H F' H' : Hp} {i : Nat} {p : Addr}
theorem plain_at (h : plainE e = true) {s : Sl} (q : e[i]? = some s) : plainS s = true := List.all_eq_true.mp h _ (List.mem_of_getElem? q)
theorem plain_ow (h : plainE e = true) {l : Bool} {b : Bx} : e[i]? ≠ some (.ow l b) := fun q => by cases plain_at h q
theorem plain_fz (h : plainE e = true) {b : Bx} : e[i]? ≠ some (.fz b) := fun q => by cases plain_at h q
theorem plain_own (h : plainE e = true) : ¬ Own e σ p := fun ⟨_, _, _, q, _⟩ => plain_ow h q
theorem plain_lent (h : plainE e = true) : ¬ Lent e i := fun ⟨_, q⟩ => q.elim (plain_ow h) (plain_fz h)
theorem plain_set {s : Sl} (h : plainE e = true) (hs : plainS s = true) : plainE (e.set i s) = true := List.all_eq_true.mpr fun x hx => by
  rcases List.mem_or_eq_of_mem_set hx with q | q
  · exact List.all_eq_true.mp h _ q
  · rw [q]; exact hs
theorem plain_up (hp : plainE e = true) (R : Rel K e σ F H) (ff : ∀ a o, F a = some o → F' a = some o) (sub : ∀ a o, F' a = some o → H' a = some o) : Rel K e σ F' H' := by
  refine ⟨sub, R.len, fun j s o h1 h2 => ?_, fun a b l z l' z' p h1 => absurd h1 (plain_ow hp)⟩
  have z := R.at_ j s o h1 h2
  cases s with
  | un => trivial
  | v t => obtain ⟨x, ex, d⟩ := z; exact ⟨x, ex, dp_mono ff _ _ d⟩
  | ow l b => exact absurd h1 (plain_ow hp)
  | fz b => exact absurd h1 (plain_fz hp)
theorem plain_bok (hp : plainE e = true) (k : BOk B e σ F H) (hp' : plainE e' = true) (up : ∀ a o, B.H a = some o → H a = some o → H' a = some o ∧ (F a = none → F' a = none)) (dm : ∀ a o, H a = some o → ∃ o', H' a = some o') (ff : ∀ a o, F a = some o → F' a = some o) : BOk B e' σ' F' H' where
  ff := fun a o h => ff _ _ (k.ff _ _ h)
  keep := fun a o h n => by
    obtain ⟨h1, h2⟩ := k.keep a o h n
    obtain ⟨h3, h4⟩ := up a o h h1
    exact ⟨h3, fun z => h4 (h2 z)⟩
  dom := fun a o h => by
    obtain ⟨o1, h1⟩ := k.dom a o h
    exact dm a o1 h1
  fresh := fun i b p h1 _ => absurd h1 (plain_ow hp')
  own := fun i b h1 => absurd h1 (plain_ow hp')
  lent := fun i b h => absurd (k.lent i b h).1 (plain_lent hp)
theorem plain_step (hp : plainE e = true) (S : Step e e' σ F H F' H') {a : Addr} {o : HO} (h : H a = some o) : H' a = some o ∧ (F a = none → F' a = none) := S.keep a o h (plain_own hp)
end
structure Gd (H0 F H : Hp) (D : Addr) (gs : List (List Int)) (qs : List Addr) : Prop where
  len : qs.length = gs.length
  d0 : H0 D = none
  q0 : ∀ q ∈ qs, H0 q = none
  nd : qs.Nodup
  dq : D ∉ qs
  fd : F D = none
  fq : ∀ q ∈ qs, F q = none
  hd : H D = some (.lst (qs.map .ref))
  hq : ∀ (j : Nat) (q : Addr) (ns : List Int), qs[j]? = some q → gs[j]? = some ns → H q = some (.lst (ns.map .int))
  up : ∀ a o, H0 a = some o → H a = some o
theorem Gd.sm {H0 F H : Hp} {D : Addr} {gs : List (List Int)} {qs : List Addr} (g : Gd H0 F H D gs qs) {q : Addr} (h : q ∈ qs) : ∃ o, H q = some o := by
  obtain ⟨j, hj⟩ := List.getElem?_of_mem h
  have hl : j < gs.length := by rw [← g.len]; exact (List.getElem?_eq_some_iff.mp hj).1
  exact ⟨_, g.hq j q _ hj (List.getElem?_eq_getElem hl)⟩
/-- nothing that stands is changed -/
theorem Gd.on {H0 F H F' H' : Hp} {D : Addr} {gs : List (List Int)} {qs : List Addr} (g : Gd H0 F H D gs qs) (k : ∀ a o, H a = some o → H' a = some o ∧ (F a = none → F' a = none)) : Gd H0 F' H' D gs qs where
  len := g.len
  d0 := g.d0
  q0 := g.q0
  nd := g.nd
  dq := g.dq
  fd := (k _ _ g.hd).2 g.fd
  fq := fun q hq => by obtain ⟨o, ho⟩ := g.sm hq; exact (k _ _ ho).2 (g.fq q hq)
  hd := (k _ _ g.hd).1
  hq := fun j q ns h1 h2 => (k _ _ (g.hq j q ns h1 h2)).1
  up := fun a o h => (k _ _ (g.up a o h)).1
/-- one more -/
theorem Gd.more {H0 F H : Hp} {D p : Addr} {gs : List (List Int)} {qs : List Addr} (g : Gd H0 F H D gs qs) (fh : ∀ a o, F a = some o → H0 a = some o) (hp : H p = none) : Gd H0 F (upd (upd H p (.lst [])) D (.lst (qs.map .ref ++ [.ref p]))) D (gs ++ [[]]) (qs ++ [p]) := by
  have p0 : H0 p = none := by
    cases q : H0 p with
    | none => rfl
    | some o => have := g.up _ _ q; rw [hp] at this; cases this
  have pD : p ≠ D := fun q => by subst q; rw [g.hd] at hp; cases hp
  have pq : ∀ q ∈ qs, q ≠ p := fun q hq e => by subst e; obtain ⟨o, ho⟩ := g.sm hq; rw [hp] at ho; cases ho
  have Dq : ∀ q ∈ qs, q ≠ D := fun q hq e => g.dq (e ▸ hq)
  refine ⟨by simp [g.len], g.d0, fun q hq => ?_, ?_, fun h => ?_, g.fd, fun q hq => ?_, ?_, fun j q ns h1 h2 => ?_, fun a o h => ?_⟩
  · rcases List.mem_append.mp hq with h | h
    · exact g.q0 q h
    · rw [List.mem_singleton.mp h]; exact p0
  · exact List.nodup_append.mpr ⟨g.nd, by simp, fun a ha b hb => by rw [List.mem_singleton.mp hb]; exact pq a ha⟩
  · rcases List.mem_append.mp h with h | h
    · exact g.dq h
    · exact pD (List.mem_singleton.mp h).symm
  · rcases List.mem_append.mp hq with h | h
    · exact g.fq q h
    · rw [List.mem_singleton.mp h]
      cases z : F p with
      | none => rfl
      | some o => rw [fh _ _ z] at p0; cases p0
  · rw [upd_same, List.map_append]; rfl
  · by_cases hj : j < qs.length
    · rw [List.getElem?_append_left hj] at h1
      rw [List.getElem?_append_left (by rw [← g.len]; exact hj)] at h2
      have m := List.mem_of_getElem? h1
      rw [upd_ne (Dq q m), upd_ne (pq q m)]
      exact g.hq j q ns h1 h2
    · have hl : j < (qs ++ [p]).length := (List.getElem?_eq_some_iff.mp h1).1
      have ej : j = qs.length := by simp at hl; omega
      subst ej
      simp at h1
      rw [g.len] at h2
      simp at h2
      subst h1 h2
      rw [upd_ne pD, upd_same]; rfl
  · have h' := g.up a o h
    have aD : a ≠ D := fun q => by subst q; rw [g.d0] at h; cases h
    have ap : a ≠ p := fun q => by subst q; rw [p0] at h; cases h
    rw [upd_ne aD, upd_ne ap]; exact h'
theorem wipe_set (σ : Sg) (ν : Nat) (x : V) : wipe ((wipe σ [ν]).set ν (some x)) [ν] = wipe σ [ν] := by
  simp only [wipe, List.set_set]
end Ev

set_option Elab.async false
set_option linter.all false
set_option maxRecDepth 100000
namespace Ev
open PySem PySem.Spec PyProof.Rows L2
/-! ### methods of texts -/
section
variable {X : Cx} {W : WX} {B : Bd} {a b c : Expr} {ma mb mc : SemE} {pos : Pos}
end
/-! ### int(text) -/
/-! ### one sign in a text -/
/-! ### a part of a text -/
section
variable {X : Cx} {W : WX} {B : Bd} {a b c : Expr} {ma mb mc : SemE} {pos : Pos}
/-! ### a number that the module holds -/
end
/-! ### xs.extend(a tuple) -/
section
variable {X : Cx} {W : WX} {a b c : Expr} {ma mb mc : SemE} {pos : Pos}
end
end Ev

set_option Elab.async false
set_option linter.all false
set_option maxRecDepth 100000
set_option maxHeartbeats 2000000
namespace Ev
open PySem PySem.Spec PyProof.Rows L2
/-! ### a tuple unpacked while an exception is handled -/
section
variable {prog : Program} {w : World} {A : Around} {E : Value → Shared → Prop} {s : Shared}
theorem next_end_hot {it t x1 : Addr} {i : Nat} {items : Array Value} {Q : Option Value → Shared → Prop} (hot : HotX.HotAt A x1 s.heap) (hne : x1 ≠ it)
    (hit : IsTupIter s.heap it t i) (ht : IsTup s.heap t items) (hx : items[i]? = none)
    (hQ : ∀ h', Heap.ExtBut it s.heap h' → Q none { s with heap := h' }) : wpAny (model prog w) A (pyNext (.ref it)) Q E s := by
  obtain ⟨o, ho, hc, hd⟩ := id hit
  obtain ⟨ol, hol, _, nl, hdl⟩ := ht
  obtain ⟨hh, o1, vs1, h1, d1, c1⟩ := hot
  unfold pyNext
  refine wpAny_bind (wpAny_attempt (wpAny_callSpecial?_slot (name := Str.ofString "__next__") hit.typeIs slot_tupleiter_next
    (wpAny_call_entry slot_tupleiter_next hit.typeIs entry_tupleiter_next ?_ (args_tupleiter_next _))))
  show wpAny _ _ (field (.ref it) 0 >>= _) _ _ s
  refine wpAny_bind (wpAny_field ho hd (x := .ref t) rfl ?_)
  show wpAny _ _ (if (Value.ref t == Value.none) = true then _ else _) _ _ s
  rw [if_neg (show ¬ ((Value.ref t == Value.none) = true) from Bool.false_ne_true)]
  show wpAny _ _ (field (.ref it) 1 >>= _) _ _ s
  refine wpAny_bind (wpAny_field ho hd (x := .int i 0) rfl ?_)
  show wpAny _ _ (seqItems? (.ref t) >>= _) _ _ s
  refine wpAny_bind (wpAny_seqItems hol hdl ?_)
  simp only [Int.toNat_natCast, hx]
  refine wpAny_bind (wpAny_rule (wpAny_bind (wpAny_setField ho hd (by simp) ?_)))
  have h2 := (Heap.get?_update_other s.heap (Obj.mapFields (·.setIfInBounds 0 Value.none)) (Ne.symm hne)).trans h1
  show wpAny _ _ (newExc (.type "StopIteration") [] >>= _) _ _ _
  refine wpAny_bind ?_
  simp only [newExc, newTuple]
  refine wpAny_bind (wpAny_newObj_type ?_ (by size_fits))
  refine wpAny_bind (m := firstArgMember _ _) (wpAny_of_eq (a := Value.none) (by first | rfl | (simp only [firstArgMember]; rfl)) ?_)
  refine wpAny_newObj_type ?_ (by size_fits)
  refine HotX.raiseNew_hot ⟨hh, o1, vs1, Heap.get?_push_of_some _ (Heap.get?_push_of_some _ h2), d1, c1⟩ (Nat.ne_of_lt (Heap.lt_size (Heap.get?_push_of_some _ h2))) (Heap.get?_push_size _ rfl) rfl (by first | (simp; done) | (simp; omega) | (simp only [Array.size_append]; simp; omega)) ?_
  refine wpAny_bind (wpAny_isInstance (T := "StopIteration") (b := true) ⟨_, Heap.get?_update_self _ (Heap.get?_push_size _ rfl) rfl, rfl⟩ isSubtype_stop ?_)
  refine wpAny_pure (hQ _ fun b o hb e => ?_)
  have e2 := (Heap.get?_update_other s.heap (Obj.mapFields (·.setIfInBounds 0 Value.none)) (Ne.symm hb)).trans e
  rw [Heap.get?_update_other _ _ (Nat.ne_of_gt (Heap.lt_size (Heap.get?_push_of_some _ e2)))]
  exact Heap.get?_push_of_some _ (Heap.get?_push_of_some _ e2)
theorem unpack_hot {t x1 : Addr} {items : Array Value} {Q : List Value → Shared → Prop} (hot : HotX.HotAt A x1 s.heap) (ht : IsTup s.heap t items)
    (hQ : ∀ h', Heap.ExtBut s.heap.objs.size s.heap h' → Q items.toList { s with heap := h' }) : wpAny (model prog w) A (unpackItems (.ref t) items.size none) Q E s := by
  have hlt : t ≠ s.heap.objs.size := by obtain ⟨o, ho, _⟩ := ht; exact Nat.ne_of_lt (Heap.lt_size ho)
  have hx1 : x1 ≠ s.heap.objs.size := by obtain ⟨_, o, _, ho, _⟩ := hot; exact Nat.ne_of_lt (Heap.lt_size ho)
  unfold unpackItems
  refine wpAny_bind ?_
  · unfold notIterableAtAll
    refine wpAny_bind (wpAny_specialOf ht.typeIs slot_tuple_iter.lookup ?_)
    refine wpAny_pure ?_
    simp only [Bool.false_eq_true, if_false]
    refine wpAny_bind (wpAny_holding (iter_tuple ht ?_))
    refine wpAny_bind (wpAny_holding (draw_tuple hlt items.size 0 _ _ ⟨_, Heap.get?_push_size _ rfl, rfl, rfl⟩ (ht.push _) (by omega) fun h₁ hit₁ hs₁ => ?_))
    have hall : List.take items.size (List.drop 0 items.toList) = items.toList := by
      rw [List.drop_zero]; exact List.take_of_length_le (by simp)
    rw [hall]
    rw [if_neg (by simp)]
    have ht₁ : IsTup h₁ t items := (ht.push _).extBut hs₁.extBut hlt
    have hot₁ : HotX.HotAt A x1 h₁ := by
      obtain ⟨hh, o1, vs1, h1, d1, c1⟩ := hot
      exact ⟨hh, o1, vs1, hs₁.extBut x1 o1 hx1 (Heap.get?_push_of_some _ h1), d1, c1⟩
    refine wpAny_bind (wpAny_holding (next_end_hot hot₁ hx1 hit₁ ht₁ (by simp) fun h₂ he₂ => ?_))
    simp only [Option.isSome_none, Bool.false_eq_true, if_false]
    refine wpAny_pure (hQ h₂ fun b o hb e => he₂ b o hb (hs₁.extBut b o hb (Heap.get?_push_of_some _ e)))
end
/-- a, b = x, y in an except suite -/
theorem ps_par_hot {X : Cx} {i j : Nat} {x y : Str} {a b : Expr} {ta : TA} {px py pt pos : Pos} {kt k2 pt2} (hc : L2H.HotC X) (hN : X.N.Nodup) (hi : X.N[i]? = some x) (hj : X.N[j]? = some y) (hij : i ≠ j)
    (hx : X.env.scope.names.lookup x = some .local) (hy : X.env.scope.names.lookup y = some .local) (ha : PA X [a, b] ta)
    (hw : swappedStores [.Tuple [.Name x px, .Name y py] kt pt] (.Tuple [a, b] k2 pt2) X.env = pure (some [x, y]))
    (hs : swapsWithSole [.Tuple [.Name x px, .Name y py] kt pt] (.Tuple [a, b] k2 pt2) pos.line X.env = pure false := by rfl) :
    PS X (.Assign [.Tuple [.Name x px, .Name y py] kt pt] (.Tuple [a, b] k2 pt2) pos) (tPar i j ta) := by
  refine ⟨fun pins s σ H D I h => ?_⟩
  rw [exec_Assign_arm]
  refine wpAny_bind (wpAny_standAt ?_)
  rw [hs]
  refine wpAny_bind (wpAny_pure ?_)
  rw [if_neg (by decide)]
  refine wpAny_bind (Tuple_ (thn (ha.run _ pins s σ H _ I h) fun us s1 ⟨vs, H1, I1, r1, q1⟩ => ?_))
  obtain ⟨v, w, e1, q1⟩ := q1
  subst e1
  have r2 : ∃ u1 u2, us = [u1, u2] ∧ RelV v u1 ∧ RelV w u2 := by
    rcases r1 with _ | ⟨p, q⟩
    rcases q with _ | ⟨p', q'⟩
    rcases q'
    exact ⟨_, _, rfl, p, p'⟩
  obtain ⟨u1, u2, eu, rv, rw'⟩ := r2
  subst eu
  refine wpAny_newObj_type ?_ (by show 2 ≤ sizeLine; decide)
  have I2 : Inv X pins σ H1 { s1 with heap := s1.heap.push { cls := .type "tuple", data := .seq [u1, u2].toArray } } := I1.kept (t' := s1.toks) fun b o e => Heap.get?_push_of_some _ e
  obtain ⟨x1, hot⟩ := hc.at I2
  rw [hw]
  refine wpAny_bind (wpAny_pure ?_)
  show wpAny (model X.prog X.w) X.A (do rule "assign.swapped-stores"; let items ← unpackItems (.ref s1.heap.objs.size) 2 none; assignInOrder [fun v => bindName X.env y v, fun v => bindName X.env x v] items.reverse; pure Flow.next) _ _ _
  refine wpAny_bind (wpAny_rule (wpAny_bind (unpack_hot (items := #[u1, u2]) hot (IsTup.new s1.heap _) fun h' hx' => ?_)))
  have I3 := I2.kept (h' := h') (t' := s1.toks) fun b o e => hx' b o (Nat.ne_of_lt (Heap.lt_size e)) e
  show wpAny _ _ (assignInOrder [fun v => bindName X.env y v, fun v => bindName X.env x v] [u2, u1] >>= fun _ => pure Flow.next) _ _ _
  refine wpAny_bind (assignInOrder_cons (wpAny_bindName (store_ok I3 hN hj (.inl hy) rw' (fun s2 I4 => ?_) (.inr hy))))
  refine assignInOrder_cons (wpAny_bindName (store_ok I4 hN hi (.inl hx) rv (fun s3 I5 => assignInOrder_nil (wpAny_pure ?_)) (.inr hx)))
  rw [List.set_comm _ _ (Ne.symm hij)] at I5
  exact ⟨_, H1, I5, q1⟩
end Ev

set_option Elab.async false
set_option linter.all false
set_option maxRecDepth 100000
set_option maxHeartbeats 2000000
namespace Ev
open PySem PySem.Spec PyProof.Rows L2
/-! ### several except clauses, with a name or without -/
abbrev HTs := Addr → Value → Option Addr → TS
/-- the ends of a suite whose name i is unbound behind it -/
def offD (i : Nat) (D : Ends) : Ends := { nx := fun σ' H' => D.nx (σ'.set i none) H', rt := D.rt, bk := fun σ' H' => D.bk (σ'.set i none) H', ct := fun σ' H' => D.ct (σ'.set i none) H' }
def wEx (K : PySem.W.Frag) (Wout : WX) (D : Ends) : List (Value × Option Nat × HTs) → WX
  | [] => Wout
  | (c, none, ts) :: r => fun cls d σ H => ∃ b, PySem.W.exmOne K cls c = some b ∧ (b = true → ∀ a, H a = none → ts a cls d D σ H) ∧ (b = false → wEx K Wout D r cls d σ H)
  | (c, some i, ts) :: r => fun cls d σ H => ∃ b, PySem.W.exmOne K cls c = some b ∧ (b = true → ∀ a, H a = none → ts a cls d (offD i D) (σ.set i (some (.ref a))) H) ∧ (b = false → wEx K Wout D r cls d σ H)
/-- a suite's reading -/
abbrev SuOk (X : Cx) (suite : List Stmt) (ts : HTs) : Prop := ∀ (a : Addr) (oe : Obj) (cls : Value) (d : Option Addr) (pn : List (Addr × Obj)), L2N.Zn cls d oe → (∃ vs, oe.data = .fields vs) → PSs (X.suite a ((a, oe) :: pn)) suite (ts a cls d)
inductive HxOk (X : Cx) : List ExceptHandler → List (Value × Option Nat × HTs) → Prop
  | nil : HxOk X [] []
  | plain {x : Str} {c : Value} {ts : HTs} {b₀ : Stmt} {suite : List Stmt} {np pos' : Pos} {hds : List ExceptHandler} {l : List (Value × Option Nat × HTs)} (hc : Names X x c) (hsu : SuOk X (b₀ :: suite) ts) (r : HxOk X hds l) :
      HxOk X (.ExceptHandler (some (.Name x np)) none (b₀ :: suite) pos' :: hds) ((c, none, ts) :: l)
  | named {x n : Str} {c : Value} {i : Nat} {ts : HTs} {b₀ : Stmt} {suite : List Stmt} {np pos' : Pos} {hds : List ExceptHandler} {l : List (Value × Option Nat × HTs)} (hc : Names X x c) (hi : X.N[i]? = some n) (hln : X.env.kindOf n = some .local)
      (hsu : SuOk X (b₀ :: suite) ts) (r : HxOk X hds l) : HxOk X (.ExceptHandler (some (.Name x np)) (some n) (b₀ :: suite) pos' :: hds) ((c, some i, ts) :: l)
section
variable {X : Cx} {body : List Stmt} {h₀ : ExceptHandler} {hds : List ExceptHandler} {l : List (Value × Option Nat × HTs)} {pos : Pos} {tb : WX → TS} {Wout : WX}
/-- the ends of a body whose exceptions are looked for are those of the statement -/
theorem sp_back {pins : List (Addr × Obj)} {xe : Value → Shared → Prop} {D : Ends} {f : Flow} {s1 : Shared} (ok : X.Ok) (h : SP (X.tr (X.pn ++ pins) xe) [] D f s1) : SP X pins D f s1 := by
  cases f with
  | next => obtain ⟨σ', H', J, q⟩ := h; exact ⟨σ', H', J.ofTry ok, q⟩
  | brk => obtain ⟨σ', H', J, q⟩ := h; exact ⟨σ', H', J.ofTry ok, q⟩
  | cont => obtain ⟨σ', H', J, q⟩ := h; exact ⟨σ', H', J.ofTry ok, q⟩
  | ret u => obtain ⟨v, σ', H', J, r, q⟩ := h; exact ⟨v, σ', H', J.ofTry ok, r, q⟩
theorem ps_try_ex (hs : X.stack = X.env :: X.outer) (hf : X.env.frame = some X.env.locals) (hN : X.N.Nodup) (tk : L2N.Takes X Wout)
    (hb : ∀ (W : WX) (pn : List (Addr × Obj)) (xe : Value → Shared → Prop), L2N.Takes (X.tr pn xe) W → PassesOwn (model X.prog X.w) X.A X.env xe → PSs (X.tr pn xe) body (tb W))
    (hh : HxOk X (h₀ :: hds) l) : PS X (.Try body (h₀ :: hds) [] [] pos) (fun D σ H => tb (wEx X.K Wout D l) D σ H) := by
  refine ⟨fun pins s σ H D I h => ?_⟩
  have ok := I.ok
  have hfr : X.A.frames = some (X.env :: X.outer) := by rw [ok.frames, hs]
  refine wpAny_Try_except ?_
  refine wpAny_mono ((hb (wEx X.K Wout D l) (X.pn ++ pins) (fun e s₁ => wpAny (model X.prog X.w) X.A (noteFrame e X.env) (fun _ s₂ => wpAny (model X.prog X.w) X.A (setFlight e none) (fun _ s₃ =>
    wpAny (model X.prog X.w) X.A (handleBy e X.env (h₀ :: hds)) (SP X pins D) X.xe s₃) X.xe s₂) X.xe s₁) (fun u s' xx => ?_) PassesOwn.looking).run [] s σ H D (I.toTry _) h) (fun f s1 hsp => ?_) (fun e s1 he => he)
  · obtain ⟨a, B, sI, pins', σ', H', cls, d, rfl, J', nb, up, sky, na, os, ag, w⟩ := xx
    have J : Inv X pins σ' H' sI := J'.ofTry ok
    have sky' : Sky B (X.env :: X.outer) a (L2N.Zn cls d) X.env.locals s'.heap := by rw [← hs]; exact sky
    show wpAny (model X.prog X.w) X.A (noteFrame (.ref a) X.env) _ _ _
    refine L2N.Sky.land L2N.Zn.steady hfr hf sky' fun h3 fl3 up3 => ?_
    have J3 : Inv X pins σ' H' { s' with heap := h3 } := J.landed nb fl3.1 (up.trans up3) os ag
    obtain ⟨oe3, vs3, he3, hz3, hd3⟩ := fl3.there
    have nfr : a ∉ frs (X.env :: X.outer) := fun hm => by
      obtain ⟨_, o', e', hnf⟩ := fl3.2.2.1.mem hm
      rw [he3] at e'; cases e'
      exact hnf _ hd3
    have nL : a ≠ X.env.locals := fun z => nfr (List.mem_filterMap.mpr ⟨X.env, List.mem_cons_self, by rw [hf, z]⟩)
    have nF : a ∉ X.fs := fun hm => by
      obtain ⟨e, he, q⟩ := List.mem_filterMap.mp hm
      exact nfr (List.mem_filterMap.mpr ⟨e, List.mem_cons_of_mem _ he, q⟩)
    have S3 := J3.suite he3 hd3 na nL nF
    have test : ∀ {x : Str} {c : Value} {np : Pos} {Q : Value → Shared → Prop} {E : Value → Shared → Prop}, Names X x c → Q c { s' with heap := h3 } → wpAny (model X.prog X.w) (X.A.mark (some (.ref a))) (eval (.Name x np) X.env) Q E { s' with heap := h3 } := fun {x c np Q E} hc q => by
      obtain ⟨hg, hdbg, hm | ⟨hm, hv, hnn⟩⟩ := hc
      · exact ld_glob (X := X.suite a ((a, oe3) :: (X.pn ++ pins))) S3 hg hm q hdbg
      · exact ld_blt (X := X.suite a ((a, oe3) :: (X.pn ++ pins))) S3 hg hm hv q hnn hdbg
    have LT : PySem.W.Looks (model X.prog X.w) h3 (typeOf (.ref a)) cls := fun A Q E s k q => wpAny_typeOf_ref (k _ _ he3) (by rw [hz3.1]; exact q)
    have go : ∀ {hds' : List ExceptHandler} {l' : List (Value × Option Nat × HTs)}, HxOk X hds' l' → wEx X.K Wout D l' cls d σ' H' →
        wpAny (model X.prog X.w) X.A (handleBy (.ref a) X.env hds') (SP X pins D) X.xe { s' with heap := h3 } := by
      intro hds' l' hk
      induction hk with
      | nil =>
        intro w
        refine wpAny_handleBy_nil ?_
        obtain ⟨k1, k2, k3, oe, vs, T, oT, ts', he, hz, hd, h1, hr⟩ := id fl3
        unfold PySem.passOn
        refine wpAny_bind (wpAny_field he hd h1 ?_)
        rw [if_neg (show ¬ ((Value.ref T == Value.none) = true) from by simp)]
        have fin : wpAny (model X.prog X.w) X.A (setFlight (.ref a) X.env.frame) (fun _ s4 => wpAny (model X.prog X.w) X.A (throw (.ref a) : Sem Flow) (SP X pins D) X.xe s4) X.xe { s' with heap := h3 } := by
          rw [hf]
          refine HandSPX.setFlight_upZ fl3 fun h4 hh4 up4 => wpAny_throw (tk _ _ ?_)
          exact ⟨a, B, sI, pins, σ', H', cls, d, rfl, J, nb, (up.trans up3).trans up4, .inr (.inr (by rw [hs]; exact hh4)), na, os, ag, w⟩
        first
          | exact wpAny_bind (wpAny_pure (wpAny_bind fin))
          | exact wpAny_bind fin
      | @plain x c ts b₀ suite np pos' hds2 l2 hc hsu r ih =>
        rintro ⟨b, hb1, hyes, hno⟩
        refine wpAny_handleBy_cons (codeAny_handlers_test ?_) (by intro q; cases q)
        refine test hc ((PySem.W.exm_one (M := model X.prog X.w) (J3.kIn) LT hb1).here ?_)
        cases b with
        | true =>
          refine codeAny_handlers_suite ?_
          refine HandSPX.lands_againZ fl3 fun h4 fl4 up4 => ?_
          have J4 : Inv X pins σ' H' { s' with heap := h4 } := J.landed nb fl4.1 ((up.trans up3).trans up4) os ag
          obtain ⟨oe4, vs4, he4, hz4, hd4⟩ := fl4.there
          have S4 := J4.suite he4 hd4 na nL nF
          refine wpAny_mono ((hsu a oe4 cls d (X.pn ++ pins) hz4 ⟨_, hd4⟩).run [] _ _ H' _ S4 (hyes rfl a na)) (fun f s6 hsp => ?_) (fun _ _ z => False.elim z)
          cases f with
          | next => obtain ⟨σ6, H6, S6, q6⟩ := hsp; exact ⟨_, _, S6.unsuite ok, q6⟩
          | brk => obtain ⟨σ6, H6, S6, q6⟩ := hsp; exact ⟨_, _, S6.unsuite ok, q6⟩
          | cont => obtain ⟨σ6, H6, S6, q6⟩ := hsp; exact ⟨_, _, S6.unsuite ok, q6⟩
          | ret u => obtain ⟨v6, σ6, H6, S6, r6, q6⟩ := hsp; exact ⟨_, _, _, S6.unsuite ok, r6, q6⟩
        | false =>
          show wpAny _ X.A (handleBy (.ref a) X.env hds2) _ _ _
          exact ih (hno rfl)
      | @named x n c i ts b₀ suite np pos' hds2 l2 hc hi hln hsu r ih =>
        rintro ⟨b, hb1, hyes, hno⟩
        refine wpAny_handleBy_cons (codeAny_handlers_test ?_) (by intro q; cases q)
        refine test hc ((PySem.W.exm_one (M := model X.prog X.w) (J3.kIn) LT hb1).here ?_)
        cases b with
        | true =>
          refine codeAny_handlers_suite_as ?_
          refine HandSPX.lands_againZ fl3 fun h4 fl4 up4 => ?_
          have J4 : Inv X pins σ' H' { s' with heap := h4 } := J.landed nb fl4.1 ((up.trans up3).trans up4) os ag
          obtain ⟨oe4, vs4, he4, hz4, hd4⟩ := fl4.there
          have S4 := J4.suite he4 hd4 na nL nF
          refine store_ok (X := X.suite a ((a, oe4) :: (X.pn ++ pins))) (v := .ref a) S4 hN hi (.inl hln) rfl (fun s5 S5 => ?_) (.inr hln)
          refine wpAny_mono ((hsu a oe4 cls d (X.pn ++ pins) hz4 ⟨_, hd4⟩).run [] s5 _ H' _ S5 (hyes rfl a na)) (fun f s6 hsp => ?_) (fun _ _ z => False.elim z)
          have end_ : ∀ {σ6 : L2.St} {H6 : Hp} {Q : Shared → Prop}, Inv (X.suite a ((a, oe4) :: (X.pn ++ pins))) [] σ6 H6 s6 → (∀ s7, Inv X pins (σ6.set i none) H6 s7 → Q s7) →
              wpAny (model X.prog X.w) X.A (do bindName X.env n .none; unbindBehindTheSuite X.env n pos') (fun _ s7 => Q s7) X.xe s6 := fun {σ6 H6 Q} S6 hq => gone_ok (S6.unsuite ok) hN hi hln hq
          cases f with
          | next => obtain ⟨σ6, H6, S6, q6⟩ := hsp; exact end_ S6 fun s7 J7 => ⟨_, _, J7, q6⟩
          | brk => obtain ⟨σ6, H6, S6, q6⟩ := hsp; exact end_ S6 fun s7 J7 => ⟨_, _, J7, q6⟩
          | cont => obtain ⟨σ6, H6, S6, q6⟩ := hsp; exact end_ S6 fun s7 J7 => ⟨_, _, J7, q6⟩
          | ret u => obtain ⟨v6, σ6, H6, S6, r6, q6⟩ := hsp; exact end_ S6 fun s7 J7 => ⟨_, _, _, J7, r6, q6⟩
        | false =>
          show wpAny _ X.A (handleBy (.ref a) X.env hds2) _ _ _
          exact ih (hno rfl)
    exact go hh w
  · have b := sp_back ok hsp
    cases f with
    | next => exact wpAny_execs_nil b
    | brk => exact b
    | cont => exact b
    | ret u => exact b
end
end Ev

set_option Elab.async false
set_option linter.all false
set_option maxRecDepth 100000
set_option maxHeartbeats 2000000
namespace Ev
open PySem PySem.Spec PyProof.Rows L2
/-! ### the classes of exceptions -/
structure ExcOk (K : PySem.W.Frag) (mg : Str → Option Value) (cs : List Str) : Prop where
  oex : ∀ c ∈ cs, OexC K (He.ga K c)
  xf : ∀ c ∈ cs, XfC K (He.ga K c)
  nov : ∀ c ∈ cs, PySem.W.findIn K (.ref (He.ga K c)) "value" = some none
  ini : ∀ c ∈ cs, PySem.W.findIn K (.ref (He.ga K c)) "__init__" = some (some (.ref (He.fAd K iniP)))
  ity : PySem.W.typeIn K (.ref (He.fAd K iniP)) = some (.type "function")
  glo : ∀ c ∈ cs, mg c = some (.ref (He.ga K c))
  exm : ∀ c ∈ cs, ∀ h ∈ cs, PySem.W.exmOne K (.ref (He.ga K c)) (.ref (He.ga K h)) = some (subE c h)
theorem oexB_ok {K : PySem.W.Frag} {C : Addr} (h : oexB K C = true) : ∃ nm q N bs bm sn sub ab col dd k0 k1 k2 k3 k5, K.lookup C = some (excClassObj nm q C N bs bm true sn sub ab col dd k0 k1 k2 k3 k5 "ValueError.__new__") ∧ PySem.HandSPX.refsVE bm = true := by
  unfold oexB at h
  split at h
  · rename_i t dd cd sl ho
    split at h
    · rename_i C' bm k0 k1 k2 k3 n k5 hm hs
      simp only [Bool.and_eq_true, decide_eq_true_eq, Bool.not_eq_true'] at h
      obtain ⟨rfl, rfl, rfl, hdel, hdict, hr⟩ := h
      obtain ⟨nm, bs, mro, ns, qn, hd, sn, sub, ab, col, del⟩ := cd
      dsimp only at hm hdel hdict
      subst hm hdel hdict
      obtain ⟨l⟩ := sl
      simp only at hs
      subst hs
      exact ⟨nm, qn, ns, bs, bm, sn, sub, ab, col, dd, k0, k1, k2, k3, k5, ho, hr⟩
    · cases h
  · cases h
theorem exB_ok {K : PySem.W.Frag} {h : Heap} {mg : Str → Option Value} {cs : List Str} (X : K.In h) (G : h.Ns mainGlobals mg) (q : exB cs K = true) : ExcOk K mg cs := by
  obtain ⟨q0, q⟩ := He.ba q
  have q1 := fun c (hc : c ∈ cs) => List.all_eq_true.mp q c hc
  unfold exB1 at q1
  have z := fun c hc => by
    obtain ⟨a1, w⟩ := He.ba (q1 c hc)
    obtain ⟨a2, w⟩ := He.ba w
    obtain ⟨a3, w⟩ := He.ba w
    obtain ⟨a4, w⟩ := He.ba w
    obtain ⟨a5, w⟩ := He.ba w
    obtain ⟨a6, w⟩ := He.ba w
    obtain ⟨a7, w⟩ := He.ba w
    obtain ⟨a8, w⟩ := He.ba w
    obtain ⟨a9, a10⟩ := He.ba w
    exact And.intro (OexC.mk (oexB_ok a1) (He.eqO_ok a2) (of_decide_eq_true a3) (of_decide_eq_true a4) a5) (And.intro (xfB_ok a6) (And.intro (He.eqO_ok a7) (And.intro (He.eqO_ok a8) (And.intro (He.glo_ok X G a9) fun h (hh : h ∈ cs) => of_decide_eq_true (List.all_eq_true.mp a10 h hh)))))
  exact ⟨fun c hc => (z c hc).1, fun c hc => (z c hc).2.1, fun c hc => (z c hc).2.2.1, fun c hc => (z c hc).2.2.2.1, of_decide_eq_true q0, fun c hc => (z c hc).2.2.2.2.1, fun c hc => (z c hc).2.2.2.2.2⟩
/-! ### __init__ -/
def spI (K : PySem.W.Frag) : Sp := fun vs H Q _ => ∃ (a C : Addr) (y : V), vs = [.ref a, y] ∧ OexC K C ∧ PySem.W.findIn K (.ref C) "value" = some none ∧ H a = some (exo a C none) ∧
  ∀ dx, H dx = none → dx ≠ a → Q .non (upd (upd H dx (exd dx [("value", y)])) a (exo a C (some dx)))
theorem ini_ok {P : Program} {w : World} {K : PySem.W.Frag} {mg : Str → Option Value} {base : Heap} {params : Arguments} {body : List Stmt} {scope : Scope} {f : Addr} {fd : FuncData} {p1 p2 p3 p4 : Pos}
    (Fn : FunD K "__init__" "ThreadError.__init__" params body scope [] [] f fd) (S : FnScope ["self", "value"] ["self", "value"] scope) (eb : body = [.Assign [.Attribute (.Name "self" p1) "value" p2] (.Name "value" p3) p4])
    (h0 : scope.names.lookup ("self" : Str) = some .local) (h1 : scope.names.lookup ("value" : Str) = some .local) :
    FnOk P w K mg base (L2N.CX P w) 1 f fd ["self", "value"] (spI K) := by
  subst eb
  refine Fn.ok S (fun vs H Q E ⟨a, C, y, e, _⟩ => by rw [e]; rfl) fun cdv A outer s H vs Q E hr ⟨a, C, y, ev, T, no, ea, q⟩ => ?_
  subst ev
  refine ⟨_, pss_cons (ps_ost (pe_var (i := 0) rfl (.inl h0)) (pe_var (i := 1) rfl (.inl h1))) pss_nil, ?_⟩
  exact ⟨y, rfl, .ref a, rfl, a, C, rfl, T, no, .inl ⟨ea, fun dx n ne => q dx n ne⟩⟩
/-! ### C(e) -/
section
variable {X : Cx} {W : WX} {B : Bd} {pos : Pos}
theorem pmk_exN {CX : CXT} {x : Str} {e : Expr} {es : List Expr} {ta : TA} {p : Pos} {C fI : Addr} {k : Nat} {fd : FuncData} {ps : List Str} {sp : Sp} (T : OexC X.K C) (iC : PySem.W.findIn X.K (.ref C) "__init__" = some (some (.ref fI))) (tI : PySem.W.typeIn X.K (.ref fI) = some (.type "function"))
    (F1 : FnOk X.prog X.w X.K X.mg X.base CX k fI fd ps sp) (hr : Room (k + 1) X.A) (hb : Binds X.K fd ps []) (hx : Passes CX X (fun _ _ _ => False)) (hg : Gl X x) (hm : X.mg x = some (.ref C)) (ha : PA X (e :: es) ta)
    (hdb : (x == ("__debug__" : Str)) = false := by decide) (he : starEach (e :: es) X.env = (false, eval e X.env) :: starEach es X.env := by rfl) (hpl : (backTo pos (starEach es X.env)).any (·.1) = false := by rfl) :
    L2N.PMk X (.Call (.Name x p) (e :: es) [] pos) (tMkO C sp [] ta) := by
  intro pins s σ H Q I h
  obtain ⟨nm, q, N, bs, bm, sn, sub, ab, col, dd, k0, k1, k2, k3, k5, hC, hbm⟩ := T.cls
  refine wpAny_Call_Name_kw (ld_glob I hg hm ?_ hdb)
  refine PySem.W.callWith_K (h₀ := X.base) I.ok.mod.kin T.kC (thn (ha.run pos pins s σ H _ I h) fun us s1 ⟨vs, H1, I1, r1, hz, q1⟩ => ⟨I1.kIn, ?_⟩) he hpl
  show wpAny _ _ (call (.ref C) us) _ _ _
  obtain ⟨hp, g, dr, tk, os⟩ := s1
  have hsz : hp.objs.size ≤ hp.objs.size + 1 := Nat.le_succ _
  have hq := q1 (hp.objs.size + 1) (I1.hok.fresh hsz)
  rw [List.append_nil] at hq
  have kk : ∀ b o, hp.get? b = some o → ((hp.push (PySem.W.kdv_tup us)).push (PySem.HandSPX.excO C hp.objs.size)).get? b = some o := fun b o e => Heap.get?_push_of_some _ (Heap.get?_push_of_some _ e)
  have hget : ((hp.push (PySem.W.kdv_tup us)).push (PySem.HandSPX.excO C hp.objs.size)).get? (hp.objs.size + 1) = some (PySem.HandSPX.excO C hp.objs.size) := by heap_get
  have I2 : Inv X pins σ (upd H1 (hp.objs.size + 1) (exo (hp.objs.size + 1) C none)) ⟨(hp.push (PySem.W.kdv_tup us)).push (PySem.HandSPX.excO C hp.objs.size), g, dr, tk, os⟩ :=
    I1.laid (t' := tk) (a := hp.objs.size + 1) (o := exo (hp.objs.size + 1) C none) (h' := (hp.push (PySem.W.kdv_tup us)).push (PySem.HandSPX.excO C hp.objs.size)) kk hsz (exo_ok hget)
  have r2 : Vals (V.ref (hp.objs.size + 1) :: vs) (Value.ref (hp.objs.size + 1) :: us) := .cons rfl r1
  have hl : (Value.ref (hp.objs.size + 1) :: us).length = ps.length := (F1.len _ _ _ _ hq).symm ▸ r2.length.symm
  have hus : us.length ≤ sizeLine := by
    rw [← Paired.length r1, sizeLine_eq]
    omega
  have b2 := hb _ (Value.ref (hp.objs.size + 1) :: us) I2.kIn (by rw [List.append_nil]; exact hl)
  rw [List.append_nil] at b2
  refine wpAny_call (PySem.HandSPX.call_own F.excBase_ValueError (fun Y => PySem.HandSPX.refsVE_contains Y bm hbm) (I1.kIn _ _ hC) (PySem.W.looks_findIn I1.kIn iC) (fun self => PySem.W.bind_fn I1.kIn self tI) hus
    (codeAny_mono (F1.run _ X.stack _ _ ⟨Value.ref (hp.objs.size + 1) :: us, []⟩ (Value.ref (hp.objs.size + 1) :: us) _ _ (fun _ _ _ => False) (hr.make C us []) (I2.env0.make C us []) b2 r2 hq) fun r s' hq' => ?_))
  cases r with
  | error er => exact hx pins σ _ _ er s' I2 hq'
  | ok fl =>
    cases fl with
    | ret u =>
      obtain ⟨v, H2, os2, bare2, un2, hok2, rv, ev, d, fs, ea, ed, hd1, q2⟩ := hq'
      subst ev
      obtain ⟨h2, g2, d2, t2, os'⟩ := s'
      obtain ⟨t0, G, J, kG, ge, hoe, na⟩ := mk_end0 (d2 := d2) (t2 := t2) I1 hsz kk un2 hok2 os2 bare2 ea ed hd1
      exact ⟨rv, hp.objs.size + 1, _, _, ⟨G, g2, d2, t2, os'⟩, _, .ref C, some d, rfl, J, kG, ge, hoe, ⟨rfl, rfl, fun vs hv => by cases hv; rfl⟩, rfl, rfl, na, rfl, bare2, raises_own T.exC T.tyC, q2⟩
    | next => exact False.elim hq'
    | brk => exact False.elim hq'
    | cont => exact False.elim hq'
/-! ### raise -/
def sRaise (c : Str) (me : SemE) : SemS := fun e => (me e).bind fun r e1 => match r with
  | .r t => .exc c t e1
  | _ => .bad
theorem qraise {x : Str} {a : Expr} {ma : SemE} {p pos2 : Pos} {k : Nat} {fd : FuncData} {cs : List Str} (hc : X.calm = true) (tk : L2N.Takes X W) (Ex : ExcOk X.K X.mg cs) (hin : x ∈ cs)
    (F1 : FnOk X.prog X.w X.K X.mg X.base (L2N.CX X.prog X.w) k (He.fAd X.K iniP) fd ["self", "value"] (spI X.K)) (hr : Room (k + 1) X.A) (hb : Binds X.K fd ["self", "value"] []) (hg : Gl X x) (ha : QE X W a ma)
    (hdb : (x == ("__debug__" : Str)) = false := by decide) (he : starEach [a] X.env = (false, eval a X.env) :: starEach [] X.env := by rfl) (hpl : (backTo pos (starEach [] X.env)).any (·.1) = false := by rfl) :
    QS X W B (.Raise (some (.Call (.Name x p) [a] [] pos)) none pos2) (sRaise x ma) := by
  refine ps_mono (L2N.ps_raise hc tk (pmk_exN (Ex.oex x hin) (Ex.ini x hin) Ex.ity F1 hr hb (fun _ _ _ _ _ _ _ ⟨_, _, _, _, _, _, _, _, _, _, _, _, w⟩ => w.elim) hg (Ex.glo x hin) (pa_cons ha pa_nil he) hdb he hpl)) fun D σ H h => ?_
  obtain ⟨e, F, R, k, h⟩ := h
  refine tX_imp (tS_bind (rel := fun σ => OdR X.K σ) R k h) fun y H1 ⟨r, e1, F1, R1, S1, k1, O, h1⟩ => ?_
  cases r with
  | s i => exact h1.elim
  | b b => exact h1.elim
  | r t =>
    refine ⟨by simp, fun a ha => ⟨a, He.ga X.K x, y, rfl, Ex.oex x hin, Ex.nov x hin, upd_same, fun dx hdx ne => ⟨rfl, dx, [("value", y)], upd_same, ?_, ?_, ?_⟩⟩⟩
    · rw [upd_ne ne, upd_same]
    · rw [upd_ne ne] at hdx; exact hdx
    · have hd : H1 dx = none := by rw [upd_ne ne] at hdx; exact hdx
      have eq : upd (del (upd (upd (upd H1 a (exo a (He.ga X.K x) none)) dx (exd dx [("value", y)])) a (exo a (He.ga X.K x) (some dx))) a) dx (.xd [("value", y)]) = upd H1 dx (.xd [("value", y)]) := by
        funext b
        by_cases hb : b = dx
        · subst hb; rw [upd_same, upd_same]
        · rw [upd_ne hb, upd_ne hb]
          by_cases hba : b = a
          · subst hba; rw [del_same, ha]
          · rw [del_ne hba, upd_ne hba, upd_ne hb, upd_ne hba]
      rw [eq]
      exact h1 σ F1 _ _ _ (laid_own R1 hd) (k1.step (laid_own_step hd)) ⟨rfl, dx, y, rfl, upd_same, O⟩
end
end Ev

set_option Elab.async false
set_option linter.all false
set_option maxRecDepth 100000
set_option maxHeartbeats 2000000
namespace Ev
open PySem PySem.Spec PyProof.Rows L2
/-! ### try: the meaning -/
abbrev Hds := List (Str × Option Nat × (T → SemS))
/-- a suite lets nothing out -/
def calmO (o : Out Fl) : Out Fl := match o with
  | .exc _ _ _ => .bad
  | o => o
/-- the name i is unbound behind the suite -/
def offO (i : Nat) (o : Out Fl) : Out Fl := match o with
  | .ok f e => if isLent e i then .bad else .ok f (e.set i .un)
  | _ => .bad
def hrun (c : Str) (t : T) (e : En) : Hds → Out Fl
  | [] => .exc c t e
  | (h, none, m) :: r => if subE c h then calmO (m t e) else hrun c t e r
  | (h, some i, m) :: r => if subE c h then (if isLent e i || decide (e.length ≤ i) then .bad else offO i (m t (e.set i .un))) else hrun c t e r
def sTry (cs : List Str) (mb : SemS) (hs : Hds) : SemS := fun e => match mb e with
  | .exc c t e' => if cs.contains c then hrun c t e' hs else .bad
  | o => o
section
variable {K : PySem.W.Frag} {W : WX} {B : Bd} {e : En} {σ : Sg} {F H : Hp}
theorem any_un {i : Nat} {o : Option V} (R : Rel K e σ F H) (k : BOk B e σ F H) (h : e[i]? = some .un ∨ e.length ≤ i) : Rel K e (σ.set i o) F H ∧ BOk B e (σ.set i o) F H := by
  rcases h with h | h
  · have at2 : ∀ (j : Nat) (s : Sl), e[j]? = some s → s ≠ .un → (σ.set i o)[j]? = σ[j]? := fun j s hj ne => by
      have : i ≠ j := fun z => ne (by rw [← z, h] at hj; exact (Option.some.inj hj).symm)
      exact List.getElem?_set_ne this
    refine ⟨⟨R.sub, by simp [R.len], fun j s u h1 h2 => ?_, fun j j' l b l' b' p h1 h2 h3 h4 => ?_⟩, ⟨k.ff, k.keep, k.dom, fun j b p h1 h2 => ?_, fun j b h1 => ?_, fun j b h1 => ?_⟩⟩
    · cases s with
      | un => trivial
      | v t => rw [at2 j _ h1 (by simp)] at h2; exact R.at_ j _ u h1 h2
      | ow l b => rw [at2 j _ h1 (by simp)] at h2; exact R.at_ j _ u h1 h2
      | fz b => rw [at2 j _ h1 (by simp)] at h2; exact R.at_ j _ u h1 h2
    · rw [at2 j _ h1 (by simp)] at h3; rw [at2 j' _ h2 (by simp)] at h4; exact R.ne j j' l b l' b' p h1 h2 h3 h4
    · rw [at2 j _ h1 (by simp)] at h2; exact k.fresh j b p h1 h2
    · rw [at2 j _ h1 (by simp)]; exact k.own j b h1
    · obtain ⟨⟨b', l⟩, q⟩ := k.lent j b h1
      refine ⟨⟨b', l⟩, ?_⟩
      rcases l with l | l
      · rw [at2 j _ l (by simp)]; exact q
      · rw [at2 j _ l (by simp)]; exact q
  · have : σ.set i o = σ := List.set_eq_of_length_le (by rw [← R.len]; exact h)
    rw [this]; exact ⟨R, k⟩
/-- the reading of a suite: i is the name that holds the exception -/
def tXs (K : PySem.W.Frag) (B : Bd) (oi : Option Nat) (cs : List Str) (m : T → SemS) : HTs := fun a cls d D σ H => ∃ (e : En) (F : Hp) (c : Str) (t : T), c ∈ cs ∧ Rel K e σ F H ∧ BOk B e σ F H ∧ ExR K F H c t cls d ∧
  (∀ i, oi = some i → e[i]? = some .un ∧ σ[i]? = some (some (.ref a))) ∧ OutS K W0 B (m t e) D
def hdR (K : PySem.W.Frag) (B : Bd) (cs : List Str) (p : Str × Option Nat × (T → SemS)) : Value × Option Nat × HTs := (.ref (He.ga K p.1), p.2.1, tXs K B p.2.1 cs p.2.2)
theorem outS_calm {o : Out Fl} {D : Ends} (h : OutS K W B (calmO o) D) : OutS K W0 B o D := by
  cases o with
  | ok f e => cases f <;> exact h
  | exc c t e => exact h.elim
  | bad => exact h.elim
theorem outS_off {i : Nat} {o : Out Fl} {D : Ends} (h : OutS K W B (offO i o) D) : OutS K W0 B o (offD i D) := by
  cases o with
  | bad => exact h.elim
  | exc c t e => exact h.elim
  | ok f e =>
    unfold offO at h
    by_cases l : isLent e i = true
    · simp only [l, if_true] at h; exact h.elim
    · have l' : isLent e i = false := by simpa using l
      simp only [l', Bool.false_eq_true, if_false] at h
      have un : (e.set i Sl.un)[i]? = some Sl.un ∨ (e.set i Sl.un).length ≤ i := by
        by_cases z : i < e.length
        · exact .inl (List.getElem?_set_self z)
        · exact .inr (by simpa using z)
      have go : ∀ {σ : Sg} {F H : Hp}, Rel K e σ F H → BOk B e σ F H → Rel K (e.set i .un) (σ.set i none) F H ∧ BOk B (e.set i .un) (σ.set i none) F H := fun R k => by
        obtain ⟨R2, k2⟩ := set_un R k (isLent_no l')
        exact any_un R2 k2 un
      cases f with
      | nx => exact fun σ' F' H' R k => h _ F' H' (go R k).1 (go R k).2
      | bk => exact fun σ' F' H' R k => h _ F' H' (go R k).1 (go R k).2
      | ct => exact fun σ' F' H' R k => h _ F' H' (go R k).1 (go R k).2
      | rt r => exact fun x σ' F' H' R k o => h x σ' F' H' (set_un R k (isLent_no l')).1 (set_un R k (isLent_no l')).2 o
theorem wEx_of {mg : Str → Option Value} {cs : List Str} {c : Str} {t : T} {D : Ends} {cls : Value} {d : Option Addr} (Ex : ExcOk K mg cs) (hc : c ∈ cs) (R : Rel K e σ F H) (k : BOk B e σ F H) (x : ExR K F H c t cls d) :
    ∀ hs : Hds, (∀ p ∈ hs, p.1 ∈ cs) → OutS K W B (hrun c t e hs) D → wEx K W D (hs.map (hdR K B cs)) cls d σ H
  | [], _, h => h σ F H cls d R k x
  | (n, none, m) :: r, hin, h => by
    have e1 : cls = .ref (He.ga K c) := x.1
    refine ⟨subE c n, by rw [e1]; exact Ex.exm c hc n (hin _ List.mem_cons_self), fun y a na => ?_, fun y => ?_⟩
    · unfold hrun at h; rw [if_pos y] at h
      exact ⟨e, F, c, t, hc, R, k, x, (fun i z => nomatch z), outS_calm h⟩
    · unfold hrun at h; rw [if_neg (by rw [y]; exact Bool.false_ne_true)] at h
      exact wEx_of Ex hc R k x r (fun p hp => hin p (List.mem_cons_of_mem _ hp)) h
  | (n, some i, m) :: r, hin, h => by
    have e1 : cls = .ref (He.ga K c) := x.1
    refine ⟨subE c n, by rw [e1]; exact Ex.exm c hc n (hin _ List.mem_cons_self), fun y a na => ?_, fun y => ?_⟩
    · unfold hrun at h; rw [if_pos y] at h
      by_cases q : (isLent e i || decide (e.length ≤ i)) = true
      · rw [if_pos q] at h; exact h.elim
      · rw [if_neg q] at h
        have q' : isLent e i = false ∧ i < e.length := by
          simp only [Bool.or_eq_true, decide_eq_true_eq, not_or] at q
          exact ⟨by simpa using q.1, by omega⟩
        obtain ⟨R2, k2⟩ := set_un R k (isLent_no q'.1)
        have un : (e.set i Sl.un)[i]? = some Sl.un := List.getElem?_set_self q'.2
        obtain ⟨R3, k3⟩ := any_un (o := some (V.ref a)) R2 k2 (.inl un)
        exact ⟨e.set i .un, F, c, t, hc, R3, k3, x, fun j z => by
          cases z
          exact ⟨un, List.getElem?_set_self (by rw [← R.len]; exact q'.2)⟩, outS_off h⟩
    · unfold hrun at h; rw [if_neg (by rw [y]; exact Bool.false_ne_true)] at h
      exact wEx_of Ex hc R k x r (fun p hp => hin p (List.mem_cons_of_mem _ hp)) h
end
section
variable {X : Cx} {W : WX} {B : Bd} {pos : Pos}
/-- the clauses and their meanings -/
inductive HqOk (X : Cx) (B : Bd) (cs : List Str) : List ExceptHandler → Hds → Prop
  | nil : HqOk X B cs [] []
  | plain {x : Str} {m : T → SemS} {b₀ : Stmt} {suite : List Stmt} {np pos' : Pos} {hds : List ExceptHandler} {l : Hds} (hx : x ∈ cs) (hg : Gl X x) (hsu : SuOk X (b₀ :: suite) (tXs X.K B none cs m)) (r : HqOk X B cs hds l)
      (hdb : (x == ("__debug__" : Str)) = false := by decide) : HqOk X B cs (.ExceptHandler (some (.Name x np)) none (b₀ :: suite) pos' :: hds) ((x, none, m) :: l)
  | named {x n : Str} {i : Nat} {m : T → SemS} {b₀ : Stmt} {suite : List Stmt} {np pos' : Pos} {hds : List ExceptHandler} {l : Hds} (hx : x ∈ cs) (hg : Gl X x) (hi : X.N[i]? = some n) (hln : X.env.kindOf n = some .local)
      (hsu : SuOk X (b₀ :: suite) (tXs X.K B (some i) cs m)) (r : HqOk X B cs hds l) (hdb : (x == ("__debug__" : Str)) = false := by decide) :
      HqOk X B cs (.ExceptHandler (some (.Name x np)) (some n) (b₀ :: suite) pos' :: hds) ((x, some i, m) :: l)
theorem HqOk.hx {cs : List Str} (Ex : ExcOk X.K X.mg cs) {hds : List ExceptHandler} {l : Hds} (h : HqOk X B cs hds l) : HxOk X hds (l.map (hdR X.K B cs)) ∧ ∀ p ∈ l, p.1 ∈ cs := by
  induction h with
  | nil => exact ⟨.nil, fun p hp => by cases hp⟩
  | plain hx hg hsu r hdb ih => exact ⟨.plain ⟨hg, hdb, .inl (Ex.glo _ hx)⟩ hsu ih.1, fun p hp => by
      rcases List.mem_cons.mp hp with rfl | hp
      · exact hx
      · exact ih.2 p hp⟩
  | named hx hg hi hln hsu r hdb ih => exact ⟨.named ⟨hg, hdb, .inl (Ex.glo _ hx)⟩ hi hln hsu ih.1, fun p hp => by
      rcases List.mem_cons.mp hp with rfl | hp
      · exact hx
      · exact ih.2 p hp⟩
theorem qtry {body : List Stmt} {h₀ : ExceptHandler} {hds : List ExceptHandler} {mb : SemS} {l : Hds} {cs : List Str} (hs : X.stack = X.env :: X.outer) (hf : X.env.frame = some X.env.locals) (hN : X.N.Nodup) (tk : L2N.Takes X W) (Ex : ExcOk X.K X.mg cs)
    (hb : ∀ (W' : WX) (pn : List (Addr × Obj)) (xe : Value → Shared → Prop), L2N.Takes (X.tr pn xe) W' → PassesOwn (model X.prog X.w) X.A X.env xe → QSs (X.tr pn xe) W' B body mb)
    (hh : HqOk X B cs (h₀ :: hds) l) : QS X W B (.Try body (h₀ :: hds) [] [] pos) (sTry cs mb l) := by
  obtain ⟨hx, hin⟩ := hh.hx Ex
  refine ps_mono (ps_try_ex hs hf hN tk (tb := fun W' => tS X.K W' B mb) (fun W' pn xe t p => hb W' pn xe t p) hx) fun D σ H h => ?_
  obtain ⟨e, F, R, k, h⟩ := h
  refine ⟨e, F, R, k, ?_⟩
  unfold sTry at h
  cases q : mb e with
  | bad => rw [q] at h; exact h.elim
  | ok f e' => rw [q] at h; cases f <;> exact h
  | exc c t e' =>
    rw [q] at h
    by_cases z : cs.contains c = true
    · have hc : c ∈ cs := by simpa using z
      have h : OutS X.K W B (hrun c t e' l) D := by
        have h2 : OutS X.K W B (if cs.contains c = true then hrun c t e' l else .bad) D := h
        rwa [if_pos z] at h2
      exact fun σ' F' H' cls d R' k' x => wEx_of Ex hc R' k' x l hin h
    · have h2 : OutS X.K W B (if cs.contains c = true then hrun c t e' l else .bad) D := h
      rw [if_neg z] at h2
      exact h2.elim
/-! ### suites -/
/-- a suite that doesn't look at the exception -/
theorem su_plain {suite : List Stmt} {oi : Option Nat} {cs : List Str} {m : SemS} (h : ∀ (a : Addr) (pn : List (Addr × Obj)), QSs (X.suite a pn) W0 B suite m) : SuOk X suite (tXs X.K B oi cs fun _ => m) :=
  fun a oe cls d pn hz hf => pss_mono (h a ((a, oe) :: pn)) fun D σ H ⟨e, F, c, t, hc, R, k, x, hi, o⟩ => ⟨e, F, R, k, o⟩
theorem su_class {suite : List Stmt} {oi : Option Nat} {cs : List Str} {m : T → SemS} (h : ∀ (c : Str), c ∈ cs → ∀ (a : Addr) (oe : Obj) (d : Option Addr) (pn : List (Addr × Obj)), L2N.Zn (.ref (He.ga X.K c)) d oe → (∃ vs, oe.data = .fields vs) →
    PSs (X.suite a ((a, oe) :: pn)) suite (tXs X.K B oi cs m a (.ref (He.ga X.K c)) d)) : SuOk X suite (tXs X.K B oi cs m) := fun a oe cls d pn hz hf => by
  by_cases q : ∃ c ∈ cs, cls = .ref (He.ga X.K c)
  · obtain ⟨c, hc, rfl⟩ := q
    exact h c hc a oe d pn hz hf
  · exact pss_mono pss_never fun D σ H ⟨e, F, c, t, hc, R, k, x, hi, o⟩ => absurd ⟨c, hc, x.1⟩ q
/-- i, j = z, the exception's value -/
def sPut2 (i j : Nat) (z t : T) : SemS := fun e => if isLent e i || isLent e j then .bad else .ok .nx ((e.set i (.v z)).set j (.v t))
theorem su_par {i j k : Nat} {x y n : Str} {z : Str} {jz : Nat} {cs : List Str} {px py pt p2 p3 p4 p5 : Pos} {kt k2 : Nat} (Ex : ExcOk X.K X.mg cs) (hN : X.N.Nodup) (hi : X.N[i]? = some x) (hj : X.N[j]? = some y) (hk : X.N[k]? = some n) (hij : i ≠ j)
    (hx : X.env.scope.names.lookup x = some .local) (hy : X.env.scope.names.lookup y = some .local) (hn : X.env.scope.names.lookup n = some .local)
    (hw : swappedStores [.Tuple [.Name x px, .Name y py] kt pt] (.Tuple [.Constant (.str z) jz p2, .Attribute (.Name n p3) "value" p4] k2 p5) X.env = pure (some [x, y]))
    (hb : attributeBase (.Name n p3) "value" X.env (eval (.Name n p3) X.env) = eval (.Name n p3) X.env := by rfl)
    (hs : swapsWithSole [.Tuple [.Name x px, .Name y py] kt pt] (.Tuple [.Constant (.str z) jz p2, .Attribute (.Name n p3) "value" p4] k2 p5) pos.line X.env = pure false := by rfl) 
    (hd : (n == ("__debug__" : Str)) = false := by decide) (hcd : (n == ("__classdict__" : Str)) = false := by decide) :
    SuOk X [.Assign [.Tuple [.Name x px, .Name y py] kt pt] (.Tuple [.Constant (.str z) jz p2, .Attribute (.Name n p3) "value" p4] k2 p5) pos] (tXs X.K B (some k) cs (sPut2 i j (.str z))) := by
  refine su_class fun c hc a oe d pn hz hf => ?_
  have hot : L2H.HotC (X.suite a ((a, oe) :: pn)) := by
    obtain ⟨vs, hv⟩ := hf
    exact ⟨(a, oe), ⟨rfl, vs, hv, hz.2.2 vs hv⟩, List.mem_cons_self⟩
  have pv : PE (X.suite a ((a, oe) :: pn)) (.Name n p3) (tVar k) := pe_var hk (.inl hn) hd hcd
  have pat := pe_xf (pos := p4) (Ex.xf c hc) (Ex.nov c hc) hz.zc hf pv hb
  refine pss_mono (pss_cons (ps_par_hot (X := X.suite a ((a, oe) :: pn)) hot hN hi hj hij hx hy (pa_cons pe_str (pa_cons pat pa_nil)) hw hs) pss_nil) fun D σ H h => ?_
  obtain ⟨e, F, c', t, hc', R, kk, ex, hu, o⟩ := h
  obtain ⟨un, hσ⟩ := hu k rfl
  obtain ⟨ec, dx, v, ed, hdx, dv⟩ := ex
  refine ⟨.ref a, hσ, rfl, rfl, dx, [("value", v)], v, ed, hdx, by simp, ?_⟩
  refine ⟨_, _, rfl, ?_⟩
  unfold sPut2 at o
  by_cases q : (isLent e i || isLent e j) = true
  · rw [if_pos q] at o; exact o.elim
  · rw [if_neg q] at o
    have q' : isLent e i = false ∧ isLent e j = false := by simpa using q
    obtain ⟨R1, k1⟩ := set_v R kk (Dp.str z) (isLent_no q'.1)
    have l2 : isLent (e.set i (.v (.str z))) j = false := by
      unfold isLent at *
      rw [List.getElem?_set_ne hij]; exact q'.2
    obtain ⟨R2, k2⟩ := set_v R1 k1 dv (isLent_no l2)
    exact o _ _ _ R2 k2
end
end Ev

set_option Elab.async false
set_option linter.all false
set_option maxRecDepth 100000
namespace Ev
open PySem PySem.Spec PyProof.Rows L2
/-! ### a sign of a text by its place -/
/-! ### one sign that is not in a text -/
/-! ### the signs of a text, one by one -/
section
variable {X : Cx} {W : WX} {B : Bd} {a b c : Expr} {ma mb mc : SemE} {pos : Pos}
end
/-! ### a text some times -/
end Ev

set_option Elab.async false
set_option linter.all false
set_option maxRecDepth 100000
set_option maxHeartbeats 2000000
namespace Ev
open PySem PySem.Spec PyProof.Rows L2
/-! ### a test behind which a token is out -/
section
variable {X : Cx} {W : WX} {B : Bd} {a b c o : Expr} {ma mb mc mo mi : SemE} {pos : Pos} {t1 t2 : SemT}
/-! ### text.replace(y, [z1, z2, z3][i]) -/
end
end Ev

set_option Elab.async false
set_option linter.all false
set_option maxRecDepth 100000
namespace Ev
open PySem PySem.Spec PyProof.Rows L2
/-! ### text.partition(text) -/
end Ev

set_option Elab.async false
set_option linter.all false
set_option maxRecDepth 100000
namespace Ev
open PySem PySem.Spec PyProof.Rows L2
/-! ### a < b < c -/
section
variable {X : Cx} {W : WX} {a b c : Expr} {ma mb mc : SemE} {pos : Pos}
end
/-! ### min, max of a tuple -/
/-! ### repr of a tree, where no repr is under way -/
end Ev

set_option Elab.async false
set_option linter.all false
set_option maxRecDepth 100000
namespace Ev
open PySem PySem.Spec PyProof.Rows L2
/-! ### repr in QE -/
/-! ### a def that is called where no repr is under way -/
/-! ### the law is called where no repr is under way -/
section
variable {P : Program} {w : World} {K : PySem.W.Frag} {mg mb : Str → Option Value} {CX : CXT} {k : Nat} {fa a : Addr} {fd : FuncData} {x : Str} {sp : Sp} {z : Shared} {vs : List Value} {ns : List Int}
end
end Ev

set_option Elab.async false
set_option linter.all false
set_option maxRecDepth 100000
namespace Ev
open PySem PySem.Spec PyProof.Rows L2
/-! ### divmod by large numbers -/
/-! ### is True, is False -/
def gIsB (k : Bool → Bool) : T → T → Option Od
  | .bool a, .bool b => some (.r (.bool (k (decide (a = b)))))
  | _, _ => none
theorem does_isB {K : PySem.W.Frag} : Does2 K (fun x y H Q => ∃ a b : Bool, x = .bl a ∧ y = .bl b ∧ Q (.bl (decide (a = b))) H) (gIsB id) := by
  intro x y t u w F H Q ff dx dy h
  cases t with
  | bool a =>
    cases u with
    | bool b => cases h; cases dx; cases dy; exact ⟨trivial, fun q => ⟨a, b, rfl, rfl, q.1 _ (.bl _)⟩⟩
    | _ => cases h
  | _ => cases u <;> cases h
end Ev

set_option Elab.async false
set_option linter.all false
set_option maxRecDepth 100000
namespace Ev
open PySem PySem.Spec PyProof.Rows L2
/-! ### a list of lists of which single places are put otherwise -/
abbrev Gr := List (List T)
def Gr.t (g : Gr) : T := .list (g.map PyData.list)
structure Gw (K : PySem.W.Frag) (H0 F H : Hp) (D : Addr) (gs : Gr) (qs : List Addr) : Prop where
  len : qs.length = gs.length
  d0 : H0 D = none
  q0 : ∀ q ∈ qs, H0 q = none
  nd : qs.Nodup
  dq : D ∉ qs
  fd : F D = none
  fq : ∀ q ∈ qs, F q = none
  hd : H D = some (.lst (qs.map .ref))
  hq : ∀ (j : Nat) (q : Addr) (ts : List T), qs[j]? = some q → gs[j]? = some ts → ∃ vs, H q = some (.lst vs) ∧ DpAll K F vs ts
  up : ∀ a o, H0 a = some o → H a = some o
section
variable {K : PySem.W.Frag} {H0 F H F' H' : Hp} {D p q : Addr} {gs : Gr} {qs : List Addr}
theorem Gw.sm (g : Gw K H0 F H D gs qs) (h : q ∈ qs) : ∃ o, H q = some o := by
  obtain ⟨j, hj⟩ := List.getElem?_of_mem h
  have hl : j < gs.length := by rw [← g.len]; exact (List.getElem?_eq_some_iff.mp hj).1
  obtain ⟨vs, h1, _⟩ := g.hq j q _ hj (List.getElem?_eq_getElem hl)
  exact ⟨_, h1⟩
theorem Gw.on (g : Gw K H0 F H D gs qs) (ff : ∀ a o, F a = some o → F' a = some o) (k : ∀ a o, H a = some o → H' a = some o ∧ (F a = none → F' a = none)) : Gw K H0 F' H' D gs qs where
  len := g.len
  d0 := g.d0
  q0 := g.q0
  nd := g.nd
  dq := g.dq
  fd := (k _ _ g.hd).2 g.fd
  fq := fun q hq => by obtain ⟨o, ho⟩ := g.sm hq; exact (k _ _ ho).2 (g.fq q hq)
  hd := (k _ _ g.hd).1
  hq := fun j q ts h1 h2 => by
    obtain ⟨vs, h3, h4⟩ := g.hq j q ts h1 h2
    exact ⟨vs, (k _ _ h3).1, dpAll_mono ff h4⟩
  up := fun a o h => (k _ _ (g.up a o h)).1
/-- one more -/
theorem Gw.more {vs : List V} {row : List T} (g : Gw K H0 F H D gs qs) (p0 : H0 p = none) (pD : p ≠ D) (pq : ∀ q ∈ qs, q ≠ p) (hp : H p = some (.lst vs)) (fp : F p = none) (d : DpAll K F vs row) : Gw K H0 F (upd H D (.lst (qs.map .ref ++ [.ref p]))) D (gs ++ [row]) (qs ++ [p]) := by
  have Dq : ∀ q ∈ qs, q ≠ D := fun q hq e => g.dq (e ▸ hq)
  refine ⟨by simp [g.len], g.d0, fun q hq => ?_, ?_, fun h => ?_, g.fd, fun q hq => ?_, ?_, fun j q ts h1 h2 => ?_, fun a o h => ?_⟩
  · rcases List.mem_append.mp hq with h | h
    · exact g.q0 q h
    · rw [List.mem_singleton.mp h]; exact p0
  · exact List.nodup_append.mpr ⟨g.nd, by simp, fun a ha b hb => by rw [List.mem_singleton.mp hb]; exact pq a ha⟩
  · rcases List.mem_append.mp h with h | h
    · exact g.dq h
    · exact pD (List.mem_singleton.mp h).symm
  · rcases List.mem_append.mp hq with h | h
    · exact g.fq q h
    · rw [List.mem_singleton.mp h]; exact fp
  · rw [upd_same, List.map_append]; rfl
  · by_cases hj : j < qs.length
    · rw [List.getElem?_append_left hj] at h1
      rw [List.getElem?_append_left (by rw [← g.len]; exact hj)] at h2
      have m := List.mem_of_getElem? h1
      rw [upd_ne (Dq q m)]
      exact g.hq j q ts h1 h2
    · have hl : j < (qs ++ [p]).length := (List.getElem?_eq_some_iff.mp h1).1
      have ej : j = qs.length := by simp at hl; omega
      subst ej
      simp at h1
      rw [g.len] at h2
      simp at h2
      subst h1 h2
      exact ⟨vs, by rw [upd_ne pD]; exact hp, d⟩
  · have h' := g.up a o h
    have aD : a ≠ D := fun q => by subst q; rw [g.d0] at h; cases h
    rw [upd_ne aD]; exact h'
/-- one place of a row put otherwise -/
theorem Gw.put {m n : Nat} {row : List T} {vs : List V} {x : V} {t : T} (g : Gw K H0 F H D gs qs) (h1 : qs[m]? = some q) (h2 : gs[m]? = some row) (h3 : H q = some (.lst vs)) (d : Dp K F x t) : Gw K H0 F (upd H q (.lst (vs.set n x))) D (gs.set m (row.set n t)) qs := by
  have mq := List.mem_of_getElem? h1
  have hm : m < gs.length := (List.getElem?_eq_some_iff.mp h2).1
  refine ⟨by simp [g.len], g.d0, g.q0, g.nd, g.dq, g.fd, g.fq, ?_, fun j' q' ts' h4 h5 => ?_, fun a o h => ?_⟩
  · rw [upd_ne (fun e : D = q => g.dq (e ▸ mq))]; exact g.hd
  · by_cases e : j' = m
    · subst e
      rw [h1] at h4; cases h4
      rw [List.getElem?_set_self hm] at h5; cases h5
      obtain ⟨vs', h6, h7⟩ := g.hq _ q row h1 h2
      rw [h3] at h6; cases h6
      exact ⟨_, upd_same, dpAll_set d n h7⟩
    · rw [List.getElem?_set_ne (fun z => e z.symm)] at h5
      have ne : q' ≠ q := fun z => by
        subst z
        exact e ((List.getElem?_inj (List.getElem?_eq_some_iff.mp h4).1 g.nd).mp (h4.trans h1.symm))
      obtain ⟨vs', h6, h7⟩ := g.hq j' q' ts' h4 h5
      exact ⟨vs', by rw [upd_ne ne]; exact h6, h7⟩
  · have ne : a ≠ q := fun z => by subst z; rw [g.q0 _ mq] at h; cases h
    rw [upd_ne ne]; exact g.up a o h
end
/-- the state while the grid stands -/
structure GI (K : PySem.W.Frag) (B : Bd) (H0 F0 : Hp) (D : Addr) (i : Nat) (g : Gr) (qs : List Addr) (e : En) (σ : Sg) (F H : Hp) : Prop where
  hB : ∀ a, H0 a = none → B.H a = none
  p : plainE e = true
  R : Rel K e σ F H
  k : BOk B e σ F H
  f0 : ∀ a o, F0 a = some o → F a = some o
  s : σ[i]? = some (some (.ref D))
  w : Gw K H0 F H D g qs
section
variable {K : PySem.W.Frag} {W : WX} {B : Bd} {H0 F0 F H F1 H1 : Hp} {A : Addr} {i : Nat} {g : Gr} {qs : List Addr} {e e1 : En} {σ σ1 : Sg}
theorem GI.step (I : GI K B H0 F0 A i g qs e σ F H) (S : Step e e1 σ F H F1 H1) (R1 : Rel K e1 σ F1 H1) (p1 : plainE e1 = true) : GI K B H0 F0 A i g qs e1 σ F1 H1 :=
  ⟨I.hB, p1, R1, I.k.step S, fun a o h => S.ff _ _ (I.f0 _ _ h), I.s, I.w.on S.ff fun a o h => plain_step I.p S h⟩
theorem GI.base {F0' : Hp} (I : GI K B H0 F0 A i g qs e σ F H) (f : ∀ a o, F0' a = some o → F0 a = some o) : GI K B H0 F0' A i g qs e σ F H :=
  ⟨I.hB, I.p, I.R, I.k, fun a o h => I.f0 _ _ (f _ _ h), I.s, I.w⟩
end
abbrev SemGS := Gr → En → Option (Gr × En)
def tGS (K : PySem.W.Frag) (W : WX) (i : Nat) (m : SemGS) : TS := fun D σ H => ∃ B H0 F0 A g qs e F, GI K B H0 F0 A i g qs e σ F H ∧ ∃ g' e', m g e = some (g', e') ∧ ∀ σ' F' H', GI K B H0 F0 A i g' qs e' σ' F' H' → D.nx σ' H'
abbrev QGS (X : Cx) (W : WX) (i : Nat) (st : Stmt) (m : SemGS) : Prop := PS X st (tGS X.K W i m)
abbrev QGSs (X : Cx) (W : WX) (i : Nat) (st : List Stmt) (m : SemGS) : Prop := PSs X st (tGS X.K W i m)
section
variable {X : Cx} {W : WX} {i : Nat} {st : Stmt} {sts : List Stmt} {m1 m2 : SemGS} {pos : Pos}
def gNil : SemGS := fun g e => some (g, e)
def gSeq (m1 m2 : SemGS) : SemGS := fun g e => match m1 g e with
  | some (g1, e1) => m2 g1 e1
  | none => none
theorem qggnil : QGSs X W i [] gNil := pss_mono pss_nil fun D σ H h => by
  obtain ⟨B, H0, F0, A, g, qs, e, F, I, g', e', q, h⟩ := h
  cases q
  exact h _ _ _ I
theorem qggcons (h1 : QGS X W i st m1) (h2 : QGSs X W i sts m2) : QGSs X W i (st :: sts) (gSeq m1 m2) := by
  refine pss_mono (pss_cons h1 h2) fun D σ H h => ?_
  obtain ⟨B, H0, F0, A, g, qs, e, F, I, g', e', q, h⟩ := h
  unfold gSeq at q
  cases q1 : m1 g e with
  | none => rw [q1] at q; cases q
  | some p =>
    obtain ⟨g1, e1⟩ := p
    rw [q1] at q
    exact ⟨B, H0, F0, A, g, qs, e, F, I, g1, e1, q1, fun σ' F' H' I' => ⟨B, H0, F0, A, g1, qs, e1, F', I', g', e', q, h⟩⟩
theorem qggone (h1 : QGS X W i st m1) : QGSs X W i [st] m1 := pss_one h1
def gIf (c : SemT) (m1 m2 : SemGS) : SemGS := fun g e => match c e with
  | .ok k e1 => if plainE e1 = true then (if k then m1 g e1 else m2 g e1) else none
  | _ => none
theorem qggif {c : Expr} {mt : SemT} {s1 s2 : List Stmt} (hc : QT X W c mt) (h1 : QGSs X W i s1 m1) (h2 : QGSs X W i s2 m2) : QGS X W i (.If c s1 s2 pos) (gIf mt m1 m2) := by
  refine ps_mono (ps_if hc h1 h2) fun D σ H h => ?_
  obtain ⟨B, H0, F0, A, g, qs, e, F, I, g', e', q, h⟩ := h
  refine ⟨e, F, I.R, ?_⟩
  unfold gIf at q
  cases q1 : mt e with
  | bad => rw [q1] at q; cases q
  | exc _ _ _ => rw [q1] at q; cases q
  | ok k e1 =>
    simp only [q1] at q
    intro x F1 H1 R1 S1 ek
    subst ek
    by_cases p1 : plainE e1 = true
    · rw [if_pos p1] at q
      have I1 := I.step S1 R1 p1
      cases x with
      | true => exact ⟨B, H0, F0, A, g, qs, e1, F1, I1, g', e', q, h⟩
      | false => exact ⟨B, H0, F0, A, g, qs, e1, F1, I1, g', e', q, h⟩
    · rw [if_neg p1] at q; cases q
/-- target = value -/
def gAsg (gt : SemG) (ma : SemE) : SemGS := fun g e => match ma e with
  | .ok r e1 => (match esc r e1 with
    | some (t, e2) => if plainE e2 = true then (match gt t e2 with
      | some e3 => if plainE e3 = true then some (g, e3) else none
      | none => none) else none
    | none => none)
  | _ => none
theorem qggasg {ws : List Nat} {tg a : Expr} {gt : SemG} {ma : SemE} (hw' : i ∉ ws) (he : QE X W a ma) (hg : ∀ B, QG X B ws tg gt) (hs : swapsWithSole [tg] a pos.line X.env = pure false := by rfl) (hw : swappedStores [tg] a X.env = pure none := by rfl)
    (h1 : (assignEach [tg] X.env).map (·.2) = [assign tg X.env] := by rfl) : QGS X W i (.Assign [tg] a pos) (gAsg gt ma) := by
  refine ps_mono (ps_asg he (qg_any hg) hs hw h1) fun D σ H h => ?_
  obtain ⟨B, H0, F0, A, g, qs, e, F, I, g', e', q, h⟩ := h
  refine ⟨e, F, I.R, ?_⟩
  unfold gAsg at q
  cases q1 : ma e with
  | bad => rw [q1] at q; cases q
  | exc _ _ _ => rw [q1] at q; cases q
  | ok r e1 =>
    simp only [q1] at q
    intro x F1 H1 R1 S1 O
    cases q2 : esc r e1 with
    | none => simp only [q2] at q; cases q
    | some te =>
      obtain ⟨t, e2⟩ := te
      simp only [q2] at q
      obtain ⟨F2, R2, S2, d, _⟩ := esc_ok I.R R1 S1 O q2
      by_cases p2 : plainE e2 = true
      · rw [if_pos p2] at q
        cases q3 : gt t e2 with
        | none => simp only [q3] at q; cases q
        | some e3 =>
          simp only [q3] at q
          by_cases p3 : plainE e3 = true
          · rw [if_pos p3] at q
            cases q
            have I2 := I.step S2 R2 p2
            exact ⟨B, e2, F2, t, _, R2, I2.k, d, q3, fun σ' R' k' ag => h σ' F2 _ ⟨I.hB, p3, R', k', I2.f0, (ag.2 i hw').trans I.s, I2.w⟩⟩
          · rw [if_neg p3] at q; cases q
      · rw [if_neg p2] at q; cases q
/-- name[a][b] = value -/
def gSet2 (m1 m2 mv : SemE) : SemGS := fun g e => match mv e with
  | .ok r e1 => (match esc r e1 with
    | some (t, e2) => if plainE e2 = true then (match m1 e2 with
      | .ok (.r (.int a)) e3 => if plainE e3 = true then (match m2 e3 with
        | .ok (.r (.int b)) e4 => if plainE e4 = true then (match ixN g.length a with
          | some j => (match g[j]? with
            | some row => (match ixN row.length b with
              | some n => some (g.set j (row.set n t), e4)
              | none => none)
            | none => none)
          | none => none) else none
        | _ => none) else none
      | _ => none) else none
    | none => none)
  | _ => none
theorem qggset2 {x : Str} {p p' p2 : Pos} {ix1 ix2' v : Expr} {m1 m2 mv : SemE} (hN : X.N[i]? = some x) (hv : Vis X.env.scope x) (hi1 : QE X W ix1 m1) (hi2 : QE X W ix2' m2) (hval : QE X W v mv) (hpl : PlainIx ix1 := by exact fun _ _ => rfl) (hd : (x == ("__debug__" : Str)) = false := by decide) (hcd : (x == ("__classdict__" : Str)) = false := by decide)
    (ha : ∀ w, assign (.Subscript (.Subscript (.Name x p) ix1 p2) ix2' p') X.env w = (do
      let ov ← holding [w] (eval (.Subscript (.Name x p) ix1 p2) X.env)
      let iv ← holding [w, ov] (eval ix2' X.env)
      standAt p'
      holding [w, ov, iv] (setItem ov iv w)
      release [w, ov, iv] []) := by intro _; rfl)
    (hs : swapsWithSole [.Subscript (.Subscript (.Name x p) ix1 p2) ix2' p'] v pos.line X.env = pure false := by rfl) (hw : swappedStores [.Subscript (.Subscript (.Name x p) ix1 p2) ix2' p'] v X.env = pure none := by rfl)
    (h1 : (assignEach [.Subscript (.Subscript (.Name x p) ix1 p2) ix2' p'] X.env).map (·.2) = [assign (.Subscript (.Subscript (.Name x p) ix1 p2) ix2' p') X.env] := by rfl) : QGS X W i (.Assign [.Subscript (.Subscript (.Name x p) ix1 p2) ix2' p'] v pos) (gSet2 m1 m2 mv) := by
  refine ps_mono (ps_asg hval (pg_sub (pe_ix ix2 (pe_var hN hv hd hcd) hi1 hpl) hi2 set_list ha) hs hw h1) fun D σ H h => ?_
  obtain ⟨B, H0, F0, A, g, qs, e, F, I, g', e', q, h⟩ := h
  refine ⟨e, F, I.R, ?_⟩
  unfold gSet2 at q
  cases q1 : mv e with
  | bad => rw [q1] at q; cases q
  | exc _ _ _ => rw [q1] at q; cases q
  | ok r e1 =>
  simp only [q1] at q
  intro y F1 H1 R1 S1 O
  cases q2 : esc r e1 with
  | none => simp only [q2] at q; cases q
  | some te =>
  obtain ⟨t, e2⟩ := te
  simp only [q2] at q
  obtain ⟨F2, R2, S2, d, _⟩ := esc_ok I.R R1 S1 O q2
  by_cases p2' : plainE e2 = true
  · rw [if_pos p2'] at q
    have I2 := I.step S2 R2 p2'
    refine ⟨_, I2.s, e2, F2, R2, ?_⟩
    split at q
    · rename_i a e3 q3
      rw [q3]
      by_cases p3 : plainE e3 = true
      · rw [if_pos p3] at q
        intro y2 F3 H3 R3 S3 O3
        cases (show Dp X.K F3 y2 (.int a) from O3)
        have I3 := I2.step S3 R3 p3
        split at q
        · rename_i b e4 q4
          by_cases p4 : plainE e4 = true
          · rw [if_pos p4] at q
            cases q5 : ixN g.length a with
            | none => simp only [q5] at q; cases q
            | some j =>
            simp only [q5] at q
            cases q6 : g[j]? with
            | none => simp only [q6] at q; cases q
            | some row =>
            simp only [q6] at q
            cases q7 : ixN row.length b with
            | none => simp only [q7] at q; cases q
            | some n =>
            simp only [q7] at q
            cases q
            have hm : j < qs.length := by rw [I3.w.len]; exact (List.getElem?_eq_some_iff.mp q6).1
            have hq : qs[j]? = some qs[j] := List.getElem?_eq_getElem hm
            refine .inl ⟨A, qs.map .ref, a, .ref qs[j], rfl, rfl, SqL.of I3.w.hd, ?_, ?_⟩
            · unfold atI
              rw [List.length_map, I3.w.len, q5]
              show (qs.map V.ref)[j]? = _
              rw [List.getElem?_map, hq]; rfl
            refine ⟨e3, F3, R3, ?_⟩
            rw [q4]
            intro y3 F4 H4 R4 S4 O4
            cases (show Dp X.K F4 y3 (.int b) from O4)
            have I4 := I3.step S4 R4 p4
            obtain ⟨vs, hx, dv⟩ := I4.w.hq j _ row hq q6
            refine ⟨qs[j], vs, b, n, rfl, rfl, hx, by rw [dpAll_len dv]; exact q7, h _ F4 _ ?_⟩
            have d4 : Dp X.K F4 y t := dp_mono (fun a o z => S4.ff _ _ (S3.ff _ _ z)) _ _ d
            have mq := List.mem_of_getElem? hq
            have fq := I4.w.fq _ mq
            have sub7 : ∀ a o, F4 a = some o → upd H4 qs[j] (.lst (vs.set n y)) a = some o := fun a o z => by
              have ne : a ≠ qs[j] := fun w => by subst w; rw [fq] at z; cases z
              rw [upd_ne ne]; exact R4.sub _ _ z
            refine ⟨I.hB, p4, plain_up p4 R4 (fun _ _ z => z) sub7, ?_, I4.f0, I4.s, I4.w.put hq q6 hx d4⟩
            refine plain_bok p4 I4.k p4 (fun a o h1 h2 => ⟨?_, fun z => z⟩) (fun a o h2 => ?_) fun _ _ z => z
            · by_cases w : a = qs[j]
              · subst w
                rw [I.hB _ (I4.w.q0 _ mq)] at h1; cases h1
              · rw [upd_ne w]; exact h2
            · by_cases w : a = qs[j]
              · subst w; exact ⟨_, upd_same⟩
              · rw [upd_ne w]; exact ⟨_, h2⟩
          · rw [if_neg p4] at q; cases q
        · cases q
      · rw [if_neg p3] at q; cases q
    · cases q
  · rw [if_neg p2'] at q; cases q
def gforS (gt : SemG) (m : SemGS) : List T → SemGS
  | [], g, e => some (g, e)
  | t :: ts, g, e => match gt t e with
    | some e1 => if plainE e1 = true then (match m g e1 with
      | some (g2, e2) => gforS gt m ts g2 e2
      | none => none) else none
    | none => none
def gFor (mi : SemI) (gt : SemG) (m : SemGS) : SemGS := fun g e => match mi e with
  | .ok ts e1 => if plainE e1 = true then gforS gt m ts g e1 else none
  | _ => none
theorem qggfor {ws : List Nat} {tg it : Expr} {body : List Stmt} {mi : SemI} {gt : SemG} {m : SemGS} (hp : PassesOwn (model X.prog X.w) X.A X.env X.xe) (hc : X.calm = true) (hw' : i ∉ ws) (hi : QI X W tg it mi) (hg : ∀ B, QG X B ws tg gt) (hb : QGSs X W i body m)
    (hs : ∀ x, foldedSetIterable it X.env x = pure x := by intro _; rfl) : QGS X W i (.For tg it body [] pos) (gFor mi gt m) := by
  refine ps_mono (ps_for hp hc hi (qg_any hg) hb hs) fun D σ H h => ?_
  obtain ⟨B, H0, F0, A, g, qs, e, F, I, g', e', q, h⟩ := h
  refine ⟨e, F, I.R, ?_⟩
  unfold gFor at q
  cases q1 : mi e with
  | bad => rw [q1] at q; cases q
  | exc _ _ _ => rw [q1] at q; cases q
  | ok ts e1 =>
  simp only [q1] at q
  intro J F1 H1 R1 S1 wk
  by_cases p1 : plainE e1 = true
  · rw [if_pos p1] at q
    have I1 := I.step S1 R1 p1
    have f01 : ∀ a o, F0 a = some o → F1 a = some o := I1.f0
    have I1' : GI X.K B H0 F1 A i g qs e1 σ F1 H1 := ⟨I1.hB, I1.p, I1.R, I1.k, fun _ _ z => z, I1.s, I1.w⟩
    refine ⟨fun n mm σ' H' => mm = ts.length - n ∧ n ≤ ts.length ∧ ∃ g2 e2 F2, GI X.K B H0 F1 A i g2 qs e2 σ' F2 H' ∧ gforS gt m (ts.drop n) g2 e2 = some (g', e'), ⟨_, rfl, Nat.zero_le _, g, e1, F1, I1', q⟩, ?_⟩
    rintro n mm σ' H' ⟨rfl, hn, g2, e2, F2, I2, h2⟩
    obtain ⟨go, stop⟩ := wk n F2 H' I2.f0 I2.R.sub
    by_cases hlt : n < ts.length
    · have ht : ts[n]? = some ts[n] := List.getElem?_eq_getElem hlt
      rw [List.drop_eq_getElem_cons hlt] at h2
      obtain ⟨g1, y1⟩ := go _ ht
      refine .inr ⟨g1, fun σ' H' => ∃ g2 e2 F2, GI X.K B H0 F1 A i g2 qs e2 σ' F2 H' ∧ gforS gt m (ts.drop (n + 1)) g2 e2 = some (g', e'), fun σ3 H3 z => ⟨_, (by omega : ts.length - (n + 1) < ts.length - n), rfl, hlt, z⟩, fun x H3 y => ?_⟩
      simp only [gforS] at h2
      cases q3 : gt ts[n] e2 with
      | none => simp only [q3] at h2; cases h2
      | some e3 =>
      simp only [q3] at h2
      by_cases p3 : plainE e3 = true
      · rw [if_pos p3] at h2
        cases q4 : m g2 e3 with
        | none => simp only [q4] at h2; cases h2
        | some ge =>
        obtain ⟨g4, e4⟩ := ge
        simp only [q4] at h2
        have next : ∀ (F3 : Hp) (H4 : Hp), GI X.K B H0 F1 A i g2 qs e2 σ' F3 H4 → Dp X.K F3 x ts[n] → ∃ B', tG X.K B' ws gt x σ' H4 fun σ2 H2 => tGS X.K W i m { D with nx := fun σ' H' => ∃ g2 e2 F2, GI X.K B H0 F1 A i g2 qs e2 σ' F2 H' ∧ gforS gt m (ts.drop (n + 1)) g2 e2 = some (g', e'), ct := fun σ' H' => ∃ g2 e2 F2, GI X.K B H0 F1 A i g2 qs e2 σ' F2 H' ∧ gforS gt m (ts.drop (n + 1)) g2 e2 = some (g', e'), bk := D.nx } σ2 H2 := fun F3 H4 I3 dx => by
          refine ⟨B, e2, F3, _, e3, I3.R, I3.k, dx, q3, fun σ4 R4 k4 ag => ?_⟩
          exact ⟨B, H0, F1, A, g2, qs, e3, F3, ⟨I3.hB, p3, R4, k4, I3.f0, (ag.2 i hw').trans I3.s, I3.w⟩, g4, e4, q4, fun σ5 F5 H5 I5 => ⟨g4, e4, F5, I5, h2⟩⟩
        rcases y1 x H3 y with ⟨eH, dx⟩ | ⟨p, vs, us, ex, hp', eH, et, dx⟩
        · subst eH
          exact next F2 _ I2 dx
        · subst eH ex
          have R3 := laid_frz (o := .tup vs) I2.R hp'
          have S3 := laid_frz_step (o := .tup vs) I2.R .refl hp'
          refine next (upd F2 p (.tup vs)) _ (I2.step S3 R3 I2.p) ?_
          rw [et]
          exact .tup upd_same (dpAll_mono (fun a o h => by rw [upd_ne (ne_of_none h (sub_none I2.R hp'))]; exact h) dx)
      · rw [if_neg p3] at h2; cases h2
    · have en : n = ts.length := by omega
      subst en
      rw [List.drop_length] at h2
      cases h2
      exact .inl ⟨stop (Nat.le_refl _), h σ' F2 H' (I2.base f01)⟩
  · rw [if_neg p1] at q; cases q
end
/-! ### to the end: the grid told as a tree -/
abbrev SemG2 := Gr → En → Out Fl
def tG2 (K : PySem.W.Frag) (W : WX) (B : Bd) (i : Nat) (m : SemG2) : TS := fun D σ H => ∃ H0 F0 A g qs e F, GI K B H0 F0 A i g qs e σ F H ∧ OutS K W B (m g e) D
theorem gw_done {K : PySem.W.Frag} {B : Bd} {H0 F0 F H : Hp} {D : Addr} {i : Nat} {g : Gr} {qs : List Addr} {e : En} {σ : Sg} (I : GI K B H0 F0 D i g qs e σ F H) :
    ∃ F', Rel K (e.set i (.v g.t)) σ F' H ∧ BOk B (e.set i (.v g.t)) σ F' H := by
  have w := I.w
  have ff : ∀ a o, F a = some o → (fun a => if a = D ∨ a ∈ qs then H a else F a) a = some o := fun a o z => by
    have n : ¬ (a = D ∨ a ∈ qs) := fun v => by
      rcases v with v | v
      · subst v; rw [w.fd] at z; cases z
      · rw [w.fq a v] at z; cases z
    show (if _ then _ else _) = _
    rw [if_neg n]; exact z
  have sub : ∀ a o, (fun a => if a = D ∨ a ∈ qs then H a else F a) a = some o → H a = some o := fun a o z => by
    have z : (if a = D ∨ a ∈ qs then H a else F a) = some o := z
    by_cases v : a = D ∨ a ∈ qs
    · rw [if_pos v] at z; exact z
    · rw [if_neg v] at z; exact I.R.sub _ _ z
  have pe := plain_set (i := i) (s := .v g.t) I.p rfl
  have all : ∀ (qs' : List Addr) (gs' : Gr), qs'.length = gs'.length → (∀ (j : Nat) (q : Addr) (ts : List T), qs'[j]? = some q → gs'[j]? = some ts → q ∈ qs ∧ ∃ vs, H q = some (.lst vs) ∧ DpAll K F vs ts) → DpAll K (fun a => if a = D ∨ a ∈ qs then H a else F a) (qs'.map V.ref) (gs'.map PyData.list) := by
    intro qs'
    induction qs' with
    | nil => intro gs' hl _; cases gs' with
      | nil => exact .nil
      | cons _ _ => cases hl
    | cons q qs' ih =>
      intro gs' hl hh
      cases gs' with
      | nil => cases hl
      | cons ts gs' =>
        obtain ⟨m, vs, hm, dv⟩ := hh 0 q ts rfl rfl
        refine .cons (.lst (SqL.of (xs := vs) ?_) (dpAll_mono ff dv)) (ih gs' (by simpa using hl) fun j q' ns' h1 h2 => hh (j + 1) q' ns' h1 h2)
        show (if q = D ∨ q ∈ qs then H q else F q) = _
        rw [if_pos (.inr m)]; exact hm
  refine ⟨fun a => if a = D ∨ a ∈ qs then H a else F a, ⟨sub, by rw [List.length_set]; exact I.R.len, fun j s o h1 h2 => ?_, fun a b l z l' z' p h1 => absurd h1 (plain_ow pe)⟩, ?_⟩
  · by_cases q : i = j
    · subst q
      have hl : i < e.length := by have := (List.getElem?_eq_some_iff.mp h1).1; simpa using this
      rw [List.getElem?_set_self hl] at h1; cases h1
      rw [I.s] at h2; cases h2
      refine ⟨_, rfl, .lst (SqL.of (xs := qs.map V.ref) ?_) (all qs g w.len fun j q ts h3 h4 => ⟨List.mem_of_getElem? h3, w.hq j q ts h3 h4⟩)⟩
      show (if D = D ∨ D ∈ qs then H D else F D) = _
      rw [if_pos (.inl rfl)]; exact w.hd
    · rw [List.getElem?_set_ne q] at h1
      exact (plain_up I.p I.R ff sub).at_ j s o h1 h2
  · refine plain_bok I.p I.k pe (fun a o h1 h2 => ⟨h2, fun z => ?_⟩) (fun a o z => ⟨o, z⟩) ff
    have n : ¬ (a = D ∨ a ∈ qs) := fun v => by
      rcases v with v | v
      · subst v; rw [I.hB _ w.d0] at h1; cases h1
      · rw [I.hB _ (w.q0 a v)] at h1; cases h1
    show (if _ then _ else _) = _
    rw [if_neg n]; exact z
section
variable {X : Cx} {W : WX} {B : Bd} {i : Nat} {st : Stmt} {sts rest : List Stmt} {m1 : SemGS} {m2 : SemG2} {mr : SemS}
def g2Done (i : Nat) (mr : SemS) : SemG2 := fun g e => mr (e.set i (.v g.t))
def g2Seq (m1 : SemGS) (m2 : SemG2) : SemG2 := fun g e => match m1 g e with
  | some (g1, e1) => m2 g1 e1
  | none => .bad
theorem qg2done (hr : QSs X W B rest mr) : PSs X rest (tG2 X.K W B i (g2Done i mr)) := pss_mono hr fun D σ H h => by
  obtain ⟨H0, F0, A, g, qs, e, F, I, h⟩ := h
  obtain ⟨F', R', k'⟩ := gw_done I
  exact ⟨_, F', R', k', h⟩
theorem qg2cons (h1 : QGS X W i st m1) (h2 : PSs X rest (tG2 X.K W B i m2)) : PSs X (st :: rest) (tG2 X.K W B i (g2Seq m1 m2)) := by
  refine pss_mono (pss_cons h1 h2) fun D σ H h => ?_
  obtain ⟨H0, F0, A, g, qs, e, F, I, h⟩ := h
  unfold g2Seq at h
  cases q1 : m1 g e with
  | none => rw [q1] at h; exact h.elim
  | some p =>
    obtain ⟨g1, e1⟩ := p
    rw [q1] at h
    exact ⟨B, H0, F0, A, g, qs, e, F, I, g1, e1, q1, fun σ' F' H' I' => ⟨H0, F0, A, g1, qs, e1, F', I', h⟩⟩
end
/-! ### the making -/
/-- a name's list becomes a tree -/
def frz1 (e : En) (j : Nat) : En := match e[j]? with
  | some (.ow l z) => (match z.tr with
    | some t => e.set j (if l then .fz z else .v t)
    | none => e)
  | _ => e
def frzE (js : List Nat) (e : En) : En := js.foldl frz1 e
theorem frz1_ok {K : PySem.W.Frag} {e : En} {σ : Sg} {F H : Hp} {j : Nat} (R : Rel K e σ F H) : ∃ F', Rel K (frz1 e j) σ F' H ∧ Step e (frz1 e j) σ F H F' H := by
  unfold frz1
  split
  · rename_i l z q
    cases q2 : z.tr with
    | none => exact ⟨F, R, .refl⟩
    | some t =>
      have hj : j < σ.length := by rw [← R.len]; exact (List.getElem?_eq_some_iff.mp q).1
      have h2 : σ[j]? = some σ[j] := List.getElem?_eq_getElem hj
      obtain ⟨p, ep, _⟩ := R.at_ j _ _ q h2
      rw [ep] at h2
      obtain ⟨F', R', S', _⟩ := esc_own R q h2 q2
      exact ⟨F', R', S'⟩
  · exact ⟨F, R, .refl⟩
theorem frzE_ok {K : PySem.W.Frag} : ∀ {js : List Nat} {e : En} {σ : Sg} {F H : Hp}, Rel K e σ F H → ∃ F', Rel K (frzE js e) σ F' H ∧ Step e (frzE js e) σ F H F' H
  | [], _, _, F, _, R => ⟨F, R, .refl⟩
  | j :: js, e, σ, F, H, R => by
    obtain ⟨F1, R1, S1⟩ := frz1_ok (j := j) R
    obtain ⟨F2, R2, S2⟩ := frzE_ok (js := js) R1
    exact ⟨F2, R2, S1.trans S2⟩
def mkG (ν : Nat) (m : SemE) : List T → Gr → En → Option (Gr × En)
  | [], acc, e => some (acc, e)
  | t :: ts, acc, e => match m ((wipeE e [ν]).set ν (.v t)) with
    | .ok (.b (.l row)) e4 => if acc.length < sizeLine ∧ plainE (restE e e4 [ν]) = true then mkG ν m ts (acc ++ [row]) (restE e e4 [ν]) else none
    | _ => none
def sGrid (i ν : Nat) (fs : List Nat) (mi : SemI) (m : SemE) (m2 : SemG2) : SemS := fun e => match mi (frzE fs e) with
  | .ok ts e1 => if plainE e1 = true ∧ i < e1.length then (match mkG ν m ts [] e1 with
    | some (g, e2) => if plainE e2 = true then m2 g (e2.set i .un) else .bad
    | none => .bad) else .bad
  | _ => .bad
/-- the comprehension that makes them -/
theorem grid_make {K : PySem.W.Frag} {mi : SemI} {m : SemE} {ν : Nat} {σ : Sg} {H : Hp} {Q : VK} {W : WX} {e : En} {F : Hp} (R : Rel K e σ F H)
    (h : OutX K W (fun _ F _ J ts => Wk K F J ts) (mi e) e σ F H fun J H1 => ∃ ts e1 F1 g e2, plainE e1 = true ∧ Rel K e1 σ F1 H1 ∧ Wk K F1 J ts ∧ mkG ν m ts [] e1 = some (g, e2) ∧
      ∀ D qs F' H', plainE e2 = true → Rel K e2 σ F' H' → (∀ a o, F1 a = some o → F' a = some o) → (∀ a o, H1 a = some o → F1 a = none → F' a = none) → Gw K H1 F' H' D g qs → Q (.ref D) H') :
    tLc (tI K W mi) (gName ν) tYes (tE K W0 m) [ν] σ H Q := by
  refine ⟨e, F, R, h.imp ?_⟩
  rintro J H1 ⟨ts, e1, F1, g, e2, p1, R1, wk, q0, q⟩ D hD
  have fD : F1 D = none := sub_none R1 hD
  refine ⟨fun n mm H' => mm = ts.length - n ∧ n ≤ ts.length ∧ ∃ acc qs e F, plainE e = true ∧ Rel K e σ F H' ∧ (∀ a o, F1 a = some o → F a = some o) ∧ (∀ a o, H1 a = some o → F1 a = none → F a = none) ∧ Gw K H1 F H' D acc qs ∧ mkG ν m (ts.drop n) acc e = some (g, e2),
    ⟨_, rfl, Nat.zero_le _, [], [], e1, F1, p1, laid_own R1 hD, fun _ _ z => z, fun _ _ _ z => z, ⟨rfl, hD, fun _ h => (List.not_mem_nil h).elim, .nil, List.not_mem_nil, fD, fun _ h => (List.not_mem_nil h).elim, upd_same, fun _ _ _ h => (by simp at h), fun a o z => by rw [upd_ne (ne_of_none z hD)]; exact z⟩, q0⟩, ?_⟩
  rintro n mm H' ⟨rfl, hn, acc, qs, e3, F3, p3, R3, ff3, nf3, w3, q3⟩
  obtain ⟨go, stop⟩ := wk n F3 H' ff3 R3.sub
  by_cases hlt : n < ts.length
  · have ht : ts[n]? = some ts[n] := List.getElem?_eq_getElem hlt
    rw [List.drop_eq_getElem_cons hlt] at q3
    obtain ⟨g1, y1⟩ := go _ ht
    refine .inr ⟨g1, fun H' => ∃ acc qs e F, plainE e = true ∧ Rel K e σ F H' ∧ (∀ a o, F1 a = some o → F a = some o) ∧ (∀ a o, H1 a = some o → F1 a = none → F a = none) ∧ Gw K H1 F H' D acc qs ∧ mkG ν m (ts.drop (n + 1)) acc e = some (g, e2), fun H3 z => ⟨_, (by omega : ts.length - (n + 1) < ts.length - n), rfl, hlt, z⟩, fun x H3 y => ?_⟩
    refine ⟨wipe_set _ _ _, ?_⟩
    show tE K W0 m _ H3 _
    simp only [mkG] at q3
    have next : ∀ (F4 : Hp), Rel K e3 σ F4 H3 → (∀ a o, F1 a = some o → F4 a = some o) → (∀ a o, H1 a = some o → F1 a = none → F4 a = none) → Gw K H1 F4 H3 D acc qs → Dp K F4 x ts[n] → tE K W0 m ((wipe σ [ν]).set ν (some x)) H3 fun y H4 => ∃ acc, H4 D = some (.lst acc) ∧ acc.length < sizeLine ∧ (∃ acc' qs e F, plainE e = true ∧ Rel K e σ F (upd H4 D (.lst (acc ++ [y]))) ∧ (∀ a o, F1 a = some o → F a = some o) ∧ (∀ a o, H1 a = some o → F1 a = none → F a = none) ∧ Gw K H1 F (upd H4 D (.lst (acc ++ [y]))) D acc' qs ∧ mkG ν m (ts.drop (n + 1)) acc' e = some (g, e2)) := by
      intro F4 R4 ff4 nf4 w4 dx
      have pw : plainE (wipeE e3 [ν]) = true := plain_set p3 rfl
      have pt := plain_set (i := ν) (s := .v ts[n]) pw rfl
      obtain ⟨R5, _⟩ := set_v (i := ν) (wipe_rel (vs := [ν]) R4) (bok0 (e := wipeE e3 [ν]) (σ := wipe σ [ν])) dx (plain_lent pw)
      have ag : Agree [ν] (wipe σ [ν]) ((wipe σ [ν]).set ν (some x)) := ⟨by simp, fun j hj => List.getElem?_set_ne fun z => hj (by simp [z])⟩
      have a1 : ∀ j, ((wipeE e3 [ν]).set ν (.v ts[n]))[j]? = (wipeE e3 [ν])[j]? ∨ (j ∈ [ν] ∧ ∃ t, ((wipeE e3 [ν]).set ν (.v ts[n]))[j]? = some (.v t)) := fun j => by
        by_cases z : ν = j
        · subst z
          by_cases hl : ν < (wipeE e3 [ν]).length
          · exact .inr ⟨by simp, _, List.getElem?_set_self hl⟩
          · exact .inl (by rw [List.getElem?_eq_none (by simpa using hl), List.getElem?_eq_none (by simpa using hl)])
        · exact .inl (List.getElem?_set_ne z)
      refine ⟨_, F4, R5, ?_⟩
      split at q3
      · rename_i row e4 qm
        rw [qm]
        intro y F6 H6 R6 S6 O6
        obtain ⟨p, ep, hp, fp, vs, hx, dv⟩ := O6
        subst ep
        by_cases hl : acc.length < sizeLine ∧ plainE (restE e3 e4 [ν]) = true
        · rw [if_pos hl] at q3
          have w6 := w4.on (F' := F6) (H' := H6) S6.ff fun a o z => plain_step pt S6 z
          obtain ⟨R7, S7⟩ := rest_rel R4 (by simp [wipeE_len]) a1 ag R6 S6
          have pD : p ≠ D := fun z => by subst z; rw [w4.hd] at hp; cases hp
          have pq : ∀ q ∈ qs, q ≠ p := fun q hq z => by subst z; obtain ⟨o, ho⟩ := w4.sm hq; rw [hp] at ho; cases ho
          have p0 : H1 p = none := by
            cases z : H1 p with
            | none => rfl
            | some o => have := w4.up _ _ z; rw [hp] at this; cases this
          have w7 := w6.more p0 pD pq hx fp dv
          refine ⟨qs.map .ref, w6.hd, by rw [List.length_map, w6.len]; exact hl.1, _, _, _, F6, hl.2, ?_, fun a o z => S6.ff _ _ (ff4 _ _ z), fun a o z1 z2 => (plain_step pt S6 (w4.up _ _ z1)).2 (nf4 a o z1 z2), w7, q3⟩
          refine plain_up hl.2 R7 (fun _ _ z => z) fun a o z => ?_
          have ne : a ≠ D := fun v => by subst v; rw [w6.fd] at z; cases z
          rw [upd_ne ne]; exact R7.sub _ _ z
        · rw [if_neg hl] at q3; cases q3
      · cases q3
    rcases y1 x H3 y with ⟨eH, dx⟩ | ⟨p, vs, us, ex, hp', eH, et, dx⟩
    · subst eH
      exact next F3 R3 ff3 nf3 w3 dx
    · subst eH ex
      have S3 := laid_frz_step (o := .tup vs) R3 .refl hp'
      refine next (upd F3 p (.tup vs)) (laid_frz R3 hp') (fun a o z => S3.ff _ _ (ff3 _ _ z)) (fun a o z1 z2 => (plain_step p3 S3 (w3.up _ _ z1)).2 (nf3 a o z1 z2)) (w3.on S3.ff fun a o z => plain_step p3 S3 z) ?_
      rw [et]
      exact .tup upd_same (dpAll_mono (fun a o h => by rw [upd_ne (ne_of_none h (sub_none R3 hp'))]; exact h) dx)
  · have en : n = ts.length := by omega
    subst en
    rw [List.drop_length] at q3
    cases q3
    exact .inl ⟨stop (Nat.le_refl _), q D qs F3 H' p3 R3 ff3 nf3 w3⟩
theorem qgrid {X : Cx} {W : WX} {B : Bd} {i ν : Nat} {fs : List Nat} {y z : Str} {py pz spos pos : Pos} {it elt : Expr} {scope : Scope} {mi : SemI} {m : SemE} {rest : List Stmt} {m2 : SemG2} (hc : X.calm = true) (hN : X.N.Nodup) (hy : X.N[i]? = some y) (hyl : X.env.scope.names.lookup y = some .local)
    (hsw : swapsWith (.ListComp elt [⟨.Name z pz, it, [], 0⟩] scope pos) (some (.Name y py)) spos.line X.env = pure true) (hi : QI X W (.Name z pz) it mi) (ok : BlkOk X.N X.env.scope scope [(z, ν)])
    (hz : ∀ (s : Shared) (H : Hp) (C : Addr) (cl : List (Str × Addr)) (fp : List Addr), PG (X.blk s H scope (compEnvC scope cl C X.env) fp) (.Name z pz) (gName ν))
    (he : ∀ (s : Shared) (H : Hp) (C : Addr) (cl : List (Str × Addr)) (fp : List Addr), QE (X.blk s H scope (compEnvC scope cl C X.env) fp) W0 elt m) (hr : PSs X rest (tG2 X.K W B i m2))
    (hs1 : ∀ x, foldedSetIterable it X.env x = pure x := by intro _; rfl) :
    QSs X W B (.Assign [.Name y py] (.ListComp elt [⟨.Name z pz, it, [], 0⟩] scope pos) spos :: rest) (sGrid i ν fs mi m m2) := by
  refine pss_mono (pss_cons (ps_setLc (te := tE X.K W0 m) hc hN hy hyl hsw hi ok hz (fun _ _ _ _ _ => pts_nil) he hs1) hr) fun D0 σ H h => ?_
  obtain ⟨e, F, R, kk, h⟩ := h
  unfold sGrid at h
  obtain ⟨F0, R0, S0⟩ := frzE_ok (js := fs) R
  have k0 := kk.step S0
  show tLc (tI X.K W mi) (gName ν) tYes (tE X.K W0 m) [ν] σ H fun x H1 => tG2 X.K W B i m2 D0 (σ.set i (some x)) H1
  refine grid_make R0 ?_
  cases qm : mi (frzE fs e) with
  | bad => rw [qm] at h; exact h.elim
  | exc cc t e' => rw [qm] at h; exact h.elim
  | ok ts e1 =>
  simp only [qm] at h
  intro J F1 H1 R1 S1 wk
  by_cases cond : plainE e1 = true ∧ i < e1.length
  · rw [if_pos cond] at h
    cases q3 : mkG ν m ts [] e1 with
    | none => simp only [q3] at h; exact h.elim
    | some ge =>
    obtain ⟨g, e2⟩ := ge
    simp only [q3] at h
    refine ⟨ts, e1, F1, g, e2, cond.1, R1, wk, q3, fun A qs F' H' p2 R2 ff nf w => ?_⟩
    rw [if_pos p2] at h
    have k1 := k0.step S1
    have hB : ∀ a, H1 a = none → B.H a = none := fun a z => by
      cases w : B.H a with
      | none => rfl
      | some o => obtain ⟨o', h'⟩ := k1.dom a o w; rw [z] at h'; cases h'
    have p2' := plain_set (i := i) (s := .un) p2 rfl
    have hl : i < e2.length := by rw [R2.len, ← R1.len]; exact cond.2
    refine ⟨H1, F', A, g, qs, e2.set i .un, F', ⟨hB, p2', ?_, plain_bok cond.1 k1 p2' (fun a o _ z => ⟨w.up a o z, nf a o z⟩) (fun a o z => ⟨o, w.up a o z⟩) ff, fun _ _ z => z, List.getElem?_set_self (by rw [← R2.len]; exact hl), w⟩, h⟩
    refine ⟨R2.sub, by rw [List.length_set, List.length_set]; exact R2.len, fun j s o h1 h2 => ?_, fun a b l z l' z' p h1 => absurd h1 (plain_ow p2')⟩
    by_cases q : i = j
    · subst q
      rw [List.getElem?_set_self hl] at h1; cases h1
      trivial
    · rw [List.getElem?_set_ne q] at h1 h2
      exact R2.at_ j s o h1 h2
  · rw [if_neg cond] at h; exact h.elim
end Ev

set_option Elab.async false
set_option linter.all false
namespace Lw
open PySem PySem.Spec L2 Ev
noncomputable def b_is_whole : SemS := (sRet (eAnd (eIsi isInt (eVar 0)) (eNot (eIsi isBool (eVar 0)))))
noncomputable def m_is_whole : FSem := runFn 1 b_is_whole
noncomputable def b_is_count : SemS := (sRet (eAnd (eCall 1 m_is_whole (aCons (eVar 0) aNil)) (eOp2 gGe (eVar 0) (eK (.int 0)))))
noncomputable def m_is_count : FSem := runFn 1 b_is_count
noncomputable def b_is_index : SemS := (sRet (eAnd (eCall 1 m_is_count (aCons (eVar 0) aNil)) (eOp2 gLt (eVar 0) (eVar 1))))
noncomputable def m_is_index : FSem := runFn 2 b_is_index
noncomputable def y1_power : SemS := (sSet 2 (eOp2 gMul (eVar 2) (eVar 0)))
noncomputable def l1_power : SemS := (sFor (iR1 (aCons (eVar 1) aNil)) (gN 3) y1_power)
noncomputable def b_power : SemS := (sSeq (sSet 2 (eK (.int 1))) (sSeq l1_power (sRet (eVar 2))))
noncomputable def m_power : FSem := runFn 4 b_power
noncomputable def y1_digits_of : SemS := (sSeq (sAsg (gT 2 (gsCons (gN 0) (gsCons (gN 5) gsNil))) (eFn gDivmod (aCons (eVar 0) (aCons (eVar 1) aNil)))) (sDrop (eMut 3 gAppend (aCons (eVar 5) aNil))))
noncomputable def l1_digits_of : SemS := (sFor (iR1 (aCons (eVar 2) aNil)) (gN 4) y1_digits_of)
noncomputable def b_digits_of : SemS := (sSeq (sSet 3 (eLst aNil)) (sSeq l1_digits_of (sRet (eRev (eVar 3)))))
noncomputable def m_digits_of : FSem := runFn 6 b_digits_of
noncomputable def b__is_part : SemS := (sSeq (sIf (tOr (tNot (tb (eIsi isTuple (eVar 2)))) (tb (eOp2 (gEq not) (eFn gLen (aCons (eVar 2) aNil)) (eK (.int 3))))) (sRet (eK (.bool false))) sNil) (sSeq (sAsg (gT 3 (gsCons (gN 3) (gsCons (gN 4) (gsCons (gN 5) gsNil)))) (eVar 2)) (sRet (eAnd (eCall 2 m_is_index (aCons (eVar 3) (aCons (eVar 0) aNil))) (eAnd (eCall 2 m_is_index (aCons (eVar 4) (aCons (eVar 0) aNil))) (eCall 2 m_is_index (aCons (eVar 5) (aCons (eVar 1) aNil))))))))
noncomputable def m__is_part : FSem := runFn 6 b__is_part
noncomputable def x1_places_of : SemE := (eComp (iOf (eVar 0)) (gN 1) tTrue (eTup (aCons (eOp2 gIx (eVar 1) (eK (.int 0))) (aCons (eOp2 gIx (eVar 1) (eK (.int 1))) aNil))) [1])
noncomputable def b_places_of : SemS := (sRet x1_places_of)
noncomputable def m_places_of : FSem := runFn 2 b_places_of
noncomputable def x1__is_kind : SemE := (eComp (iOf (eVar 2)) (gN 3) tTrue (eCall 3 m__is_part (aCons (eVar 0) (aCons (eVar 1) (aCons (eVar 3) aNil)))) [3])
noncomputable def b__is_kind : SemS := (sSeq (sIf (tOr (tNot (tb (eIsi isTuple (eVar 2)))) (tb (eOp2 (gEq not) (eFn gLen (aCons (eVar 2) aNil)) (eOp2 gMul (eVar 0) (eVar 0))))) (sRet (eK (.bool false))) sNil) (sSeq (sIf (tNot (tb (eFn gAll (aCons x1__is_kind aNil)))) (sRet (eK (.bool false))) sNil) (sRet (eOp2 (gEq id) (eLenSet (eCall 1 m_places_of (aCons (eVar 2) aNil))) (eOp2 gMul (eVar 0) (eVar 0))))))
noncomputable def m__is_kind : FSem := runFn 4 b__is_kind
noncomputable def x1_is_book : SemE := (eComp (iOf (eVar 2)) (gN 3) tTrue (eCall 3 m__is_kind (aCons (eVar 1) (aCons (eFn gLen (aCons (eVar 2) aNil)) (aCons (eVar 3) aNil)))) [3])
noncomputable def b_is_book : SemS := (sSeq (sIf (tOr (tNot (tb (eIsi isTuple (eVar 0)))) (tb (eOp2 (gEq not) (eFn gLen (aCons (eVar 0) aNil)) (eK (.int 2))))) (sRet (eK (.bool false))) sNil) (sSeq (sAsg (gT 2 (gsCons (gN 1) (gsCons (gN 2) gsNil))) (eVar 0)) (sSeq (sIf (tOr (tNot (tb (eCall 1 m_is_whole (aCons (eVar 1) aNil)))) (tb (eOp2 (gIn not) (eVar 1) (eTup (aCons (eK (.int 2)) (aCons (eK (.int 3)) aNil)))))) (sRet (eK (.bool false))) sNil) (sSeq (sIf (tOr (tNot (tb (eIsi isTuple (eVar 2)))) (tb (eOp2 (gEq id) (eFn gLen (aCons (eVar 2) aNil)) (eK (.int 0))))) (sRet (eK (.bool false))) sNil) (sRet (eFn gAll (aCons x1_is_book aNil)))))))
noncomputable def m_is_book : FSem := runFn 4 b_is_book
noncomputable def b_check_book : SemS := (sIf (tNot (tb (eCall 1 m_is_book (aCons (eVar 0) aNil)))) (sRaise "InvalidBook" (eVar 0)) sNil)
noncomputable def m_check_book : FSem := runFn 1 b_check_book
noncomputable def b_check_depth : SemS := (sIf (tNot (tb (eCall 1 m_is_count (aCons (eVar 0) aNil)))) (sRaise "InvalidDepth" (eVar 0)) sNil)
noncomputable def m_check_depth : FSem := runFn 1 b_check_depth
noncomputable def b_how_many_cells : SemS := (sRet (eCall 2 m_power (aCons (eOp2 gMul (eOp2 gIx (eVar 0) (eK (.int 0))) (eOp2 gIx (eVar 0) (eK (.int 0)))) (aCons (eVar 1) aNil))))
noncomputable def m_how_many_cells : FSem := runFn 2 b_how_many_cells
noncomputable def y1_cell_in_kind : SemS := (sSeq (sAsg (gT 3 (gsCons (gN 9) (gsCons (gN 10) (gsCons (gN 1) gsNil)))) (eOp2 gIx (eOp2 gIx (eVar 5) (eVar 1)) (eVar 8))) (sSeq (sSet 6 (eOp2 gAdd (eOp2 gMul (eVar 6) (eVar 4)) (eVar 9))) (sSet 7 (eOp2 gAdd (eOp2 gMul (eVar 7) (eVar 4)) (eVar 10)))))
noncomputable def l1_cell_in_kind : SemS := (sFor (iOf (eCall 3 m_digits_of (aCons (eVar 3) (aCons (eOp2 gMul (eVar 4) (eVar 4)) (aCons (eVar 2) aNil))))) (gN 8) y1_cell_in_kind)
noncomputable def b_cell_in_kind : SemS := (sSeq (sAsg (gT 2 (gsCons (gN 4) (gsCons (gN 5) gsNil))) (eVar 0)) (sSeq (sSet 6 (eK (.int 0))) (sSeq (sSet 7 (eK (.int 0))) (sSeq l1_cell_in_kind (sRet (eTup (aCons (eVar 6) (aCons (eVar 7) aNil))))))))
noncomputable def m_cell_in_kind : FSem := runFn 11 b_cell_in_kind
noncomputable def x1_whole : SemE := (eComp (iR1 (aCons (eCall 2 m_how_many_cells (aCons (eVar 0) (aCons (eVar 1) aNil))) aNil)) (gN 2) tTrue (eCall 4 m_cell_in_kind (aCons (eVar 0) (aCons (eK (.int 0)) (aCons (eVar 1) (aCons (eVar 2) aNil))))) [2])
noncomputable def b_whole : SemS := (sSeq (sDrop (eCall 1 m_check_book (aCons (eVar 0) aNil))) (sSeq (sDrop (eCall 1 m_check_depth (aCons (eVar 1) aNil))) (sRet x1_whole)))
noncomputable def m_whole : FSem := runFn 3 b_whole
noncomputable def b_is_near : SemS := (sRet (eOp2 (gEq id) (eOp2 gAdd (eFn gAbs (aCons (eOp2 gSub (eOp2 gIx (eVar 0) (eK (.int 0))) (eOp2 gIx (eVar 1) (eK (.int 0)))) aNil)) (eFn gAbs (aCons (eOp2 gSub (eOp2 gIx (eVar 0) (eK (.int 1))) (eOp2 gIx (eVar 1) (eK (.int 1)))) aNil))) (eK (.int 1))))
noncomputable def m_is_near : FSem := runFn 2 b_is_near
noncomputable def b__step_sign : SemS := (sSeq (sIf (tb (eOp2 (gEq id) (eOp2 gIx (eVar 0) (eK (.int 1))) (eOp2 gIx (eVar 1) (eK (.int 1))))) (sRet (eK (.str "-"))) sNil) (sRet (eK (.str "|"))))
noncomputable def m__step_sign : FSem := runFn 2 b__step_sign
noncomputable def x1_drawn : SemE := (eComp (iOf (eRev (eVar 4))) (gN 11) tTrue (eJoin (eK (.str "")) (eVar 11)) [11])
noncomputable def y1_drawn : SemGS := (gSeq (gAsg (gT 2 (gsCons (gN 5) (gsCons (gN 6) gsNil))) (eOp2 gIx (eVar 2) (eVar 7))) (gSeq (gAsg (gT 2 (gsCons (gN 8) (gsCons (gN 9) gsNil))) (eOp2 gIx (eVar 2) (eOp2 gAdd (eVar 7) (eK (.int 1))))) (gIf (tb (eCall 2 m_is_near (aCons (eOp2 gIx (eVar 2) (eVar 7)) (aCons (eOp2 gIx (eVar 2) (eOp2 gAdd (eVar 7) (eK (.int 1)))) aNil)))) (gSet2 (eOp2 gAdd (eVar 6) (eVar 9)) (eOp2 gAdd (eVar 5) (eVar 8)) (eCall 2 m__step_sign (aCons (eOp2 gIx (eVar 2) (eVar 7)) (aCons (eOp2 gIx (eVar 2) (eOp2 gAdd (eVar 7) (eK (.int 1)))) aNil)))) gNil)))
noncomputable def l1_drawn : SemGS := (gFor (iR1 (aCons (eOp2 gSub (eFn gLen (aCons (eVar 2) aNil)) (eK (.int 1))) aNil)) (gN 7) y1_drawn)
noncomputable def y2_drawn : SemGS := (gSet2 (eOp2 gMul (eK (.int 2)) (eVar 6)) (eOp2 gMul (eK (.int 2)) (eVar 5)) (eK (.str "o")))
noncomputable def l2_drawn : SemGS := (gFor (iOf (eVar 2)) (gT 2 (gsCons (gN 5) (gsCons (gN 6) gsNil))) y2_drawn)
noncomputable def x2_drawn : SemE := (eRep (eLst (aCons (eK (.str " ")) aNil)) (eVar 3))
noncomputable def b_drawn : SemS := (sSeq (sSet 2 (eCall 2 m_whole (aCons (eVar 0) (aCons (eVar 1) aNil)))) (sSeq (sSet 3 (eOp2 gSub (eOp2 gMul (eK (.int 2)) (eCall 2 m_power (aCons (eOp2 gIx (eVar 0) (eK (.int 0))) (aCons (eVar 1) aNil)))) (eK (.int 1)))) (sGrid 4 10 [2, 3] (iR1 (aCons (eVar 3) aNil)) x2_drawn (g2Seq l2_drawn (g2Seq l1_drawn (g2Done 4 (sRet x1_drawn)))))))
noncomputable def m_drawn : FSem := runFn 12 b_drawn
noncomputable def y1_numbers_drawn : SemGS := (gSeq (gAsg (gT 2 (gsCons (gN 6) (gsCons (gN 7) gsNil))) (eOp2 gIx (eVar 2) (eVar 5))) (gSet2 (eOp2 gSub (eOp2 gSub (eVar 3) (eK (.int 1))) (eVar 7)) (eVar 6) (eVar 5)))
noncomputable def l1_numbers_drawn : SemGS := (gFor (iR1 (aCons (eFn gLen (aCons (eVar 2) aNil)) aNil)) (gN 5) y1_numbers_drawn)
noncomputable def x1_numbers_drawn : SemE := (eRep (eLst (aCons (eK (.int 0)) aNil)) (eVar 3))
noncomputable def b_numbers_drawn : SemS := (sSeq (sSet 2 (eCall 2 m_whole (aCons (eVar 0) (aCons (eVar 1) aNil)))) (sSeq (sSet 3 (eCall 2 m_power (aCons (eOp2 gIx (eVar 0) (eK (.int 0))) (aCons (eVar 1) aNil)))) (sGrid 4 8 [2, 3] (iR1 (aCons (eVar 3) aNil)) x1_numbers_drawn (g2Seq l1_numbers_drawn (g2Done 4 (sRet (eVar 4)))))))
noncomputable def m_numbers_drawn : FSem := runFn 9 b_numbers_drawn
noncomputable def b__law_well : SemS := (sSeq (sSet 2 (eIf (tb (eOp2 gLt (eVar 1) (eFn gLen (aCons (eVar 0) aNil)))) (eFn gInt (aCons (eOp2 gIx (eVar 0) (eVar 1)) aNil)) (eOp2 gAdd (eOp2 gMulX (eVar 1) (eK (.int 104723))) (eOp2 gMulX (eFn gLen (aCons (eVar 0) aNil)) (eK (.int 15485863)))))) (sRet (eLst (aCons (eFn gMax2 (aCons (eK (.int 0)) (aCons (eOp2 gSub (eFn gAbs (aCons (eVar 2) aNil)) (eOp2 gPow (eK (.int 10)) (eK (.int 18)))) aNil))) (aCons (eOp2 gMod (eFn gInt (aCons (eOp2 gAdd (eOp2 gAdd (eOp2 gMulX (eVar 2) (eK (.int 86028157))) (eOp2 gMulX (eVar 1) (eK (.int 179424691)))) (eK (.int 7919))) aNil)) (eOp2 gAdd (eOp2 gPow (eK (.int 10)) (eK (.int 25))) (eK (.int 13)))) (aCons (eK (.int 0)) aNil))))))
noncomputable def m__law_well : FSem := runFn 3 b__law_well
noncomputable def b__law_draw : SemS := (sSeq (sIf (tb (eOp2 gGt (eOp2 gIx (eVar 0) (eK (.int 0))) (eK (.int 0)))) (sSeq (sSet 2 (eOp2 gMod (eFn gInt (aCons (eOp2 gIx (eVar 0) (eK (.int 0))) aNil)) (eVar 1))) (sSeq (sSetIx 0 (eK (.int 0)) (eOp2 gDiv (eOp2 gIx (eVar 0) (eK (.int 0))) (eVar 1))) (sRet (eVar 2)))) sNil) (sSeq (sSetIx 0 (eK (.int 2)) (eOp2 gAdd (eOp2 gIx (eVar 0) (eK (.int 2))) (eK (.int 1)))) (sSeq (sSet 3 (eOp2 gMod (eFn gInt (aCons (eOp2 gPowW (eOp2 gAdd (eOp2 gIx (eVar 0) (eK (.int 1))) (eOp2 gMul (eK (.int 49979693)) (eOp2 gIx (eVar 0) (eK (.int 2))))) (eK (.int 3))) aNil)) (eOp2 gAdd (eOp2 gPow (eK (.int 10)) (eK (.int 29))) (eK (.int 319))))) (sSeq (sSet 3 (eOp2 gMod (eFn gInt (aCons (eOp2 gPowW (eOp2 gAdd (eVar 3) (eK (.int 2038074751))) (eK (.int 3))) aNil)) (eOp2 gAdd (eOp2 gPow (eK (.int 10)) (eK (.int 33))) (eK (.int 33))))) (sRet (eOp2 gMod (eFn gInt (aCons (eOp2 gDiv (eVar 3) (eOp2 gPow (eK (.int 10)) (eK (.int 6)))) aNil)) (eVar 1)))))))
noncomputable def m__law_draw : FSem := runFn 4 b__law_draw
noncomputable def x1__law_same (rec_ : FSem) : SemE := (eComp (iR1 (aCons (eFn gLen (aCons (eVar 1) aNil)) aNil)) (gN 2) tTrue (eCall 2 rec_ (aCons (eOp2 gIx (eVar 0) (eVar 2)) (aCons (eOp2 gIx (eVar 1) (eVar 2)) aNil))) [2])
noncomputable def m__law_same : Nat → FSem
  | 0 => fun _ => .bad
  | fuel + 1 => runFn 3 (sSeq (sIf (tb (eOp2 (gIsN id) (eVar 1) (eK .none))) (sRet (eOp2 (gIsN id) (eVar 0) (eK .none))) sNil) (sSeq (sIf (tb (eIsi isBool (eVar 1))) (sRet (eIf (tb (eVar 1)) (eOp2 (gIsB id) (eVar 0) (eK (.bool true))) (eOp2 (gIsB id) (eVar 0) (eK (.bool false))))) sNil) (sSeq (sIf (tb (eIsi isInt (eVar 1))) (sRet (eAnd (eIsi isInt (eVar 0)) (eAnd (eNot (eIsi isBool (eVar 0))) (eOp2 (gEq id) (eVar 0) (eVar 1))))) sNil) (sSeq (sIf (tb (eIsi isStr (eVar 1))) (sRet (eAnd (eIsi isStr (eVar 0)) (eOp2 (gEq id) (eVar 0) (eVar 1)))) sNil) (sSeq (sIf (tOr (tb (eOp2 (gEq not) (eIsi isTuple (eVar 1)) (eIsi isTuple (eVar 0)))) (tb (eOp2 (gEq not) (eIsi isList (eVar 1)) (eIsi isList (eVar 0))))) (sRet (eK (.bool false))) sNil) (sRet (eAnd (eOp2 (gEq id) (eFn gLen (aCons (eVar 0) aNil)) (eFn gLen (aCons (eVar 1) aNil))) (eFn gAll (aCons (x1__law_same (m__law_same fuel)) aNil)))))))))
noncomputable def y1__law_order : SemS := (sDrop (eMut 3 gAppend (aCons (eMut 2 gPop (aCons (eCall 2 m__law_draw (aCons (eVar 0) (aCons (eFn gLen (aCons (eVar 2) aNil)) aNil))) aNil)) aNil)))
noncomputable def l1__law_order : SemS := (sFor (iR1 (aCons (eVar 1) aNil)) (gN 4) y1__law_order)
noncomputable def b__law_order : SemS := (sSeq (sPar [2, 3] (aCons (eListRng (eVar 1)) (aCons (eLst aNil) aNil))) (sSeq l1__law_order (sRet (eVar 3))))
noncomputable def m__law_order : FSem := runFn 5 b__law_order
noncomputable def y1__law_kind : SemS := (sDrop (eMut 4 gAppend (aCons (eTup (aCons (eOp2 gMod (eFn gInt (aCons (eVar 5) aNil)) (eVar 1)) (aCons (eOp2 gDiv (eVar 5) (eVar 1)) aNil))) aNil)))
noncomputable def l1__law_kind : SemS := (sFor (iR1 (aCons (eOp2 gMul (eVar 1) (eVar 1)) aNil)) (gN 5) y1__law_kind)
noncomputable def x1__law_kind : SemE := (eComp (iOf (eCall 2 m__law_order (aCons (eVar 0) (aCons (eOp2 gMul (eVar 1) (eVar 1)) aNil)))) (gN 5) tTrue (eOp2 gIx (eVar 4) (eVar 5)) [5])
noncomputable def x2__law_kind : SemE := (eComp (iOf (eVar 4)) (gT 2 (gsCons (gN 7) (gsCons (gN 8) gsNil))) tTrue (eTup (aCons (eIf (tb (eOp2 (gEq id) (eOp2 gMod (eFn gInt (aCons (eVar 8) aNil)) (eK (.int 2))) (eK (.int 0)))) (eVar 7) (eOp2 gSub (eOp2 gSub (eVar 1) (eK (.int 1))) (eVar 7))) (aCons (eVar 8) aNil))) [7, 8])
noncomputable def x3__law_kind : SemE := (eComp (iOf (eVar 4)) (gT 2 (gsCons (gN 7) (gsCons (gN 8) gsNil))) tTrue (eTup (aCons (eVar 8) (aCons (eVar 7) aNil))) [7, 8])
noncomputable def x4__law_kind : SemE := (eComp (iOf (eVar 4)) (gT 2 (gsCons (gN 7) (gsCons (gN 8) gsNil))) tTrue (eTup (aCons (eVar 7) (aCons (eVar 8) (aCons (eCall 2 m__law_draw (aCons (eVar 0) (aCons (eVar 2) aNil))) aNil)))) [7, 8])
noncomputable def b__law_kind : SemS := (sSeq (sPar [3, 4] (aCons (eCall 2 m__law_draw (aCons (eVar 0) (aCons (eK (.int 4)) aNil))) (aCons (eLst aNil) aNil))) (sSeq l1__law_kind (sSeq (sIf (tb (eOp2 gLt (eVar 3) (eK (.int 2)))) (sSet 4 x1__law_kind) sNil) (sSeq (sIf (tb (eOp2 (gEq id) (eVar 3) (eK (.int 2)))) (sSeq (sSet 4 x2__law_kind) (sSeq (sSet 6 (eCall 2 m__law_draw (aCons (eVar 0) (aCons (eK (.int 2)) aNil)))) (sSet 4 (eIf (tb (eOp2 (gEq id) (eVar 6) (eK (.int 1)))) x3__law_kind (eVar 4))))) sNil) (sRet (eFn gTuple (aCons x4__law_kind aNil)))))))
noncomputable def m__law_kind : FSem := runFn 9 b__law_kind
noncomputable def x1__law_book : SemE := (eComp (iR1 (aCons (eVar 3) aNil)) (gN 4) tTrue (eCall 3 m__law_kind (aCons (eVar 0) (aCons (eVar 2) (aCons (eVar 3) aNil)))) [4])
noncomputable def b__law_book : SemS := (sSeq (sPar [2, 3] (aCons (eOp2 gAdd (eK (.int 2)) (eCall 2 m__law_draw (aCons (eVar 0) (aCons (eK (.int 2)) aNil)))) (aCons (eOp2 gAdd (eK (.int 1)) (eCall 2 m__law_draw (aCons (eVar 0) (aCons (eVar 1) aNil)))) aNil))) (sRet (eTup (aCons (eVar 2) (aCons (eFn gTuple (aCons x1__law_book aNil)) aNil)))))
noncomputable def m__law_book : FSem := runFn 5 b__law_book
noncomputable def y1__law_power : SemS := (sSet 2 (eOp2 gMul (eVar 2) (eVar 0)))
noncomputable def l1__law_power : SemS := (sFor (iR1 (aCons (eVar 1) aNil)) (gN 3) y1__law_power)
noncomputable def b__law_power : SemS := (sSeq (sSet 2 (eK (.int 1))) (sSeq l1__law_power (sRet (eVar 2))))
noncomputable def m__law_power : FSem := runFn 4 b__law_power
noncomputable def b__law_bad_part : SemS := (sSeq (sAsg (gT 3 (gsCons (gN 4) (gsCons (gN 5) (gsCons (gN 6) gsNil)))) (eVar 3)) (sSeq (sSet 7 (eLst (aCons (eTup (aCons (eVar 1) (aCons (eVar 5) (aCons (eVar 6) aNil)))) (aCons (eTup (aCons (eVar 4) (aCons (eVar 1) (aCons (eVar 6) aNil)))) (aCons (eTup (aCons (eNeg (eK (.int 1))) (aCons (eVar 5) (aCons (eVar 6) aNil)))) (aCons (eTup (aCons (eVar 4) (aCons (eNeg (eK (.int 1))) (aCons (eVar 6) aNil)))) (aCons (eTup (aCons (eVar 4) (aCons (eVar 5) (aCons (eVar 2) aNil)))) (aCons (eTup (aCons (eVar 4) (aCons (eVar 5) (aCons (eNeg (eK (.int 1))) aNil)))) (aCons (eTup (aCons (eVar 4) (aCons (eVar 5) aNil))) (aCons (eFn gList (aCons (eVar 3) aNil)) aNil)))))))))) (sSeq (sSet 7 (eOp2 gAdd (eVar 7) (eLst (aCons (eTup (aCons (eVar 4) (aCons (eVar 5) (aCons (eVar 6) (aCons (eK (.int 0)) aNil))))) (aCons (eTup (aCons (eFn gStr (aCons (eVar 4) aNil)) (aCons (eVar 5) (aCons (eVar 6) aNil)))) (aCons (eTup (aCons (eVar 4) (aCons (eK .none) (aCons (eVar 6) aNil)))) (aCons (eTup (aCons (eVar 4) (aCons (eVar 5) (aCons (eK (.bool true)) aNil)))) (aCons (eTup (aCons (eK (.bool true)) (aCons (eVar 5) (aCons (eVar 6) aNil)))) aNil)))))))) (sSeq (sSet 7 (eOp2 gAdd (eVar 7) (eLst (aCons (eTup (aCons (eVar 4) (aCons (eK (.bool true)) (aCons (eVar 6) aNil)))) (aCons (eTup (aCons (eK (.bool false)) (aCons (eVar 5) (aCons (eVar 6) aNil)))) (aCons (eTup (aCons (eVar 4) (aCons (eK (.str "0")) (aCons (eVar 6) aNil)))) (aCons (eTup (aCons (eVar 4) (aCons (eVar 5) (aCons (eK (.str "0")) aNil)))) aNil))))))) (sRet (eOp2 gIx (eOp2 gAdd (eVar 7) (eLst (aCons (eTup (aCons (eVar 4) (aCons (eVar 5) (aCons (eTup (aCons (eVar 6) aNil)) aNil)))) (aCons (eK .none) (aCons (eTup aNil) (aCons (eK (.str "0 0 0")) (aCons (eK (.int 0)) aNil))))))) (eCall 2 m__law_draw (aCons (eVar 0) (aCons (eK (.int 22)) aNil)))))))))
noncomputable def m__law_bad_part : FSem := runFn 8 b__law_bad_part
noncomputable def x1__law_bad_book : SemE := (eComp (iOf (eVar 3)) (gN 13) tTrue (eCall 3 m__law_kind (aCons (eVar 0) (aCons (eVar 8) (aCons (eFn gLen (aCons (eVar 3) aNil)) aNil)))) [13])
noncomputable def b__law_bad_book : SemS := (sSeq (sAsg (gT 2 (gsCons (gN 2) (gsCons (gN 3) gsNil))) (eVar 1)) (sSeq (sPar [4, 5] (aCons (eCall 2 m__law_draw (aCons (eVar 0) (aCons (eFn gLen (aCons (eVar 3) aNil)) aNil))) (aCons (eCall 2 m__law_draw (aCons (eVar 0) (aCons (eK (.int 8)) aNil))) aNil))) (sSeq (sSet 6 (eOp2 gIx (eVar 3) (eVar 4))) (sSeq (sSet 7 (eCall 2 m__law_draw (aCons (eVar 0) (aCons (eFn gLen (aCons (eVar 6) aNil)) aNil)))) (sSeq (sIf (tb (eOp2 (gEq id) (eVar 5) (eK (.int 0)))) (sSeq (sSet 8 (eOp2 gIx (eLst (aCons (eK (.int 1)) (aCons (eK (.int 4)) (aCons (eK (.int 5)) aNil)))) (eCall 2 m__law_draw (aCons (eVar 0) (aCons (eK (.int 3)) aNil))))) (sSeq (sIf (tb (eOp2 (gEq id) (eCall 2 m__law_draw (aCons (eVar 0) (aCons (eK (.int 3)) aNil))) (eK (.int 0)))) (sRet (eTup (aCons (eVar 8) (aCons (eFn gTuple (aCons x1__law_bad_book aNil)) aNil)))) sNil) (sSeq (sSet 9 (eLst (aCons (eK (.int 1)) (aCons (eK (.int 4)) (aCons (eK (.int 0)) (aCons (eNeg (eK (.int 2))) (aCons (eOp2 gSub (eK (.int 5)) (eVar 2)) (aCons (eK (.bool true)) (aCons (eK .none) (aCons (eK (.str "2")) (aCons (eTup (aCons (eVar 2) aNil)) (aCons (eLst (aCons (eVar 2) aNil)) aNil)))))))))))) (sRet (eTup (aCons (eOp2 gIx (eVar 9) (eCall 2 m__law_draw (aCons (eVar 0) (aCons (eK (.int 10)) aNil)))) (aCons (eVar 3) aNil))))))) sNil) (sSeq (sIf (tb (eOp2 gLt (eVar 5) (eK (.int 4)))) (sSeq (sSet 10 (eCall 4 m__law_bad_part (aCons (eVar 0) (aCons (eVar 2) (aCons (eFn gLen (aCons (eVar 3) aNil)) (aCons (eOp2 gIx (eVar 6) (eVar 7)) aNil)))))) (sRet (eTup (aCons (eVar 2) (aCons (eOp2 gAdd (eOp2 gAdd (eSl (eVar 3) pNo (pSo (eVar 4))) (eTup (aCons (eOp2 gAdd (eOp2 gAdd (eSl (eVar 6) pNo (pSo (eVar 7))) (eTup (aCons (eVar 10) aNil))) (eSl (eVar 6) (pSo (eOp2 gAdd (eVar 7) (eK (.int 1)))) pNo)) aNil))) (eSl (eVar 3) (pSo (eOp2 gAdd (eVar 4) (eK (.int 1)))) pNo)) aNil))))) sNil) (sSeq (sIf (tb (eOp2 (gEq id) (eVar 5) (eK (.int 4)))) (sSeq (sSet 8 (eOp2 gIx (eVar 6) (eOp2 gMod (eFn gInt (aCons (eOp2 gAdd (eVar 7) (eK (.int 1))) aNil)) (eFn gLen (aCons (eVar 6) aNil))))) (sSeq (sSet 11 (eTup (aCons (eOp2 gIx (eVar 8) (eK (.int 0))) (aCons (eOp2 gIx (eVar 8) (eK (.int 1))) (aCons (eOp2 gIx (eOp2 gIx (eVar 6) (eVar 7)) (eK (.int 2))) aNil))))) (sRet (eTup (aCons (eVar 2) (aCons (eOp2 gAdd (eOp2 gAdd (eSl (eVar 3) pNo (pSo (eVar 4))) (eTup (aCons (eOp2 gAdd (eOp2 gAdd (eSl (eVar 6) pNo (pSo (eVar 7))) (eTup (aCons (eVar 11) aNil))) (eSl (eVar 6) (pSo (eOp2 gAdd (eVar 7) (eK (.int 1)))) pNo)) aNil))) (eSl (eVar 3) (pSo (eOp2 gAdd (eVar 4) (eK (.int 1)))) pNo)) aNil)))))) sNil) (sSeq (sIf (tb (eOp2 (gEq id) (eVar 5) (eK (.int 5)))) (sSeq (sSet 10 (eOp2 gIx (eLst (aCons (eSl (eVar 6) pNo (pSo (eNeg (eK (.int 1))))) (aCons (eOp2 gAdd (eVar 6) (eSl (eVar 6) (pSo (eNeg (eK (.int 1)))) pNo)) (aCons (eFn gList (aCons (eVar 6) aNil)) (aCons (eK .none) (aCons (eTup aNil) (aCons (eK (.int 0)) (aCons (eK (.str "")) (aCons (eOp2 gIx (eVar 6) (eK (.int 0))) aNil))))))))) (eCall 2 m__law_draw (aCons (eVar 0) (aCons (eK (.int 8)) aNil))))) (sRet (eTup (aCons (eVar 2) (aCons (eOp2 gAdd (eOp2 gAdd (eSl (eVar 3) pNo (pSo (eVar 4))) (eTup (aCons (eVar 10) aNil))) (eSl (eVar 3) (pSo (eOp2 gAdd (eVar 4) (eK (.int 1)))) pNo)) aNil))))) sNil) (sSeq (sSet 12 (eLst (aCons (eTup (aCons (eVar 2) (aCons (eTup aNil) aNil))) (aCons (eTup (aCons (eVar 2) (aCons (eFn gList (aCons (eVar 3) aNil)) aNil))) (aCons (eLst (aCons (eVar 2) (aCons (eVar 3) aNil))) (aCons (eTup (aCons (eVar 2) aNil)) (aCons (eTup (aCons (eVar 2) (aCons (eVar 3) (aCons (eK (.int 0)) aNil)))) (aCons (eTup (aCons (eVar 3) (aCons (eVar 2) aNil))) (aCons (eK .none) (aCons (eK (.int 3)) (aCons (eK (.str "book 2")) (aCons (eTup aNil) (aCons (eK (.bool true)) aNil))))))))))))) (sRet (eOp2 gIx (eVar 12) (eCall 2 m__law_draw (aCons (eVar 0) (aCons (eK (.int 11)) aNil))))))))))))))
noncomputable def m__law_bad_book : FSem := runFn 14 b__law_bad_book
noncomputable def b__law_told : SemS := (sSeq (sPar [4, 5] (aCons (eK (.str "")) (aCons (eK .none) aNil))) (sSeq (sTry (["ThreadError", "InvalidBook", "InvalidDepth"] : List Str) (sIf (tb (eOp2 (gEq id) (eVar 0) (eK (.int 0)))) (sSet 5 (eFn gLen (aCons (eIf (tb (eVar 3)) (eCallK 2 [1, 0] m_drawn (aCons (eVar 2) (aCons (eVar 1) aNil))) (eCall 2 m_drawn (aCons (eVar 1) (aCons (eVar 2) aNil)))) aNil))) (sSet 5 (eFn gLen (aCons (eIf (tb (eVar 3)) (eCallK 2 [1, 0] m_numbers_drawn (aCons (eVar 2) (aCons (eVar 1) aNil))) (eCall 2 m_numbers_drawn (aCons (eVar 1) (aCons (eVar 2) aNil)))) aNil)))) [("InvalidBook", some 6, sPut2 4 5 (.str "book")), ("InvalidDepth", some 6, sPut2 4 5 (.str "depth")), ("ThreadError", none, fun _ => (sSet 4 (eK (.str "other"))))]) (sRet (eTup (aCons (eVar 4) (aCons (eVar 5) aNil))))))
noncomputable def m__law_told : FSem := runFn 7 b__law_told
noncomputable def x1__law_alike (rec_ : FSem) : SemE := (eCompG (iZipV 0 1) (gT 2 (gsCons (gN 2) (gsCons (gN 3) gsNil))) tTrue (eCall 2 rec_ (aCons (eVar 2) (aCons (eVar 3) aNil))) [2, 3])
noncomputable def m__law_alike : Nat → FSem
  | 0 => fun _ => .bad
  | fuel + 1 => runFn 4 (sSeq (sIf (tb (eIsi isTL (eVar 1))) (sSeq (sIf (tOr (tb (eOp2 (gEq not) (eIsi isTuple (eVar 1)) (eIsi isTuple (eVar 0)))) (tb (eOp2 (gEq not) (eIsi isList (eVar 1)) (eIsi isList (eVar 0))))) (sRet (eK (.bool false))) sNil) (sRet (eAnd (eOp2 (gEq id) (eFn gLen (aCons (eVar 0) aNil)) (eFn gLen (aCons (eVar 1) aNil))) (eFn gAll (aCons (x1__law_alike (m__law_alike fuel)) aNil))))) sNil) (sRet (eAnd (eOp2 (gEq id) (eIsi isBool (eVar 0)) (eIsi isBool (eVar 1))) (eOp2 (gEq id) (eVar 0) (eVar 1)))))
noncomputable def y1_law : SemS := (sSeq (sSet 3 (eCall 2 m__law_well (aCons (eVar 0) (aCons (eVar 2) aNil)))) (sSeq (sPar [4, 5, 6] (aCons (eCall 2 m__law_draw (aCons (eVar 3) (aCons (eK (.int 2)) aNil))) (aCons (eOp2 (gEq id) (eCall 2 m__law_draw (aCons (eVar 3) (aCons (eK (.int 2)) aNil))) (eK (.int 0))) (aCons (eCall 2 m__law_draw (aCons (eVar 3) (aCons (eK (.int 5)) aNil))) aNil)))) (sSeq (sPar [7, 8] (aCons (eCall 2 m__law_book (aCons (eVar 3) (aCons (eOp2 gIx (eLst (aCons (eK (.int 1)) (aCons (eK (.int 3)) (aCons (eK (.int 8)) (aCons (eK (.int 20)) aNil))))) (eCall 2 m__law_draw (aCons (eVar 3) (aCons (eK (.int 4)) aNil)))) aNil))) (aCons (eCall 2 m__law_draw (aCons (eVar 3) (aCons (eK (.int 3)) aNil))) aNil))) (sSeq (sSet 9 (eTup (aCons (eK (.str "")) (aCons (eOp2 gIx (eLst (aCons (eOp2 gSub (eOp2 gMul (eK (.int 2)) (eCall 2 m__law_power (aCons (eOp2 gIx (eVar 7) (eK (.int 0))) (aCons (eVar 8) aNil)))) (eK (.int 1))) (aCons (eCall 2 m__law_power (aCons (eOp2 gIx (eVar 7) (eK (.int 0))) (aCons (eVar 8) aNil))) aNil))) (eVar 4)) aNil)))) (sSeq (sIf (tb (eOp2 (gIn id) (eVar 6) (eTup (aCons (eK (.int 1)) (aCons (eK (.int 4)) aNil))))) (sSeq (sSet 8 (eOp2 gIx (eLst (aCons (eNeg (eK (.int 1))) (aCons (eNeg (eK (.int 5))) (aCons (eOp2 gSub (eK (.int 0)) (eOp2 gPow (eK (.int 10)) (eK (.int 9)))) (aCons (eK .none) (aCons (eK (.bool true)) (aCons (eK (.bool false)) (aCons (eK (.str "1")) (aCons (eTup (aCons (eK (.int 1)) aNil)) (aCons (eLst (aCons (eK (.int 1)) aNil)) (aCons (eTup (aCons (eK (.int 1)) (aCons (eK (.int 1)) aNil))) aNil))))))))))) (eCall 2 m__law_draw (aCons (eVar 3) (aCons (eK (.int 10)) aNil))))) (sSet 9 (eTup (aCons (eK (.str "depth")) (aCons (eVar 8) aNil))))) sNil) (sSeq (sIf (tb (eOp2 (gIn id) (eVar 6) (eTup (aCons (eK (.int 2)) (aCons (eK (.int 3)) (aCons (eK (.int 4)) aNil)))))) (sSeq (sSet 7 (eCall 2 m__law_bad_book (aCons (eVar 3) (aCons (eVar 7) aNil)))) (sSet 9 (eTup (aCons (eK (.str "book")) (aCons (eVar 7) aNil))))) sNil) (sSeq (sSet 10 (eCall 4 m__law_told (aCons (eVar 4) (aCons (eVar 7) (aCons (eVar 8) (aCons (eVar 5) aNil)))))) (sSeq (sIf (tOr (tb (eOp2 (gEq not) (eOp2 gIx (eVar 10) (eK (.int 0))) (eOp2 gIx (eVar 9) (eK (.int 0))))) (tNot (tb (eCall 2 (m__law_alike 8) (aCons (eOp2 gIx (eVar 10) (eK (.int 1))) (aCons (eOp2 gIx (eVar 9) (eK (.int 1))) aNil)))))) (sRet (eK (.bool false))) sNil) (sIf (tb (eOp2 (gEq id) (eOp2 gIx (eVar 9) (eK (.int 0))) (eK (.str "")))) (sDrop (eMut 1 gAppend (aCons (eTup (aCons (eVar 4) (aCons (eVar 7) (aCons (eVar 8) (aCons (eVar 9) aNil))))) aNil))) sNil)))))))))
noncomputable def l1_law : SemS := (sFor (iR1 (aCons (eFn gMax2 (aCons (eK (.int 16)) (aCons (eFn gMin2 (aCons (eK (.int 20)) (aCons (eFn gLen (aCons (eVar 0) aNil)) aNil))) aNil))) aNil)) (gN 2) y1_law)
noncomputable def y2_law : SemS := (sIf (tNot (tb (eCall 2 (m__law_same 8) (aCons (eCall 4 m__law_told (aCons (eVar 4) (aCons (eVar 7) (aCons (eVar 8) (aCons (eK (.bool true)) aNil))))) (aCons (eVar 9) aNil))))) (sRet (eK (.bool false))) sNil)
noncomputable def l2_law : SemS := (sFor (iOf (eSl (eVar 1) pNo (pSo (eK (.int 6))))) (gT 4 (gsCons (gN 4) (gsCons (gN 7) (gsCons (gN 8) (gsCons (gN 9) gsNil))))) y2_law)
noncomputable def b_law : SemS := (sSeq (sSet 1 (eLst aNil)) (sSeq l1_law (sSeq l2_law (sRet (eK (.bool true))))))
noncomputable def m_law : FSem := runFn 11 b_law
end Lw

set_option maxHeartbeats 4000000
namespace Lw
open PySem PySem.Spec PyProof.Rows L2 Ev Lz
theorem boot_len : bootBuiltins "len" = some (.builtin "len") := by decide +kernel
theorem boot_abs : bootBuiltins "abs" = some (.builtin "abs") := by decide +kernel
theorem boot_divmod : bootBuiltins "divmod" = some (.builtin "divmod") := by decide +kernel
theorem boot_all : bootBuiltins "all" = some (.builtin "all") := by decide +kernel
theorem boot_max : bootBuiltins "max" = some (.builtin "max") := by decide +kernel
theorem boot_min : bootBuiltins "min" = some (.builtin "min") := by decide +kernel
theorem boot_int : bootBuiltins "int" = some (.type "int") := by decide +kernel
theorem boot_tuple : bootBuiltins "tuple" = some (.type "tuple") := by decide +kernel
theorem boot_list : bootBuiltins "list" = some (.type "list") := by decide +kernel
theorem boot_bool : bootBuiltins "bool" = some (.type "bool") := by decide +kernel
theorem boot_str : bootBuiltins "str" = some (.type "str") := by decide +kernel
section
variable {P : Program} {w : World} {K : PySem.W.Frag} {h : Heap} {mg : Str → Option Value} {base : Heap}
theorem sc_ini : FnScope ["self", "value"] ["self", "value"] (defScope s_ini) := ⟨rfl, rfl, rfl, by decide +kernel, rfl, by decide +kernel, by decide +kernel⟩
theorem ok_ini (X0 : K.In h) (G : h.Ns mainGlobals mg) (c : He.SaysD fa fn K) : ∃ fd, FunD K "__init__" "ThreadError.__init__" (defArgs s_ini) (defBody s_ini) (defScope s_ini) [] [] (He.fAd K iniP) fd ∧ FnOk P w K mg base (L2N.CX P w) 1 (He.fAd K iniP) fd ["self", "value"] (spI K) := by
  obtain ⟨fd, F⟩ := c.def_ 30 (d := d_ini) rfl
  exact ⟨fd, F, ini_ok F sc_ini rfl rfl rfl⟩
abbrev N_is_whole : List Str := ["told"]
theorem sc_is_whole : FnScope N_is_whole ["told"] (defScope s_is_whole) := ⟨rfl, rfl, rfl, by decide +kernel, rfl, by decide +kernel, by decide +kernel⟩
theorem ok_is_whole (X0 : K.In h) (G : h.Ns mainGlobals mg) (c : He.SaysD fa fn K) (cx : exB (["ThreadError", "InvalidBook", "InvalidDepth"] : List Str) K = true) : ∃ fd, FunD K "is_whole" "is_whole" (defArgs s_is_whole) (defBody s_is_whole) (defScope s_is_whole) [] [] (He.ga K "is_whole") fd ∧ FnOk P w K mg base (L2N.CX P w) 1 (He.ga K "is_whole") fd ["told"] (spF K 1 m_is_whole) := by
  have f_bool : mg "bool" = none := He.free_ok X0 G (c.fact 33 rfl)
  have f_int : mg "int" = none := He.free_ok X0 G (c.fact 35 rfl)
  have f_isinstance : mg "isinstance" = none := He.free_ok X0 G (c.fact 36 rfl)
  obtain ⟨fd, F⟩ := c.def_ 0 (d := d_is_whole) rfl
  refine ⟨fd, F, fn_ok (k := 0) F sc_is_whole fun cdv A outer s H E hr B => ?_⟩
  have hp : PassesOwn (model P w) _ _ _ := passes_of (X := cxOf (L2N.CX P w) P w K mg base N_is_whole "is_whole" (defScope s_is_whole) (He.ga K "is_whole") cdv A outer s H E) (K := fun e s'' => L2N.CX P w outer H s E e s'') rfl
  have tk := L2N.takes_of (X := cxOf (L2N.CX P w) P w K mg base N_is_whole "is_whole" (defScope s_is_whole) (He.ga K "is_whole") cdv A outer s H E) (E := E) rfl rfl rfl rfl
  have nd := sc_is_whole.nd
  exact (qone (qret (qand (qisi k_int rfl f_isinstance rfl f_int boot_int (qvar (i := 0) rfl (.inl rfl))) (qone_ (qnot (qisi k_bool rfl f_isinstance rfl f_bool boot_bool (qvar (i := 0) rfl (.inl rfl))))))))
abbrev N_is_count : List Str := ["told"]
theorem sc_is_count : FnScope N_is_count ["told"] (defScope s_is_count) := ⟨rfl, rfl, rfl, by decide +kernel, rfl, by decide +kernel, by decide +kernel⟩
theorem ok_is_count (X0 : K.In h) (G : h.Ns mainGlobals mg) (c : He.SaysD fa fn K) (cx : exB (["ThreadError", "InvalidBook", "InvalidDepth"] : List Str) K = true) : ∃ fd, FunD K "is_count" "is_count" (defArgs s_is_count) (defBody s_is_count) (defScope s_is_count) [] [] (He.ga K "is_count") fd ∧ FnOk P w K mg base (L2N.CX P w) 2 (He.ga K "is_count") fd ["told"] (spF K 1 m_is_count) := by
  obtain ⟨fd_is_whole, F_is_whole, O_is_whole⟩ := ok_is_whole (P := P) (w := w) (base := base) X0 G c cx
  have b_is_whole : Binds K fd_is_whole ["told"] [] := F_is_whole.bindsN fun _ _ _ _ _ _ us hl => match us, hl with | [_], _ => rfl
  have g_is_whole : mg "is_whole" = some (.ref (He.ga K "is_whole")) := He.glo_ok X0 G (c.fact 0 rfl)
  obtain ⟨fd, F⟩ := c.def_ 1 (d := d_is_count) rfl
  refine ⟨fd, F, fn_ok (k := 1) F sc_is_count fun cdv A outer s H E hr B => ?_⟩
  have hp : PassesOwn (model P w) _ _ _ := passes_of (X := cxOf (L2N.CX P w) P w K mg base N_is_count "is_count" (defScope s_is_count) (He.ga K "is_count") cdv A outer s H E) (K := fun e s'' => L2N.CX P w outer H s E e s'') rfl
  have tk := L2N.takes_of (X := cxOf (L2N.CX P w) P w K mg base N_is_count "is_count" (defScope s_is_count) (He.ga K "is_count") cdv A outer s H E) (E := E) rfl rfl rfl rfl
  have nd := sc_is_count.nd
  exact (qone (qret (qand (qcall O_is_whole (hr.mono (by decide)) rfl g_is_whole F_is_whole.kp b_is_whole (fun σ => L2N.passAt tk σ) (qa_cons (qvar (i := 0) rfl (.inl rfl)) qa_nil)) (qone_ (qcmp op_ge does_ge (qvar (i := 0) rfl (.inl rfl)) qint)))))
abbrev N_is_index : List Str := ["told", "many"]
theorem sc_is_index : FnScope N_is_index ["told", "many"] (defScope s_is_index) := ⟨rfl, rfl, rfl, by decide +kernel, rfl, by decide +kernel, by decide +kernel⟩
theorem ok_is_index (X0 : K.In h) (G : h.Ns mainGlobals mg) (c : He.SaysD fa fn K) (cx : exB (["ThreadError", "InvalidBook", "InvalidDepth"] : List Str) K = true) : ∃ fd, FunD K "is_index" "is_index" (defArgs s_is_index) (defBody s_is_index) (defScope s_is_index) [] [] (He.ga K "is_index") fd ∧ FnOk P w K mg base (L2N.CX P w) 3 (He.ga K "is_index") fd ["told", "many"] (spF K 2 m_is_index) := by
  obtain ⟨fd_is_count, F_is_count, O_is_count⟩ := ok_is_count (P := P) (w := w) (base := base) X0 G c cx
  have b_is_count : Binds K fd_is_count ["told"] [] := F_is_count.bindsN fun _ _ _ _ _ _ us hl => match us, hl with | [_], _ => rfl
  have g_is_count : mg "is_count" = some (.ref (He.ga K "is_count")) := He.glo_ok X0 G (c.fact 1 rfl)
  obtain ⟨fd, F⟩ := c.def_ 2 (d := d_is_index) rfl
  refine ⟨fd, F, fn_ok (k := 2) F sc_is_index fun cdv A outer s H E hr B => ?_⟩
  have hp : PassesOwn (model P w) _ _ _ := passes_of (X := cxOf (L2N.CX P w) P w K mg base N_is_index "is_index" (defScope s_is_index) (He.ga K "is_index") cdv A outer s H E) (K := fun e s'' => L2N.CX P w outer H s E e s'') rfl
  have tk := L2N.takes_of (X := cxOf (L2N.CX P w) P w K mg base N_is_index "is_index" (defScope s_is_index) (He.ga K "is_index") cdv A outer s H E) (E := E) rfl rfl rfl rfl
  have nd := sc_is_index.nd
  exact (qone (qret (qand (qcall O_is_count (hr.mono (by decide)) rfl g_is_count F_is_count.kp b_is_count (fun σ => L2N.passAt tk σ) (qa_cons (qvar (i := 0) rfl (.inl rfl)) qa_nil)) (qone_ (qcmp op_lt does_lt (qvar (i := 0) rfl (.inl rfl)) (qvar (i := 1) rfl (.inl rfl)))))))
abbrev N_power : List Str := ["base", "times", "result", "_"]
theorem sc_power : FnScope N_power ["base", "times"] (defScope s_power) := ⟨rfl, rfl, rfl, by decide +kernel, rfl, by decide +kernel, by decide +kernel⟩
theorem ok_power (X0 : K.In h) (G : h.Ns mainGlobals mg) (c : He.SaysD fa fn K) (cx : exB (["ThreadError", "InvalidBook", "InvalidDepth"] : List Str) K = true) : ∃ fd, FunD K "power" "power" (defArgs s_power) (defBody s_power) (defScope s_power) [] [] (He.ga K "power") fd ∧ FnOk P w K mg base (L2N.CX P w) 1 (He.ga K "power") fd ["base", "times"] (spF K 2 m_power) := by
  have f_range : mg "range" = none := He.free_ok X0 G (c.fact 41 rfl)
  obtain ⟨fd, F⟩ := c.def_ 3 (d := d_power) rfl
  refine ⟨fd, F, fn_ok (k := 0) F sc_power fun cdv A outer s H E hr B => ?_⟩
  have hp : PassesOwn (model P w) _ _ _ := passes_of (X := cxOf (L2N.CX P w) P w K mg base N_power "power" (defScope s_power) (He.ga K "power") cdv A outer s H E) (K := fun e s'' => L2N.CX P w outer H s E e s'') rfl
  have tk := L2N.takes_of (X := cxOf (L2N.CX P w) P w K mg base N_power "power" (defScope s_power) (He.ga K "power") cdv A outer s H E) (E := E) rfl rfl rfl rfl
  have nd := sc_power.nd
  exact (qcons (qset (i := 2) nd rfl (.inl rfl) qint) (qcons (qfor (ws := [3]) hp rfl (qir1 rfl f_range (qa_cons (qvar (i := 1) rfl (.inl rfl)) qa_nil)) (fun B => (qgn (i := 3) nd rfl (.inl rfl) (by decide))) (fun B => (qone (qset (i := 2) nd rfl (.inl rfl) (qop op_mulW does_mul (qvar (i := 2) rfl (.inl rfl)) (qvar (i := 0) rfl (.inl rfl))))))) (qone (qret (qvar (i := 2) rfl (.inl rfl))))))
abbrev N_digits_of : List Str := ["number", "base", "many", "digits", "_", "digit"]
theorem sc_digits_of : FnScope N_digits_of ["number", "base", "many"] (defScope s_digits_of) := ⟨rfl, rfl, rfl, by decide +kernel, rfl, by decide +kernel, by decide +kernel⟩
theorem ok_digits_of (X0 : K.In h) (G : h.Ns mainGlobals mg) (c : He.SaysD fa fn K) (cx : exB (["ThreadError", "InvalidBook", "InvalidDepth"] : List Str) K = true) : ∃ fd, FunD K "digits_of" "digits_of" (defArgs s_digits_of) (defBody s_digits_of) (defScope s_digits_of) [] [] (He.ga K "digits_of") fd ∧ FnOk P w K mg base (L2N.CX P w) 1 (He.ga K "digits_of") fd ["number", "base", "many"] (spF K 3 m_digits_of) := by
  have f_divmod : mg "divmod" = none := He.free_ok X0 G (c.fact 34 rfl)
  have f_range : mg "range" = none := He.free_ok X0 G (c.fact 41 rfl)
  obtain ⟨fd, F⟩ := c.def_ 4 (d := d_digits_of) rfl
  refine ⟨fd, F, fn_ok (k := 0) F sc_digits_of fun cdv A outer s H E hr B => ?_⟩
  have hp : PassesOwn (model P w) _ _ _ := passes_of (X := cxOf (L2N.CX P w) P w K mg base N_digits_of "digits_of" (defScope s_digits_of) (He.ga K "digits_of") cdv A outer s H E) (K := fun e s'' => L2N.CX P w outer H s E e s'') rfl
  have tk := L2N.takes_of (X := cxOf (L2N.CX P w) P w K mg base N_digits_of "digits_of" (defScope s_digits_of) (He.ga K "digits_of") cdv A outer s H E) (E := E) rfl rfl rfl rfl
  have nd := sc_digits_of.nd
  exact (qcons (qset (i := 3) nd rfl (.inl rfl) (qlst qa_nil)) (qcons (qfor (ws := [4]) hp rfl (qir1 rfl f_range (qa_cons (qvar (i := 2) rfl (.inl rfl)) qa_nil)) (fun B => (qgn (i := 4) nd rfl (.inl rfl) (by decide))) (fun B => (qcons (qasg (ws := [0, 5]) (qfnB call_divmod does_divmod rfl f_divmod boot_divmod (qa_cons (qvar (i := 0) rfl (.inl rfl)) (qa_cons (qvar (i := 1) rfl (.inl rfl)) qa_nil))) (qgt rfl (qgscons (qgn (i := 0) nd rfl (.inl rfl) (by decide)) (qgscons (qgn (i := 5) nd rfl (.inl rfl) (by decide)) qgsnil)))) (qone (qexpr (qmeth (i := 3) PySem.F.slot_list_append PySem.F.type_list_append mt_append does_append rfl (.inl rfl) (qa_cons (qvar (i := 5) rfl (.inl rfl)) qa_nil))))))) (qone (qret (qrev (qvar (i := 3) rfl (.inl rfl)))))))
abbrev N__is_part : List Str := ["b", "many", "told", "x", "y", "kind"]
theorem sc__is_part : FnScope N__is_part ["b", "many", "told"] (defScope s__is_part) := ⟨rfl, rfl, rfl, by decide +kernel, rfl, by decide +kernel, by decide +kernel⟩
theorem ok__is_part (X0 : K.In h) (G : h.Ns mainGlobals mg) (c : He.SaysD fa fn K) (cx : exB (["ThreadError", "InvalidBook", "InvalidDepth"] : List Str) K = true) : ∃ fd, FunD K "_is_part" "_is_part" (defArgs s__is_part) (defBody s__is_part) (defScope s__is_part) [] [] (He.ga K "_is_part") fd ∧ FnOk P w K mg base (L2N.CX P w) 4 (He.ga K "_is_part") fd ["b", "many", "told"] (spF K 3 m__is_part) := by
  obtain ⟨fd_is_index, F_is_index, O_is_index⟩ := ok_is_index (P := P) (w := w) (base := base) X0 G c cx
  have b_is_index : Binds K fd_is_index ["told", "many"] [] := F_is_index.bindsN fun _ _ _ _ _ _ us hl => match us, hl with | [_, _], _ => rfl
  have g_is_index : mg "is_index" = some (.ref (He.ga K "is_index")) := He.glo_ok X0 G (c.fact 2 rfl)
  have f_isinstance : mg "isinstance" = none := He.free_ok X0 G (c.fact 36 rfl)
  have f_len : mg "len" = none := He.free_ok X0 G (c.fact 37 rfl)
  have f_tuple : mg "tuple" = none := He.free_ok X0 G (c.fact 44 rfl)
  obtain ⟨fd, F⟩ := c.def_ 7 (d := d__is_part) rfl
  refine ⟨fd, F, fn_ok (k := 3) F sc__is_part fun cdv A outer s H E hr B => ?_⟩
  have hp : PassesOwn (model P w) _ _ _ := passes_of (X := cxOf (L2N.CX P w) P w K mg base N__is_part "_is_part" (defScope s__is_part) (He.ga K "_is_part") cdv A outer s H E) (K := fun e s'' => L2N.CX P w outer H s E e s'') rfl
  have tk := L2N.takes_of (X := cxOf (L2N.CX P w) P w K mg base N__is_part "_is_part" (defScope s__is_part) (He.ga K "_is_part") cdv A outer s H E) (E := E) rfl rfl rfl rfl
  have nd := sc__is_part.nd
  exact (qcons (qif (QW.t (qw_or (qtnot (qtval (qisi k_tuple rfl f_isinstance rfl f_tuple boot_tuple (qvar (i := 2) rfl (.inl rfl))))) (qw_or1 (qtcmp (op_neD hr.units) does_ne (qfnB call_len_seq does_len rfl f_len boot_len (qa_cons (qvar (i := 2) rfl (.inl rfl)) qa_nil)) qint)))) (qone (qret qbl)) qnil) (qcons (qasg (ws := [3, 4, 5]) (qvar (i := 2) rfl (.inl rfl)) (qgt rfl (qgscons (qgn (i := 3) nd rfl (.inl rfl) (by decide)) (qgscons (qgn (i := 4) nd rfl (.inl rfl) (by decide)) (qgscons (qgn (i := 5) nd rfl (.inl rfl) (by decide)) qgsnil))))) (qone (qret (qand (qcall O_is_index (hr.mono (by decide)) rfl g_is_index F_is_index.kp b_is_index (fun σ => L2N.passAt tk σ) (qa_cons (qvar (i := 3) rfl (.inl rfl)) (qa_cons (qvar (i := 0) rfl (.inl rfl)) qa_nil))) (qand (qcall O_is_index (hr.mono (by decide)) rfl g_is_index F_is_index.kp b_is_index (fun σ => L2N.passAt tk σ) (qa_cons (qvar (i := 4) rfl (.inl rfl)) (qa_cons (qvar (i := 0) rfl (.inl rfl)) qa_nil))) (qone_ (qcall O_is_index (hr.mono (by decide)) rfl g_is_index F_is_index.kp b_is_index (fun σ => L2N.passAt tk σ) (qa_cons (qvar (i := 5) rfl (.inl rfl)) (qa_cons (qvar (i := 1) rfl (.inl rfl)) qa_nil))))))))))
abbrev N_places_of : List Str := ["parts", "part"]
theorem sc_places_of : FnScope N_places_of ["parts"] (defScope s_places_of) := ⟨rfl, rfl, rfl, by decide +kernel, rfl, by decide +kernel, by decide +kernel⟩
theorem ok_places_of (X0 : K.In h) (G : h.Ns mainGlobals mg) (c : He.SaysD fa fn K) (cx : exB (["ThreadError", "InvalidBook", "InvalidDepth"] : List Str) K = true) : ∃ fd, FunD K "places_of" "places_of" (defArgs s_places_of) (defBody s_places_of) (defScope s_places_of) [] [] (He.ga K "places_of") fd ∧ FnOk P w K mg base (L2N.CX P w) 1 (He.ga K "places_of") fd ["parts"] (spF K 1 m_places_of) := by
  obtain ⟨fd, F⟩ := c.def_ 8 (d := d_places_of) rfl
  refine ⟨fd, F, fn_ok (k := 0) F sc_places_of fun cdv A outer s H E hr B => ?_⟩
  have hp : PassesOwn (model P w) _ _ _ := passes_of (X := cxOf (L2N.CX P w) P w K mg base N_places_of "places_of" (defScope s_places_of) (He.ga K "places_of") cdv A outer s H E) (K := fun e s'' => L2N.CX P w outer H s E e s'') rfl
  have tk := L2N.takes_of (X := cxOf (L2N.CX P w) P w K mg base N_places_of "places_of" (defScope s_places_of) (He.ga K "places_of") cdv A outer s H E) (E := E) rfl rfl rfl rfl
  have nd := sc_places_of.nd
  exact (qone (qret (qcomp (vs := [1]) rfl nd (qiof (qvar (i := 0) rfl (.inl rfl))) (blkOk_by (own := [("part", 1)]) (N := N_places_of) (sc := defScope s_places_of) (by decide +kernel)) (gok_n (by decide)) rfl (fun _ _ _ _ _ B => (qgn (i := 1) nd rfl (.inl rfl) (by decide))) (fun _ _ _ _ _ => qtsnil) (fun _ _ _ _ _ => (qtup (qa_cons (qix (qvar (i := 1) rfl (.inl rfl)) qint) (qa_cons (qix (qvar (i := 1) rfl (.inl rfl)) qint) qa_nil)))))))
abbrev N__is_kind : List Str := ["b", "many", "told", "part"]
theorem sc__is_kind : FnScope N__is_kind ["b", "many", "told"] (defScope s__is_kind) := ⟨rfl, rfl, rfl, by decide +kernel, rfl, by decide +kernel, by decide +kernel⟩
theorem ok__is_kind (X0 : K.In h) (G : h.Ns mainGlobals mg) (c : He.SaysD fa fn K) (cx : exB (["ThreadError", "InvalidBook", "InvalidDepth"] : List Str) K = true) : ∃ fd, FunD K "_is_kind" "_is_kind" (defArgs s__is_kind) (defBody s__is_kind) (defScope s__is_kind) [] [] (He.ga K "_is_kind") fd ∧ FnOk P w K mg base (L2N.CX P w) 5 (He.ga K "_is_kind") fd ["b", "many", "told"] (spF K 3 m__is_kind) := by
  obtain ⟨fd__is_part, F__is_part, O__is_part⟩ := ok__is_part (P := P) (w := w) (base := base) X0 G c cx
  have b__is_part : Binds K fd__is_part ["b", "many", "told"] [] := F__is_part.bindsN fun _ _ _ _ _ _ us hl => match us, hl with | [_, _, _], _ => rfl
  have g__is_part : mg "_is_part" = some (.ref (He.ga K "_is_part")) := He.glo_ok X0 G (c.fact 7 rfl)
  obtain ⟨fd_places_of, F_places_of, O_places_of⟩ := ok_places_of (P := P) (w := w) (base := base) X0 G c cx
  have b_places_of : Binds K fd_places_of ["parts"] [] := F_places_of.bindsN fun _ _ _ _ _ _ us hl => match us, hl with | [_], _ => rfl
  have g_places_of : mg "places_of" = some (.ref (He.ga K "places_of")) := He.glo_ok X0 G (c.fact 8 rfl)
  have f_all : mg "all" = none := He.free_ok X0 G (c.fact 32 rfl)
  have f_isinstance : mg "isinstance" = none := He.free_ok X0 G (c.fact 36 rfl)
  have f_len : mg "len" = none := He.free_ok X0 G (c.fact 37 rfl)
  have f_set : mg "set" = none := He.free_ok X0 G (c.fact 42 rfl)
  have f_tuple : mg "tuple" = none := He.free_ok X0 G (c.fact 44 rfl)
  obtain ⟨fd, F⟩ := c.def_ 6 (d := d__is_kind) rfl
  refine ⟨fd, F, fn_ok (k := 4) F sc__is_kind fun cdv A outer s H E hr B => ?_⟩
  have hp : PassesOwn (model P w) _ _ _ := passes_of (X := cxOf (L2N.CX P w) P w K mg base N__is_kind "_is_kind" (defScope s__is_kind) (He.ga K "_is_kind") cdv A outer s H E) (K := fun e s'' => L2N.CX P w outer H s E e s'') rfl
  have tk := L2N.takes_of (X := cxOf (L2N.CX P w) P w K mg base N__is_kind "_is_kind" (defScope s__is_kind) (He.ga K "_is_kind") cdv A outer s H E) (E := E) rfl rfl rfl rfl
  have nd := sc__is_kind.nd
  exact (qcons (qif (QW.t (qw_or (qtnot (qtval (qisi k_tuple rfl f_isinstance rfl f_tuple boot_tuple (qvar (i := 2) rfl (.inl rfl))))) (qw_or1 (qtcmp (op_neD hr.units) does_ne (qfnB call_len_seq does_len rfl f_len boot_len (qa_cons (qvar (i := 2) rfl (.inl rfl)) qa_nil)) (qop op_mulW does_mul (qvar (i := 0) rfl (.inr (.inl rfl))) (qvar (i := 0) rfl (.inr (.inl rfl)))))))) (qone (qret qbl)) qnil) (qcons (qif (qtnot (qtval (qfnB (cr_all rfl) does_all rfl f_all boot_all (qa_cons (qcomp (vs := [3]) rfl nd (qiof (qvar (i := 2) rfl (.inl rfl))) (blkOk_by (own := [("part", 3)]) (N := N__is_kind) (sc := defScope s__is_kind) (by decide +kernel)) (gok_n (by decide)) rfl (fun _ _ _ _ _ B => (qgn (i := 3) nd rfl (.inl rfl) (by decide))) (fun _ _ _ _ _ => qtsnil) (fun _ _ _ _ _ => (qcall O__is_part (hr.mono (by decide)) rfl g__is_part F__is_part.kp b__is_part (fun σ => L2N.passAt takesN0 σ) (qa_cons (qvar (i := 0) rfl (.inr (.inl rfl))) (qa_cons (qvar (i := 1) rfl (.inr (.inl rfl))) (qa_cons (qvar (i := 3) rfl (.inl rfl)) qa_nil)))))) qa_nil)))) (qone (qret qbl)) qnil) (qone (qret (qcmp (op_eqD hr.units) does_eq (qlenset rfl hr.units rfl f_len rfl f_set (qcall O_places_of (hr.mono (by decide)) rfl g_places_of F_places_of.kp b_places_of (fun σ => L2N.passAt tk σ) (qa_cons (qvar (i := 2) rfl (.inl rfl)) qa_nil))) (qop op_mulW does_mul (qvar (i := 0) rfl (.inr (.inl rfl))) (qvar (i := 0) rfl (.inr (.inl rfl)))))))))
abbrev N_is_book : List Str := ["told", "b", "kinds", "kind"]
theorem sc_is_book : FnScope N_is_book ["told"] (defScope s_is_book) := ⟨rfl, rfl, rfl, by decide +kernel, rfl, by decide +kernel, by decide +kernel⟩
theorem ok_is_book (X0 : K.In h) (G : h.Ns mainGlobals mg) (c : He.SaysD fa fn K) (cx : exB (["ThreadError", "InvalidBook", "InvalidDepth"] : List Str) K = true) : ∃ fd, FunD K "is_book" "is_book" (defArgs s_is_book) (defBody s_is_book) (defScope s_is_book) [] [] (He.ga K "is_book") fd ∧ FnOk P w K mg base (L2N.CX P w) 6 (He.ga K "is_book") fd ["told"] (spF K 1 m_is_book) := by
  obtain ⟨fd_is_whole, F_is_whole, O_is_whole⟩ := ok_is_whole (P := P) (w := w) (base := base) X0 G c cx
  have b_is_whole : Binds K fd_is_whole ["told"] [] := F_is_whole.bindsN fun _ _ _ _ _ _ us hl => match us, hl with | [_], _ => rfl
  have g_is_whole : mg "is_whole" = some (.ref (He.ga K "is_whole")) := He.glo_ok X0 G (c.fact 0 rfl)
  obtain ⟨fd__is_kind, F__is_kind, O__is_kind⟩ := ok__is_kind (P := P) (w := w) (base := base) X0 G c cx
  have b__is_kind : Binds K fd__is_kind ["b", "many", "told"] [] := F__is_kind.bindsN fun _ _ _ _ _ _ us hl => match us, hl with | [_, _, _], _ => rfl
  have g__is_kind : mg "_is_kind" = some (.ref (He.ga K "_is_kind")) := He.glo_ok X0 G (c.fact 6 rfl)
  have f_all : mg "all" = none := He.free_ok X0 G (c.fact 32 rfl)
  have f_isinstance : mg "isinstance" = none := He.free_ok X0 G (c.fact 36 rfl)
  have f_len : mg "len" = none := He.free_ok X0 G (c.fact 37 rfl)
  have f_tuple : mg "tuple" = none := He.free_ok X0 G (c.fact 44 rfl)
  obtain ⟨fd, F⟩ := c.def_ 5 (d := d_is_book) rfl
  refine ⟨fd, F, fn_ok (k := 5) F sc_is_book fun cdv A outer s H E hr B => ?_⟩
  have hp : PassesOwn (model P w) _ _ _ := passes_of (X := cxOf (L2N.CX P w) P w K mg base N_is_book "is_book" (defScope s_is_book) (He.ga K "is_book") cdv A outer s H E) (K := fun e s'' => L2N.CX P w outer H s E e s'') rfl
  have tk := L2N.takes_of (X := cxOf (L2N.CX P w) P w K mg base N_is_book "is_book" (defScope s_is_book) (He.ga K "is_book") cdv A outer s H E) (E := E) rfl rfl rfl rfl
  have nd := sc_is_book.nd
  exact (qcons (qif (QW.t (qw_or (qtnot (qtval (qisi k_tuple rfl f_isinstance rfl f_tuple boot_tuple (qvar (i := 0) rfl (.inl rfl))))) (qw_or1 (qtcmp (op_neD hr.units) does_ne (qfnB call_len_seq does_len rfl f_len boot_len (qa_cons (qvar (i := 0) rfl (.inl rfl)) qa_nil)) qint)))) (qone (qret qbl)) qnil) (qcons (qasg (ws := [1, 2]) (qvar (i := 0) rfl (.inl rfl)) (qgt rfl (qgscons (qgn (i := 1) nd rfl (.inr rfl) (by decide)) (qgscons (qgn (i := 2) nd rfl (.inr rfl) (by decide)) qgsnil)))) (qcons (qif (QW.t (qw_or (qtnot (qtval (qcall O_is_whole (hr.mono (by decide)) rfl g_is_whole F_is_whole.kp b_is_whole (fun σ => L2N.passAt tk σ) (qa_cons (qvar (i := 1) rfl (.inr (.inl rfl))) qa_nil)))) (qw_or1 (qtcmp (op_notIn2 (room65 hr)) does_notIn (qvar (i := 1) rfl (.inr (.inl rfl))) (qtup (qa_cons qint (qa_cons qint qa_nil))))))) (qone (qret qbl)) qnil) (qcons (qif (QW.t (qw_or (qtnot (qtval (qisi k_tuple rfl f_isinstance rfl f_tuple boot_tuple (qvar (i := 2) rfl (.inr (.inl rfl)))))) (qw_or1 (qtcmp (op_eqD hr.units) does_eq (qfnB call_len_seq does_len rfl f_len boot_len (qa_cons (qvar (i := 2) rfl (.inr (.inl rfl))) qa_nil)) qint)))) (qone (qret qbl)) qnil) (qone (qret (qfnB (cr_all rfl) does_all rfl f_all boot_all (qa_cons (qcomp (vs := [3]) rfl nd (qiof (qvar (i := 2) rfl (.inr (.inl rfl)))) (blkOk_by (own := [("kind", 3)]) (N := N_is_book) (sc := defScope s_is_book) (by decide +kernel)) (gok_n (by decide)) rfl (fun _ _ _ _ _ B => (qgn (i := 3) nd rfl (.inl rfl) (by decide))) (fun _ _ _ _ _ => qtsnil) (fun _ _ _ _ _ => (qcall O__is_kind (hr.mono (by decide)) rfl g__is_kind F__is_kind.kp b__is_kind (fun σ => L2N.passAt takesN0 σ) (qa_cons (qvar (i := 1) rfl (.inr (.inl rfl))) (qa_cons (qfnB call_len_seq does_len rfl f_len boot_len (qa_cons (qvar (i := 2) rfl (.inr (.inl rfl))) qa_nil)) (qa_cons (qvar (i := 3) rfl (.inl rfl)) qa_nil)))))) qa_nil))))))))
abbrev N_check_book : List Str := ["book"]
theorem sc_check_book : FnScope N_check_book ["book"] (defScope s_check_book) := ⟨rfl, rfl, rfl, by decide +kernel, rfl, by decide +kernel, by decide +kernel⟩
theorem ok_check_book (X0 : K.In h) (G : h.Ns mainGlobals mg) (c : He.SaysD fa fn K) (cx : exB (["ThreadError", "InvalidBook", "InvalidDepth"] : List Str) K = true) : ∃ fd, FunD K "check_book" "check_book" (defArgs s_check_book) (defBody s_check_book) (defScope s_check_book) [] [] (He.ga K "check_book") fd ∧ FnOk P w K mg base (L2N.CX P w) 7 (He.ga K "check_book") fd ["book"] (spF K 1 m_check_book) := by
  obtain ⟨fd_is_book, F_is_book, O_is_book⟩ := ok_is_book (P := P) (w := w) (base := base) X0 G c cx
  have b_is_book : Binds K fd_is_book ["told"] [] := F_is_book.bindsN fun _ _ _ _ _ _ us hl => match us, hl with | [_], _ => rfl
  have g_is_book : mg "is_book" = some (.ref (He.ga K "is_book")) := He.glo_ok X0 G (c.fact 5 rfl)
  have Ex : ExcOk K mg (["ThreadError", "InvalidBook", "InvalidDepth"] : List Str) := exB_ok X0 G cx
  obtain ⟨fd_ini, F_ini, O_ini⟩ := ok_ini (P := P) (w := w) (base := base) X0 G c
  have b_ini : Binds K fd_ini ["self", "value"] [] := F_ini.bindsN fun _ _ _ _ _ _ us hl => match us, hl with | [_, _], _ => rfl
  obtain ⟨fd, F⟩ := c.def_ 9 (d := d_check_book) rfl
  refine ⟨fd, F, fn_ok (k := 6) F sc_check_book fun cdv A outer s H E hr B => ?_⟩
  have hp : PassesOwn (model P w) _ _ _ := passes_of (X := cxOf (L2N.CX P w) P w K mg base N_check_book "check_book" (defScope s_check_book) (He.ga K "check_book") cdv A outer s H E) (K := fun e s'' => L2N.CX P w outer H s E e s'') rfl
  have tk := L2N.takes_of (X := cxOf (L2N.CX P w) P w K mg base N_check_book "check_book" (defScope s_check_book) (He.ga K "check_book") cdv A outer s H E) (E := E) rfl rfl rfl rfl
  have nd := sc_check_book.nd
  exact (qone (qif (qtnot (qtval (qcall O_is_book (hr.mono (by decide)) rfl g_is_book F_is_book.kp b_is_book (fun σ => L2N.passAt tk σ) (qa_cons (qvar (i := 0) rfl (.inl rfl)) qa_nil)))) (qone (qraise rfl tk Ex (by decide +kernel) O_ini (hr.mono (by decide)) b_ini rfl (qvar (i := 0) rfl (.inl rfl)))) qnil))
abbrev N_check_depth : List Str := ["d"]
theorem sc_check_depth : FnScope N_check_depth ["d"] (defScope s_check_depth) := ⟨rfl, rfl, rfl, by decide +kernel, rfl, by decide +kernel, by decide +kernel⟩
theorem ok_check_depth (X0 : K.In h) (G : h.Ns mainGlobals mg) (c : He.SaysD fa fn K) (cx : exB (["ThreadError", "InvalidBook", "InvalidDepth"] : List Str) K = true) : ∃ fd, FunD K "check_depth" "check_depth" (defArgs s_check_depth) (defBody s_check_depth) (defScope s_check_depth) [] [] (He.ga K "check_depth") fd ∧ FnOk P w K mg base (L2N.CX P w) 3 (He.ga K "check_depth") fd ["d"] (spF K 1 m_check_depth) := by
  obtain ⟨fd_is_count, F_is_count, O_is_count⟩ := ok_is_count (P := P) (w := w) (base := base) X0 G c cx
  have b_is_count : Binds K fd_is_count ["told"] [] := F_is_count.bindsN fun _ _ _ _ _ _ us hl => match us, hl with | [_], _ => rfl
  have g_is_count : mg "is_count" = some (.ref (He.ga K "is_count")) := He.glo_ok X0 G (c.fact 1 rfl)
  have Ex : ExcOk K mg (["ThreadError", "InvalidBook", "InvalidDepth"] : List Str) := exB_ok X0 G cx
  obtain ⟨fd_ini, F_ini, O_ini⟩ := ok_ini (P := P) (w := w) (base := base) X0 G c
  have b_ini : Binds K fd_ini ["self", "value"] [] := F_ini.bindsN fun _ _ _ _ _ _ us hl => match us, hl with | [_, _], _ => rfl
  obtain ⟨fd, F⟩ := c.def_ 10 (d := d_check_depth) rfl
  refine ⟨fd, F, fn_ok (k := 2) F sc_check_depth fun cdv A outer s H E hr B => ?_⟩
  have hp : PassesOwn (model P w) _ _ _ := passes_of (X := cxOf (L2N.CX P w) P w K mg base N_check_depth "check_depth" (defScope s_check_depth) (He.ga K "check_depth") cdv A outer s H E) (K := fun e s'' => L2N.CX P w outer H s E e s'') rfl
  have tk := L2N.takes_of (X := cxOf (L2N.CX P w) P w K mg base N_check_depth "check_depth" (defScope s_check_depth) (He.ga K "check_depth") cdv A outer s H E) (E := E) rfl rfl rfl rfl
  have nd := sc_check_depth.nd
  exact (qone (qif (qtnot (qtval (qcall O_is_count (hr.mono (by decide)) rfl g_is_count F_is_count.kp b_is_count (fun σ => L2N.passAt tk σ) (qa_cons (qvar (i := 0) rfl (.inl rfl)) qa_nil)))) (qone (qraise rfl tk Ex (by decide +kernel) O_ini (hr.mono (by decide)) b_ini rfl (qvar (i := 0) rfl (.inl rfl)))) qnil))
abbrev N_how_many_cells : List Str := ["book", "d"]
theorem sc_how_many_cells : FnScope N_how_many_cells ["book", "d"] (defScope s_how_many_cells) := ⟨rfl, rfl, rfl, by decide +kernel, rfl, by decide +kernel, by decide +kernel⟩
theorem ok_how_many_cells (X0 : K.In h) (G : h.Ns mainGlobals mg) (c : He.SaysD fa fn K) (cx : exB (["ThreadError", "InvalidBook", "InvalidDepth"] : List Str) K = true) : ∃ fd, FunD K "how_many_cells" "how_many_cells" (defArgs s_how_many_cells) (defBody s_how_many_cells) (defScope s_how_many_cells) [] [] (He.ga K "how_many_cells") fd ∧ FnOk P w K mg base (L2N.CX P w) 2 (He.ga K "how_many_cells") fd ["book", "d"] (spF K 2 m_how_many_cells) := by
  obtain ⟨fd_power, F_power, O_power⟩ := ok_power (P := P) (w := w) (base := base) X0 G c cx
  have b_power : Binds K fd_power ["base", "times"] [] := F_power.bindsN fun _ _ _ _ _ _ us hl => match us, hl with | [_, _], _ => rfl
  have g_power : mg "power" = some (.ref (He.ga K "power")) := He.glo_ok X0 G (c.fact 3 rfl)
  obtain ⟨fd, F⟩ := c.def_ 11 (d := d_how_many_cells) rfl
  refine ⟨fd, F, fn_ok (k := 1) F sc_how_many_cells fun cdv A outer s H E hr B => ?_⟩
  have hp : PassesOwn (model P w) _ _ _ := passes_of (X := cxOf (L2N.CX P w) P w K mg base N_how_many_cells "how_many_cells" (defScope s_how_many_cells) (He.ga K "how_many_cells") cdv A outer s H E) (K := fun e s'' => L2N.CX P w outer H s E e s'') rfl
  have tk := L2N.takes_of (X := cxOf (L2N.CX P w) P w K mg base N_how_many_cells "how_many_cells" (defScope s_how_many_cells) (He.ga K "how_many_cells") cdv A outer s H E) (E := E) rfl rfl rfl rfl
  have nd := sc_how_many_cells.nd
  exact (qone (qret (qcall O_power (hr.mono (by decide)) rfl g_power F_power.kp b_power (fun σ => L2N.passAt tk σ) (qa_cons (qop op_mulW does_mul (qix (qvar (i := 0) rfl (.inl rfl)) qint) (qix (qvar (i := 0) rfl (.inl rfl)) qint)) (qa_cons (qvar (i := 1) rfl (.inl rfl)) qa_nil)))))
abbrev N_cell_in_kind : List Str := ["book", "kind", "d", "number", "b", "kinds", "x", "y", "digit", "right", "up"]
theorem sc_cell_in_kind : FnScope N_cell_in_kind ["book", "kind", "d", "number"] (defScope s_cell_in_kind) := ⟨rfl, rfl, rfl, by decide +kernel, rfl, by decide +kernel, by decide +kernel⟩
theorem ok_cell_in_kind (X0 : K.In h) (G : h.Ns mainGlobals mg) (c : He.SaysD fa fn K) (cx : exB (["ThreadError", "InvalidBook", "InvalidDepth"] : List Str) K = true) : ∃ fd, FunD K "cell_in_kind" "cell_in_kind" (defArgs s_cell_in_kind) (defBody s_cell_in_kind) (defScope s_cell_in_kind) [] [] (He.ga K "cell_in_kind") fd ∧ FnOk P w K mg base (L2N.CX P w) 2 (He.ga K "cell_in_kind") fd ["book", "kind", "d", "number"] (spF K 4 m_cell_in_kind) := by
  obtain ⟨fd_digits_of, F_digits_of, O_digits_of⟩ := ok_digits_of (P := P) (w := w) (base := base) X0 G c cx
  have b_digits_of : Binds K fd_digits_of ["number", "base", "many"] [] := F_digits_of.bindsN fun _ _ _ _ _ _ us hl => match us, hl with | [_, _, _], _ => rfl
  have g_digits_of : mg "digits_of" = some (.ref (He.ga K "digits_of")) := He.glo_ok X0 G (c.fact 4 rfl)
  obtain ⟨fd, F⟩ := c.def_ 12 (d := d_cell_in_kind) rfl
  refine ⟨fd, F, fn_ok (k := 1) F sc_cell_in_kind fun cdv A outer s H E hr B => ?_⟩
  have hp : PassesOwn (model P w) _ _ _ := passes_of (X := cxOf (L2N.CX P w) P w K mg base N_cell_in_kind "cell_in_kind" (defScope s_cell_in_kind) (He.ga K "cell_in_kind") cdv A outer s H E) (K := fun e s'' => L2N.CX P w outer H s E e s'') rfl
  have tk := L2N.takes_of (X := cxOf (L2N.CX P w) P w K mg base N_cell_in_kind "cell_in_kind" (defScope s_cell_in_kind) (He.ga K "cell_in_kind") cdv A outer s H E) (E := E) rfl rfl rfl rfl
  have nd := sc_cell_in_kind.nd
  exact (qcons (qasg (ws := [4, 5]) (qvar (i := 0) rfl (.inl rfl)) (qgt rfl (qgscons (qgn (i := 4) nd rfl (.inl rfl) (by decide)) (qgscons (qgn (i := 5) nd rfl (.inl rfl) (by decide)) qgsnil)))) (qcons (qset (i := 6) nd rfl (.inl rfl) qint) (qcons (qset (i := 7) nd rfl (.inl rfl) qint) (qcons (qfor (ws := [8]) hp rfl (qiof (qcall O_digits_of (hr.mono (by decide)) rfl g_digits_of F_digits_of.kp b_digits_of (fun σ => L2N.passAt tk σ) (qa_cons (qvar (i := 3) rfl (.inl rfl)) (qa_cons (qop op_mulW does_mul (qvar (i := 4) rfl (.inl rfl)) (qvar (i := 4) rfl (.inl rfl))) (qa_cons (qvar (i := 2) rfl (.inl rfl)) qa_nil))))) (fun B => (qgn (i := 8) nd rfl (.inl rfl) (by decide))) (fun B => (qcons (qasg (ws := [9, 10, 1]) (qix (qix (qvar (i := 5) rfl (.inl rfl)) (qvar (i := 1) rfl (.inl rfl))) (qvar (i := 8) rfl (.inl rfl))) (qgt rfl (qgscons (qgn (i := 9) nd rfl (.inl rfl) (by decide)) (qgscons (qgn (i := 10) nd rfl (.inl rfl) (by decide)) (qgscons (qgn (i := 1) nd rfl (.inl rfl) (by decide)) qgsnil))))) (qcons (qset (i := 6) nd rfl (.inl rfl) (qop op_add4 does_add (qop op_mulW does_mul (qvar (i := 6) rfl (.inl rfl)) (qvar (i := 4) rfl (.inl rfl))) (qvar (i := 9) rfl (.inl rfl)))) (qone (qset (i := 7) nd rfl (.inl rfl) (qop op_add4 does_add (qop op_mulW does_mul (qvar (i := 7) rfl (.inl rfl)) (qvar (i := 4) rfl (.inl rfl))) (qvar (i := 10) rfl (.inl rfl))))))))) (qone (qret (qtup (qa_cons (qvar (i := 6) rfl (.inl rfl)) (qa_cons (qvar (i := 7) rfl (.inl rfl)) qa_nil)))))))))
abbrev N_whole : List Str := ["book", "d", "number"]
theorem sc_whole : FnScope N_whole ["book", "d"] (defScope s_whole) := ⟨rfl, rfl, rfl, by decide +kernel, rfl, by decide +kernel, by decide +kernel⟩
theorem ok_whole (X0 : K.In h) (G : h.Ns mainGlobals mg) (c : He.SaysD fa fn K) (cx : exB (["ThreadError", "InvalidBook", "InvalidDepth"] : List Str) K = true) : ∃ fd, FunD K "whole" "whole" (defArgs s_whole) (defBody s_whole) (defScope s_whole) [] [] (He.ga K "whole") fd ∧ FnOk P w K mg base (L2N.CX P w) 8 (He.ga K "whole") fd ["book", "d"] (spF K 2 m_whole) := by
  obtain ⟨fd_check_book, F_check_book, O_check_book⟩ := ok_check_book (P := P) (w := w) (base := base) X0 G c cx
  have b_check_book : Binds K fd_check_book ["book"] [] := F_check_book.bindsN fun _ _ _ _ _ _ us hl => match us, hl with | [_], _ => rfl
  have g_check_book : mg "check_book" = some (.ref (He.ga K "check_book")) := He.glo_ok X0 G (c.fact 9 rfl)
  obtain ⟨fd_check_depth, F_check_depth, O_check_depth⟩ := ok_check_depth (P := P) (w := w) (base := base) X0 G c cx
  have b_check_depth : Binds K fd_check_depth ["d"] [] := F_check_depth.bindsN fun _ _ _ _ _ _ us hl => match us, hl with | [_], _ => rfl
  have g_check_depth : mg "check_depth" = some (.ref (He.ga K "check_depth")) := He.glo_ok X0 G (c.fact 10 rfl)
  obtain ⟨fd_cell_in_kind, F_cell_in_kind, O_cell_in_kind⟩ := ok_cell_in_kind (P := P) (w := w) (base := base) X0 G c cx
  have b_cell_in_kind : Binds K fd_cell_in_kind ["book", "kind", "d", "number"] [] := F_cell_in_kind.bindsN fun _ _ _ _ _ _ us hl => match us, hl with | [_, _, _, _], _ => rfl
  have g_cell_in_kind : mg "cell_in_kind" = some (.ref (He.ga K "cell_in_kind")) := He.glo_ok X0 G (c.fact 12 rfl)
  obtain ⟨fd_how_many_cells, F_how_many_cells, O_how_many_cells⟩ := ok_how_many_cells (P := P) (w := w) (base := base) X0 G c cx
  have b_how_many_cells : Binds K fd_how_many_cells ["book", "d"] [] := F_how_many_cells.bindsN fun _ _ _ _ _ _ us hl => match us, hl with | [_, _], _ => rfl
  have g_how_many_cells : mg "how_many_cells" = some (.ref (He.ga K "how_many_cells")) := He.glo_ok X0 G (c.fact 11 rfl)
  have f_range : mg "range" = none := He.free_ok X0 G (c.fact 41 rfl)
  obtain ⟨fd, F⟩ := c.def_ 13 (d := d_whole) rfl
  refine ⟨fd, F, fn_ok (k := 7) F sc_whole fun cdv A outer s H E hr B => ?_⟩
  have hp : PassesOwn (model P w) _ _ _ := passes_of (X := cxOf (L2N.CX P w) P w K mg base N_whole "whole" (defScope s_whole) (He.ga K "whole") cdv A outer s H E) (K := fun e s'' => L2N.CX P w outer H s E e s'') rfl
  have tk := L2N.takes_of (X := cxOf (L2N.CX P w) P w K mg base N_whole "whole" (defScope s_whole) (He.ga K "whole") cdv A outer s H E) (E := E) rfl rfl rfl rfl
  have nd := sc_whole.nd
  exact (qcons (qexpr (qcall O_check_book (hr.mono (by decide)) rfl g_check_book F_check_book.kp b_check_book (fun σ => L2N.passAt tk σ) (qa_cons (qvar (i := 0) rfl (.inr (.inl rfl))) qa_nil))) (qcons (qexpr (qcall O_check_depth (hr.mono (by decide)) rfl g_check_depth F_check_depth.kp b_check_depth (fun σ => L2N.passAt tk σ) (qa_cons (qvar (i := 1) rfl (.inr (.inl rfl))) qa_nil))) (qone (qret (qcomp (vs := [2]) rfl nd (qir1 rfl f_range (qa_cons (qcall O_how_many_cells (hr.mono (by decide)) rfl g_how_many_cells F_how_many_cells.kp b_how_many_cells (fun σ => L2N.passAt tk σ) (qa_cons (qvar (i := 0) rfl (.inr (.inl rfl))) (qa_cons (qvar (i := 1) rfl (.inr (.inl rfl))) qa_nil))) qa_nil)) (blkOk_by (own := [("number", 2)]) (N := N_whole) (sc := defScope s_whole) (by decide +kernel)) (gok_n (by decide)) rfl (fun _ _ _ _ _ B => (qgn (i := 2) nd rfl (.inl rfl) (by decide))) (fun _ _ _ _ _ => qtsnil) (fun _ _ _ _ _ => (qcall O_cell_in_kind (hr.mono (by decide)) rfl g_cell_in_kind F_cell_in_kind.kp b_cell_in_kind (fun σ => L2N.passAt takesN0 σ) (qa_cons (qvar (i := 0) rfl (.inr (.inl rfl))) (qa_cons qint (qa_cons (qvar (i := 1) rfl (.inr (.inl rfl))) (qa_cons (qvar (i := 2) rfl (.inl rfl)) qa_nil)))))))))))
abbrev N_is_near : List Str := ["one", "other"]
theorem sc_is_near : FnScope N_is_near ["one", "other"] (defScope s_is_near) := ⟨rfl, rfl, rfl, by decide +kernel, rfl, by decide +kernel, by decide +kernel⟩
theorem ok_is_near (X0 : K.In h) (G : h.Ns mainGlobals mg) (c : He.SaysD fa fn K) (cx : exB (["ThreadError", "InvalidBook", "InvalidDepth"] : List Str) K = true) : ∃ fd, FunD K "is_near" "is_near" (defArgs s_is_near) (defBody s_is_near) (defScope s_is_near) [] [] (He.ga K "is_near") fd ∧ FnOk P w K mg base (L2N.CX P w) 1 (He.ga K "is_near") fd ["one", "other"] (spF K 2 m_is_near) := by
  have f_abs : mg "abs" = none := He.free_ok X0 G (c.fact 31 rfl)
  obtain ⟨fd, F⟩ := c.def_ 14 (d := d_is_near) rfl
  refine ⟨fd, F, fn_ok (k := 0) F sc_is_near fun cdv A outer s H E hr B => ?_⟩
  have hp : PassesOwn (model P w) _ _ _ := passes_of (X := cxOf (L2N.CX P w) P w K mg base N_is_near "is_near" (defScope s_is_near) (He.ga K "is_near") cdv A outer s H E) (K := fun e s'' => L2N.CX P w outer H s E e s'') rfl
  have tk := L2N.takes_of (X := cxOf (L2N.CX P w) P w K mg base N_is_near "is_near" (defScope s_is_near) (He.ga K "is_near") cdv A outer s H E) (E := E) rfl rfl rfl rfl
  have nd := sc_is_near.nd
  exact (qone (qret (qcmp (op_eqD hr.units) does_eq (qop op_add4 does_add (qfnB call_abs does_abs rfl f_abs boot_abs (qa_cons (qop op_sub does_sub (qix (qvar (i := 0) rfl (.inl rfl)) qint) (qix (qvar (i := 1) rfl (.inl rfl)) qint)) qa_nil)) (qfnB call_abs does_abs rfl f_abs boot_abs (qa_cons (qop op_sub does_sub (qix (qvar (i := 0) rfl (.inl rfl)) qint) (qix (qvar (i := 1) rfl (.inl rfl)) qint)) qa_nil))) qint)))
abbrev N__step_sign : List Str := ["one", "other"]
theorem sc__step_sign : FnScope N__step_sign ["one", "other"] (defScope s__step_sign) := ⟨rfl, rfl, rfl, by decide +kernel, rfl, by decide +kernel, by decide +kernel⟩
theorem ok__step_sign (X0 : K.In h) (G : h.Ns mainGlobals mg) (c : He.SaysD fa fn K) (cx : exB (["ThreadError", "InvalidBook", "InvalidDepth"] : List Str) K = true) : ∃ fd, FunD K "_step_sign" "_step_sign" (defArgs s__step_sign) (defBody s__step_sign) (defScope s__step_sign) [] [] (He.ga K "_step_sign") fd ∧ FnOk P w K mg base (L2N.CX P w) 1 (He.ga K "_step_sign") fd ["one", "other"] (spF K 2 m__step_sign) := by
  obtain ⟨fd, F⟩ := c.def_ 16 (d := d__step_sign) rfl
  refine ⟨fd, F, fn_ok (k := 0) F sc__step_sign fun cdv A outer s H E hr B => ?_⟩
  have hp : PassesOwn (model P w) _ _ _ := passes_of (X := cxOf (L2N.CX P w) P w K mg base N__step_sign "_step_sign" (defScope s__step_sign) (He.ga K "_step_sign") cdv A outer s H E) (K := fun e s'' => L2N.CX P w outer H s E e s'') rfl
  have tk := L2N.takes_of (X := cxOf (L2N.CX P w) P w K mg base N__step_sign "_step_sign" (defScope s__step_sign) (He.ga K "_step_sign") cdv A outer s H E) (E := E) rfl rfl rfl rfl
  have nd := sc__step_sign.nd
  exact (qcons (qif (qtcmp (op_eqD hr.units) does_eq (qix (qvar (i := 0) rfl (.inl rfl)) qint) (qix (qvar (i := 1) rfl (.inl rfl)) qint)) (qone (qret qstr)) qnil) (qone (qret qstr)))
abbrev N_drawn : List Str := ["book", "d", "cells", "many", "signs", "x", "y", "k", "u", "v", "height", "row"]
theorem sc_drawn : FnScope N_drawn ["book", "d"] (defScope s_drawn) := ⟨rfl, rfl, rfl, by decide +kernel, rfl, by decide +kernel, by decide +kernel⟩
theorem ok_drawn (X0 : K.In h) (G : h.Ns mainGlobals mg) (c : He.SaysD fa fn K) (cx : exB (["ThreadError", "InvalidBook", "InvalidDepth"] : List Str) K = true) : ∃ fd, FunD K "drawn" "drawn" (defArgs s_drawn) (defBody s_drawn) (defScope s_drawn) [] [] (He.ga K "drawn") fd ∧ FnOk P w K mg base (L2N.CX P w) 9 (He.ga K "drawn") fd ["book", "d"] (spF K 2 m_drawn) := by
  obtain ⟨fd_whole, F_whole, O_whole⟩ := ok_whole (P := P) (w := w) (base := base) X0 G c cx
  have b_whole : Binds K fd_whole ["book", "d"] [] := F_whole.bindsN fun _ _ _ _ _ _ us hl => match us, hl with | [_, _], _ => rfl
  have g_whole : mg "whole" = some (.ref (He.ga K "whole")) := He.glo_ok X0 G (c.fact 13 rfl)
  obtain ⟨fd_is_near, F_is_near, O_is_near⟩ := ok_is_near (P := P) (w := w) (base := base) X0 G c cx
  have b_is_near : Binds K fd_is_near ["one", "other"] [] := F_is_near.bindsN fun _ _ _ _ _ _ us hl => match us, hl with | [_, _], _ => rfl
  have g_is_near : mg "is_near" = some (.ref (He.ga K "is_near")) := He.glo_ok X0 G (c.fact 14 rfl)
  obtain ⟨fd_power, F_power, O_power⟩ := ok_power (P := P) (w := w) (base := base) X0 G c cx
  have b_power : Binds K fd_power ["base", "times"] [] := F_power.bindsN fun _ _ _ _ _ _ us hl => match us, hl with | [_, _], _ => rfl
  have g_power : mg "power" = some (.ref (He.ga K "power")) := He.glo_ok X0 G (c.fact 3 rfl)
  obtain ⟨fd__step_sign, F__step_sign, O__step_sign⟩ := ok__step_sign (P := P) (w := w) (base := base) X0 G c cx
  have b__step_sign : Binds K fd__step_sign ["one", "other"] [] := F__step_sign.bindsN fun _ _ _ _ _ _ us hl => match us, hl with | [_, _], _ => rfl
  have g__step_sign : mg "_step_sign" = some (.ref (He.ga K "_step_sign")) := He.glo_ok X0 G (c.fact 16 rfl)
  have f_len : mg "len" = none := He.free_ok X0 G (c.fact 37 rfl)
  have f_range : mg "range" = none := He.free_ok X0 G (c.fact 41 rfl)
  obtain ⟨fd, F⟩ := c.def_ 15 (d := d_drawn) rfl
  refine ⟨fd, F, fn_ok (k := 8) F sc_drawn fun cdv A outer s H E hr B => ?_⟩
  have hp : PassesOwn (model P w) _ _ _ := passes_of (X := cxOf (L2N.CX P w) P w K mg base N_drawn "drawn" (defScope s_drawn) (He.ga K "drawn") cdv A outer s H E) (K := fun e s'' => L2N.CX P w outer H s E e s'') rfl
  have tk := L2N.takes_of (X := cxOf (L2N.CX P w) P w K mg base N_drawn "drawn" (defScope s_drawn) (He.ga K "drawn") cdv A outer s H E) (E := E) rfl rfl rfl rfl
  have nd := sc_drawn.nd
  exact (qcons (qset (i := 2) nd rfl (.inl rfl) (qcall O_whole (hr.mono (by decide)) rfl g_whole F_whole.kp b_whole (fun σ => L2N.passAt tk σ) (qa_cons (qvar (i := 0) rfl (.inl rfl)) (qa_cons (qvar (i := 1) rfl (.inl rfl)) qa_nil)))) (qcons (qset (i := 3) nd rfl (.inr rfl) (qop op_sub does_sub (qop op_mulW does_mul qint (qcall O_power (hr.mono (by decide)) rfl g_power F_power.kp b_power (fun σ => L2N.passAt tk σ) (qa_cons (qix (qvar (i := 0) rfl (.inl rfl)) qint) (qa_cons (qvar (i := 1) rfl (.inl rfl)) qa_nil)))) qint)) (qgrid (i := 4) (ν := 10) (fs := [2, 3]) rfl nd rfl rfl (sw_true rfl rfl rfl (by decide +kernel)) (qir1 rfl f_range (qa_cons (qvar (i := 3) rfl (.inr (.inl rfl))) qa_nil)) (blkOk_by (own := [("height", 10)]) (N := N_drawn) (sc := defScope s_drawn) (by decide +kernel)) (fun _ _ _ _ _ => pg_name (i := 10) nd rfl (.inl rfl)) (fun _ _ _ _ _ => (qrep (qlst (qa_cons qstr qa_nil)) (qvar (i := 3) rfl (.inr (.inl rfl))))) (qg2cons (qggfor (ws := [5, 6]) hp rfl (by decide) (qiof (qvar (i := 2) rfl (.inl rfl))) (fun B => (qgt rfl (qgscons (qgn (i := 5) nd rfl (.inl rfl) (by decide)) (qgscons (qgn (i := 6) nd rfl (.inl rfl) (by decide)) qgsnil)))) (qggone (qggset2 (i := 4) rfl (.inl rfl) (qop op_mulW does_mul qint (qvar (i := 6) rfl (.inl rfl))) (qop op_mulW does_mul qint (qvar (i := 5) rfl (.inl rfl))) qstr))) (qg2cons (qggfor (ws := [7]) hp rfl (by decide) (qir1 rfl f_range (qa_cons (qop op_sub does_sub (qfnB call_len_seq does_len rfl f_len boot_len (qa_cons (qvar (i := 2) rfl (.inl rfl)) qa_nil)) qint) qa_nil)) (fun B => (qgn (i := 7) nd rfl (.inl rfl) (by decide))) (qggcons (qggasg (ws := [5, 6]) (by decide) (qix (qvar (i := 2) rfl (.inl rfl)) (qvar (i := 7) rfl (.inl rfl))) (fun B => (qgt rfl (qgscons (qgn (i := 5) nd rfl (.inl rfl) (by decide)) (qgscons (qgn (i := 6) nd rfl (.inl rfl) (by decide)) qgsnil))))) (qggcons (qggasg (ws := [8, 9]) (by decide) (qix (qvar (i := 2) rfl (.inl rfl)) (qop op_add4 does_add (qvar (i := 7) rfl (.inl rfl)) qint)) (fun B => (qgt rfl (qgscons (qgn (i := 8) nd rfl (.inl rfl) (by decide)) (qgscons (qgn (i := 9) nd rfl (.inl rfl) (by decide)) qgsnil))))) (qggone (qggif (qtval (qcall O_is_near (hr.mono (by decide)) rfl g_is_near F_is_near.kp b_is_near (fun σ => L2N.passAt tk σ) (qa_cons (qix (qvar (i := 2) rfl (.inl rfl)) (qvar (i := 7) rfl (.inl rfl))) (qa_cons (qix (qvar (i := 2) rfl (.inl rfl)) (qop op_add4 does_add (qvar (i := 7) rfl (.inl rfl)) qint)) qa_nil)))) (qggone (qggset2 (i := 4) rfl (.inl rfl) (qop op_add4 does_add (qvar (i := 6) rfl (.inl rfl)) (qvar (i := 9) rfl (.inl rfl))) (qop op_add4 does_add (qvar (i := 5) rfl (.inl rfl)) (qvar (i := 8) rfl (.inl rfl))) (qcall O__step_sign (hr.mono (by decide)) rfl g__step_sign F__step_sign.kp b__step_sign (fun σ => L2N.passAt tk σ) (qa_cons (qix (qvar (i := 2) rfl (.inl rfl)) (qvar (i := 7) rfl (.inl rfl))) (qa_cons (qix (qvar (i := 2) rfl (.inl rfl)) (qop op_add4 does_add (qvar (i := 7) rfl (.inl rfl)) qint)) qa_nil))))) qggnil))))) (qg2done (qone (qret (qcomp (vs := [11]) rfl nd (qiof (qrev (qvar (i := 4) rfl (.inl rfl)))) (blkOk_by (own := [("row", 11)]) (N := N_drawn) (sc := defScope s_drawn) (by decide +kernel)) (gok_n (by decide)) rfl (fun _ _ _ _ _ B => (qgn (i := 11) nd rfl (.inl rfl) (by decide))) (fun _ _ _ _ _ => qtsnil) (fun _ _ _ _ _ => (qjoin qstr (qvar (i := 11) rfl (.inl rfl)))))))))))))
abbrev N_numbers_drawn : List Str := ["book", "d", "cells", "size", "numbers", "number", "x", "y", "height"]
theorem sc_numbers_drawn : FnScope N_numbers_drawn ["book", "d"] (defScope s_numbers_drawn) := ⟨rfl, rfl, rfl, by decide +kernel, rfl, by decide +kernel, by decide +kernel⟩
theorem ok_numbers_drawn (X0 : K.In h) (G : h.Ns mainGlobals mg) (c : He.SaysD fa fn K) (cx : exB (["ThreadError", "InvalidBook", "InvalidDepth"] : List Str) K = true) : ∃ fd, FunD K "numbers_drawn" "numbers_drawn" (defArgs s_numbers_drawn) (defBody s_numbers_drawn) (defScope s_numbers_drawn) [] [] (He.ga K "numbers_drawn") fd ∧ FnOk P w K mg base (L2N.CX P w) 9 (He.ga K "numbers_drawn") fd ["book", "d"] (spF K 2 m_numbers_drawn) := by
  obtain ⟨fd_whole, F_whole, O_whole⟩ := ok_whole (P := P) (w := w) (base := base) X0 G c cx
  have b_whole : Binds K fd_whole ["book", "d"] [] := F_whole.bindsN fun _ _ _ _ _ _ us hl => match us, hl with | [_, _], _ => rfl
  have g_whole : mg "whole" = some (.ref (He.ga K "whole")) := He.glo_ok X0 G (c.fact 13 rfl)
  obtain ⟨fd_power, F_power, O_power⟩ := ok_power (P := P) (w := w) (base := base) X0 G c cx
  have b_power : Binds K fd_power ["base", "times"] [] := F_power.bindsN fun _ _ _ _ _ _ us hl => match us, hl with | [_, _], _ => rfl
  have g_power : mg "power" = some (.ref (He.ga K "power")) := He.glo_ok X0 G (c.fact 3 rfl)
  have f_len : mg "len" = none := He.free_ok X0 G (c.fact 37 rfl)
  have f_range : mg "range" = none := He.free_ok X0 G (c.fact 41 rfl)
  obtain ⟨fd, F⟩ := c.def_ 17 (d := d_numbers_drawn) rfl
  refine ⟨fd, F, fn_ok (k := 8) F sc_numbers_drawn fun cdv A outer s H E hr B => ?_⟩
  have hp : PassesOwn (model P w) _ _ _ := passes_of (X := cxOf (L2N.CX P w) P w K mg base N_numbers_drawn "numbers_drawn" (defScope s_numbers_drawn) (He.ga K "numbers_drawn") cdv A outer s H E) (K := fun e s'' => L2N.CX P w outer H s E e s'') rfl
  have tk := L2N.takes_of (X := cxOf (L2N.CX P w) P w K mg base N_numbers_drawn "numbers_drawn" (defScope s_numbers_drawn) (He.ga K "numbers_drawn") cdv A outer s H E) (E := E) rfl rfl rfl rfl
  have nd := sc_numbers_drawn.nd
  exact (qcons (qset (i := 2) nd rfl (.inl rfl) (qcall O_whole (hr.mono (by decide)) rfl g_whole F_whole.kp b_whole (fun σ => L2N.passAt tk σ) (qa_cons (qvar (i := 0) rfl (.inl rfl)) (qa_cons (qvar (i := 1) rfl (.inl rfl)) qa_nil)))) (qcons (qset (i := 3) nd rfl (.inr rfl) (qcall O_power (hr.mono (by decide)) rfl g_power F_power.kp b_power (fun σ => L2N.passAt tk σ) (qa_cons (qix (qvar (i := 0) rfl (.inl rfl)) qint) (qa_cons (qvar (i := 1) rfl (.inl rfl)) qa_nil)))) (qgrid (i := 4) (ν := 8) (fs := [2, 3]) rfl nd rfl rfl (sw_true rfl rfl rfl (by decide +kernel)) (qir1 rfl f_range (qa_cons (qvar (i := 3) rfl (.inr (.inl rfl))) qa_nil)) (blkOk_by (own := [("height", 8)]) (N := N_numbers_drawn) (sc := defScope s_numbers_drawn) (by decide +kernel)) (fun _ _ _ _ _ => pg_name (i := 8) nd rfl (.inl rfl)) (fun _ _ _ _ _ => (qrep (qlst (qa_cons qint qa_nil)) (qvar (i := 3) rfl (.inr (.inl rfl))))) (qg2cons (qggfor (ws := [5]) hp rfl (by decide) (qir1 rfl f_range (qa_cons (qfnB call_len_seq does_len rfl f_len boot_len (qa_cons (qvar (i := 2) rfl (.inl rfl)) qa_nil)) qa_nil)) (fun B => (qgn (i := 5) nd rfl (.inl rfl) (by decide))) (qggcons (qggasg (ws := [6, 7]) (by decide) (qix (qvar (i := 2) rfl (.inl rfl)) (qvar (i := 5) rfl (.inl rfl))) (fun B => (qgt rfl (qgscons (qgn (i := 6) nd rfl (.inl rfl) (by decide)) (qgscons (qgn (i := 7) nd rfl (.inl rfl) (by decide)) qgsnil))))) (qggone (qggset2 (i := 4) rfl (.inl rfl) (qop op_sub does_sub (qop op_sub does_sub (qvar (i := 3) rfl (.inr (.inl rfl))) qint) (qvar (i := 7) rfl (.inl rfl))) (qvar (i := 6) rfl (.inl rfl)) (qvar (i := 5) rfl (.inl rfl)))))) (qg2done (qone (qret (qvar (i := 4) rfl (.inl rfl)))))))))
abbrev N__law_well : List Str := ["script", "place", "cell"]
theorem sc__law_well : FnScope N__law_well ["script", "place"] (defScope s__law_well) := ⟨rfl, rfl, rfl, by decide +kernel, rfl, by decide +kernel, by decide +kernel⟩
theorem ok__law_well (X0 : K.In h) (G : h.Ns mainGlobals mg) (c : He.SaysD fa fn K) (cx : exB (["ThreadError", "InvalidBook", "InvalidDepth"] : List Str) K = true) : ∃ fd, FunD K "_law_well" "_law_well" (defArgs s__law_well) (defBody s__law_well) (defScope s__law_well) [] [] (He.ga K "_law_well") fd ∧ FnOk P w K mg base (L2N.CX P w) 1 (He.ga K "_law_well") fd ["script", "place"] (spF K 2 m__law_well) := by
  have f_abs : mg "abs" = none := He.free_ok X0 G (c.fact 31 rfl)
  have f_int : mg "int" = none := He.free_ok X0 G (c.fact 35 rfl)
  have f_len : mg "len" = none := He.free_ok X0 G (c.fact 37 rfl)
  have f_max : mg "max" = none := He.free_ok X0 G (c.fact 39 rfl)
  obtain ⟨fd, F⟩ := c.def_ 18 (d := d__law_well) rfl
  refine ⟨fd, F, fn_ok (k := 0) F sc__law_well fun cdv A outer s H E hr B => ?_⟩
  have hp : PassesOwn (model P w) _ _ _ := passes_of (X := cxOf (L2N.CX P w) P w K mg base N__law_well "_law_well" (defScope s__law_well) (He.ga K "_law_well") cdv A outer s H E) (K := fun e s'' => L2N.CX P w outer H s E e s'') rfl
  have tk := L2N.takes_of (X := cxOf (L2N.CX P w) P w K mg base N__law_well "_law_well" (defScope s__law_well) (He.ga K "_law_well") cdv A outer s H E) (E := E) rfl rfl rfl rfl
  have nd := sc__law_well.nd
  exact (qcons (qset (i := 2) nd rfl (.inl rfl) (qifx (qtcmp op_lt does_lt (qvar (i := 1) rfl (.inl rfl)) (qfnB call_len_seq does_len rfl f_len boot_len (qa_cons (qvar (i := 0) rfl (.inl rfl)) qa_nil))) (qfnT call_int1 does_int rfl f_int boot_int (qa_cons (qix (qvar (i := 0) rfl (.inl rfl)) (qvar (i := 1) rfl (.inl rfl))) qa_nil)) (qop op_add4 does_add (qop Ev.op_mulX does_mulX (qvar (i := 1) rfl (.inl rfl)) qint) (qop Ev.op_mulX does_mulX (qfnB call_len_seq does_len rfl f_len boot_len (qa_cons (qvar (i := 0) rfl (.inl rfl)) qa_nil)) qint)))) (qone (qret (qlst (qa_cons (qfnB (call_max2 rfl) does_max2 rfl f_max boot_max (qa_cons qint (qa_cons (qop op_sub does_sub (qfnB call_abs does_abs rfl f_abs boot_abs (qa_cons (qvar (i := 2) rfl (.inl rfl)) qa_nil)) (qop op_pow does_pow qint qint)) qa_nil))) (qa_cons (qop op_mod does_mod (qfnT call_int1 does_int rfl f_int boot_int (qa_cons (qop op_add4 does_add (qop op_add4 does_add (qop Ev.op_mulX does_mulX (qvar (i := 2) rfl (.inl rfl)) qint) (qop Ev.op_mulX does_mulX (qvar (i := 1) rfl (.inl rfl)) qint)) qint) qa_nil)) (qop op_add4 does_add (qop op_pow does_pow qint qint) qint)) (qa_cons qint qa_nil)))))))
abbrev N__law_draw : List Str := ["well", "many", "found", "mixed"]
theorem sc__law_draw : FnScope N__law_draw ["well", "many"] (defScope s__law_draw) := ⟨rfl, rfl, rfl, by decide +kernel, rfl, by decide +kernel, by decide +kernel⟩
theorem ok__law_draw (X0 : K.In h) (G : h.Ns mainGlobals mg) (c : He.SaysD fa fn K) (cx : exB (["ThreadError", "InvalidBook", "InvalidDepth"] : List Str) K = true) : ∃ fd, FunD K "_law_draw" "_law_draw" (defArgs s__law_draw) (defBody s__law_draw) (defScope s__law_draw) [] [] (He.ga K "_law_draw") fd ∧ FnOk P w K mg base (L2N.CX P w) 1 (He.ga K "_law_draw") fd ["well", "many"] (spF K 2 m__law_draw) := by
  have f_int : mg "int" = none := He.free_ok X0 G (c.fact 35 rfl)
  obtain ⟨fd, F⟩ := c.def_ 19 (d := d__law_draw) rfl
  refine ⟨fd, F, fn_ok (k := 0) F sc__law_draw fun cdv A outer s H E hr B => ?_⟩
  have hp : PassesOwn (model P w) _ _ _ := passes_of (X := cxOf (L2N.CX P w) P w K mg base N__law_draw "_law_draw" (defScope s__law_draw) (He.ga K "_law_draw") cdv A outer s H E) (K := fun e s'' => L2N.CX P w outer H s E e s'') rfl
  have tk := L2N.takes_of (X := cxOf (L2N.CX P w) P w K mg base N__law_draw "_law_draw" (defScope s__law_draw) (He.ga K "_law_draw") cdv A outer s H E) (E := E) rfl rfl rfl rfl
  have nd := sc__law_draw.nd
  exact (qcons (qif (qtcmp op_gt does_gt (qix (qvar (i := 0) rfl (.inl rfl)) qint) qint) (qcons (qset (i := 2) nd rfl (.inl rfl) (qop op_mod does_mod (qfnT call_int1 does_int rfl f_int boot_int (qa_cons (qix (qvar (i := 0) rfl (.inl rfl)) qint) qa_nil)) (qvar (i := 1) rfl (.inl rfl)))) (qcons (qsetix (i := 0) rfl (.inl rfl) qint (qop op_fdivW does_div (qix (qvar (i := 0) rfl (.inl rfl)) qint) (qvar (i := 1) rfl (.inl rfl)))) (qone (qret (qvar (i := 2) rfl (.inl rfl)))))) qnil) (qcons (qsetix (i := 0) rfl (.inl rfl) qint (qop op_add4 does_add (qix (qvar (i := 0) rfl (.inl rfl)) qint) qint)) (qcons (qset (i := 3) nd rfl (.inl rfl) (qop op_mod does_mod (qfnT call_int1 does_int rfl f_int boot_int (qa_cons (qop op_powW does_powW (qop op_add4 does_add (qix (qvar (i := 0) rfl (.inl rfl)) qint) (qop op_mulW does_mul qint (qix (qvar (i := 0) rfl (.inl rfl)) qint))) qint) qa_nil)) (qop op_add4 does_add (qop op_pow does_pow qint qint) qint))) (qcons (qset (i := 3) nd rfl (.inl rfl) (qop op_mod does_mod (qfnT call_int1 does_int rfl f_int boot_int (qa_cons (qop op_powW does_powW (qop op_add4 does_add (qvar (i := 3) rfl (.inl rfl)) qint) qint) qa_nil)) (qop op_add4 does_add (qop op_pow does_pow qint qint) qint))) (qone (qret (qop op_mod does_mod (qfnT call_int1 does_int rfl f_int boot_int (qa_cons (qop op_fdivW does_div (qvar (i := 3) rfl (.inl rfl)) (qop op_pow does_pow qint qint)) qa_nil)) (qvar (i := 1) rfl (.inl rfl)))))))))
abbrev N__law_same : List Str := ["told", "due", "k"]
theorem sc__law_same : FnScope N__law_same ["told", "due"] (defScope s__law_same) := ⟨rfl, rfl, rfl, by decide +kernel, rfl, by decide +kernel, by decide +kernel⟩
theorem ok__law_same (X0 : K.In h) (G : h.Ns mainGlobals mg) (c : He.SaysD fa fn K) (cx : exB (["ThreadError", "InvalidBook", "InvalidDepth"] : List Str) K = true) : ∀ fuel : Nat, ∃ fd, FunD K "_law_same" "_law_same" (defArgs s__law_same) (defBody s__law_same) (defScope s__law_same) [] [] (He.ga K "_law_same") fd ∧ FnOk P w K mg base (L2N.CX P w) (1 + fuel) (He.ga K "_law_same") fd ["told", "due"] (spF K 2 (m__law_same fuel)) := by
  have f_all : mg "all" = none := He.free_ok X0 G (c.fact 32 rfl)
  have f_bool : mg "bool" = none := He.free_ok X0 G (c.fact 33 rfl)
  have f_int : mg "int" = none := He.free_ok X0 G (c.fact 35 rfl)
  have f_isinstance : mg "isinstance" = none := He.free_ok X0 G (c.fact 36 rfl)
  have f_len : mg "len" = none := He.free_ok X0 G (c.fact 37 rfl)
  have f_list : mg "list" = none := He.free_ok X0 G (c.fact 38 rfl)
  have f_range : mg "range" = none := He.free_ok X0 G (c.fact 41 rfl)
  have f_str : mg "str" = none := He.free_ok X0 G (c.fact 43 rfl)
  have f_tuple : mg "tuple" = none := He.free_ok X0 G (c.fact 44 rfl)
  have g__law_same : mg "_law_same" = some (.ref (He.ga K "_law_same")) := He.glo_ok X0 G (c.fact 20 rfl)
  obtain ⟨fd, F__law_same⟩ := c.def_ 20 (d := d__law_same) rfl
  have F__law_same : FunD K "_law_same" "_law_same" (defArgs s__law_same) (defBody s__law_same) (defScope s__law_same) [] [] (He.ga K "_law_same") fd := F__law_same
  have b__law_same : Binds K fd ["told", "due"] [] := F__law_same.bindsN fun _ _ _ _ _ _ us hl => match us, hl with | [_, _], _ => rfl
  intro fuel
  refine ⟨fd, F__law_same, ?_⟩
  induction fuel with
  | zero =>
    refine (fn_ok (k := 0) (b := sNever) F__law_same sc__law_same fun cdv A outer s H E hr B => qnevers).imp fun vs H Q E z => ⟨z.1, ?_⟩
    obtain ⟨e, F, R, z⟩ := z.2
    exact z.elim
  | succ fuel ih =>
    have O__law_same := ih
    refine fn_ok (k := 1 + fuel) F__law_same sc__law_same fun cdv A outer s H E hr B => ?_
    have hp : PassesOwn (model P w) _ _ _ := passes_of (X := cxOf (L2N.CX P w) P w K mg base N__law_same "_law_same" (defScope s__law_same) (He.ga K "_law_same") cdv A outer s H E) (K := fun e s'' => L2N.CX P w outer H s E e s'') rfl
    have tk := L2N.takes_of (X := cxOf (L2N.CX P w) P w K mg base N__law_same "_law_same" (defScope s__law_same) (He.ga K "_law_same") cdv A outer s H E) (E := E) rfl rfl rfl rfl
    have nd := sc__law_same.nd
    exact (qcons (qif (qtcmp op_isN does_isN (qvar (i := 1) rfl (.inr (.inl rfl))) qnon) (qone (qret (qcmp op_isN does_isN (qvar (i := 0) rfl (.inr (.inl rfl))) qnon))) qnil) (qcons (qif (qtval (qisi k_bool rfl f_isinstance rfl f_bool boot_bool (qvar (i := 1) rfl (.inr (.inl rfl))))) (qone (qret (qifx (qtval (qvar (i := 1) rfl (.inr (.inl rfl)))) (qcmp op_isBl does_isB (qvar (i := 0) rfl (.inr (.inl rfl))) qbl) (qcmp op_isBl does_isB (qvar (i := 0) rfl (.inr (.inl rfl))) qbl)))) qnil) (qcons (qif (qtval (qisi k_int rfl f_isinstance rfl f_int boot_int (qvar (i := 1) rfl (.inr (.inl rfl))))) (qone (qret (qand (qisi k_int rfl f_isinstance rfl f_int boot_int (qvar (i := 0) rfl (.inr (.inl rfl)))) (qand (qnot (qisi k_bool rfl f_isinstance rfl f_bool boot_bool (qvar (i := 0) rfl (.inr (.inl rfl))))) (qone_ (qcmp (op_eqD hr.units) does_eq (qvar (i := 0) rfl (.inr (.inl rfl))) (qvar (i := 1) rfl (.inr (.inl rfl))))))))) qnil) (qcons (qif (qtval (qisi k_str rfl f_isinstance rfl f_str boot_str (qvar (i := 1) rfl (.inr (.inl rfl))))) (qone (qret (qand (qisi k_str rfl f_isinstance rfl f_str boot_str (qvar (i := 0) rfl (.inr (.inl rfl)))) (qone_ (qcmp (op_eqD hr.units) does_eq (qvar (i := 0) rfl (.inr (.inl rfl))) (qvar (i := 1) rfl (.inr (.inl rfl)))))))) qnil) (qcons (qif (QW.t (qw_or (qtcmp (op_neD hr.units) does_ne (qisi k_tuple rfl f_isinstance rfl f_tuple boot_tuple (qvar (i := 1) rfl (.inr (.inl rfl)))) (qisi k_tuple rfl f_isinstance rfl f_tuple boot_tuple (qvar (i := 0) rfl (.inr (.inl rfl))))) (qw_or1 (qtcmp (op_neD hr.units) does_ne (qisi k_list rfl f_isinstance rfl f_list boot_list (qvar (i := 1) rfl (.inr (.inl rfl)))) (qisi k_list rfl f_isinstance rfl f_list boot_list (qvar (i := 0) rfl (.inr (.inl rfl)))))))) (qone (qret qbl)) qnil) (qone (qret (qand (qcmp (op_eqD hr.units) does_eq (qfnB call_len_seq does_len rfl f_len boot_len (qa_cons (qvar (i := 0) rfl (.inr (.inl rfl))) qa_nil)) (qfnB call_len_seq does_len rfl f_len boot_len (qa_cons (qvar (i := 1) rfl (.inr (.inl rfl))) qa_nil))) (qone_ (qfnB (cr_all rfl) does_all rfl f_all boot_all (qa_cons (qcomp (vs := [2]) rfl nd (qir1 rfl f_range (qa_cons (qfnB call_len_seq does_len rfl f_len boot_len (qa_cons (qvar (i := 1) rfl (.inr (.inl rfl))) qa_nil)) qa_nil)) (blkOk_by (own := [("k", 2)]) (N := N__law_same) (sc := defScope s__law_same) (by decide +kernel)) (gok_n (by decide)) rfl (fun _ _ _ _ _ B => (qgn (i := 2) nd rfl (.inl rfl) (by decide))) (fun _ _ _ _ _ => qtsnil) (fun _ _ _ _ _ => (qcall O__law_same (hr.mono (by omega)) rfl g__law_same F__law_same.kp b__law_same (fun σ => L2N.passAt takesN0 σ) (qa_cons (qix (qvar (i := 0) rfl (.inr (.inl rfl))) (qvar (i := 2) rfl (.inl rfl))) (qa_cons (qix (qvar (i := 1) rfl (.inr (.inl rfl))) (qvar (i := 2) rfl (.inl rfl))) qa_nil))))) qa_nil)))))))))))
abbrev N__law_order : List Str := ["well", "many", "left", "found", "turn"]
theorem sc__law_order : FnScope N__law_order ["well", "many"] (defScope s__law_order) := ⟨rfl, rfl, rfl, by decide +kernel, rfl, by decide +kernel, by decide +kernel⟩
theorem ok__law_order (X0 : K.In h) (G : h.Ns mainGlobals mg) (c : He.SaysD fa fn K) (cx : exB (["ThreadError", "InvalidBook", "InvalidDepth"] : List Str) K = true) : ∃ fd, FunD K "_law_order" "_law_order" (defArgs s__law_order) (defBody s__law_order) (defScope s__law_order) [] [] (He.ga K "_law_order") fd ∧ FnOk P w K mg base (L2N.CX P w) 2 (He.ga K "_law_order") fd ["well", "many"] (spF K 2 m__law_order) := by
  obtain ⟨fd__law_draw, F__law_draw, O__law_draw⟩ := ok__law_draw (P := P) (w := w) (base := base) X0 G c cx
  have b__law_draw : Binds K fd__law_draw ["well", "many"] [] := F__law_draw.bindsN fun _ _ _ _ _ _ us hl => match us, hl with | [_, _], _ => rfl
  have g__law_draw : mg "_law_draw" = some (.ref (He.ga K "_law_draw")) := He.glo_ok X0 G (c.fact 19 rfl)
  have f_len : mg "len" = none := He.free_ok X0 G (c.fact 37 rfl)
  have f_list : mg "list" = none := He.free_ok X0 G (c.fact 38 rfl)
  have f_range : mg "range" = none := He.free_ok X0 G (c.fact 41 rfl)
  obtain ⟨fd, F⟩ := c.def_ 21 (d := d__law_order) rfl
  refine ⟨fd, F, fn_ok (k := 1) F sc__law_order fun cdv A outer s H E hr B => ?_⟩
  have hp : PassesOwn (model P w) _ _ _ := passes_of (X := cxOf (L2N.CX P w) P w K mg base N__law_order "_law_order" (defScope s__law_order) (He.ga K "_law_order") cdv A outer s H E) (K := fun e s'' => L2N.CX P w outer H s E e s'') rfl
  have tk := L2N.takes_of (X := cxOf (L2N.CX P w) P w K mg base N__law_order "_law_order" (defScope s__law_order) (He.ga K "_law_order") cdv A outer s H E) (E := E) rfl rfl rfl rfl
  have nd := sc__law_order.nd
  exact (qcons (qpar2 (i := 2) (j := 3) rfl nd rfl rfl (by decide) rfl rfl (qa_cons (qlistrng rfl rfl f_list rfl f_range (qvar (i := 1) rfl (.inl rfl))) (qa_cons (qlst qa_nil) qa_nil)) (by rfl)) (qcons (qfor (ws := [4]) hp rfl (qir1 rfl f_range (qa_cons (qvar (i := 1) rfl (.inl rfl)) qa_nil)) (fun B => (qgn (i := 4) nd rfl (.inl rfl) (by decide))) (fun B => (qone (qexpr (qmeth (i := 3) PySem.F.slot_list_append PySem.F.type_list_append mt_append does_append rfl (.inl rfl) (qa_cons (qmeth (i := 2) PySem.F.slot_list_pop PySem.F.type_list_pop mt_popAt does_pop rfl (.inl rfl) (qa_cons (qcall O__law_draw (hr.mono (by decide)) rfl g__law_draw F__law_draw.kp b__law_draw (fun σ => L2N.passAt tk σ) (qa_cons (qvar (i := 0) rfl (.inl rfl)) (qa_cons (qfnB call_len_seq does_len rfl f_len boot_len (qa_cons (qvar (i := 2) rfl (.inl rfl)) qa_nil)) qa_nil))) qa_nil)) qa_nil)))))) (qone (qret (qvar (i := 3) rfl (.inl rfl))))))
abbrev N__law_kind : List Str := ["well", "b", "many", "way", "places", "at", "turned", "x", "y"]
theorem sc__law_kind : FnScope N__law_kind ["well", "b", "many"] (defScope s__law_kind) := ⟨rfl, rfl, rfl, by decide +kernel, rfl, by decide +kernel, by decide +kernel⟩
theorem ok__law_kind (X0 : K.In h) (G : h.Ns mainGlobals mg) (c : He.SaysD fa fn K) (cx : exB (["ThreadError", "InvalidBook", "InvalidDepth"] : List Str) K = true) : ∃ fd, FunD K "_law_kind" "_law_kind" (defArgs s__law_kind) (defBody s__law_kind) (defScope s__law_kind) [] [] (He.ga K "_law_kind") fd ∧ FnOk P w K mg base (L2N.CX P w) 3 (He.ga K "_law_kind") fd ["well", "b", "many"] (spF K 3 m__law_kind) := by
  obtain ⟨fd__law_draw, F__law_draw, O__law_draw⟩ := ok__law_draw (P := P) (w := w) (base := base) X0 G c cx
  have b__law_draw : Binds K fd__law_draw ["well", "many"] [] := F__law_draw.bindsN fun _ _ _ _ _ _ us hl => match us, hl with | [_, _], _ => rfl
  have g__law_draw : mg "_law_draw" = some (.ref (He.ga K "_law_draw")) := He.glo_ok X0 G (c.fact 19 rfl)
  obtain ⟨fd__law_order, F__law_order, O__law_order⟩ := ok__law_order (P := P) (w := w) (base := base) X0 G c cx
  have b__law_order : Binds K fd__law_order ["well", "many"] [] := F__law_order.bindsN fun _ _ _ _ _ _ us hl => match us, hl with | [_, _], _ => rfl
  have g__law_order : mg "_law_order" = some (.ref (He.ga K "_law_order")) := He.glo_ok X0 G (c.fact 21 rfl)
  have f_int : mg "int" = none := He.free_ok X0 G (c.fact 35 rfl)
  have f_range : mg "range" = none := He.free_ok X0 G (c.fact 41 rfl)
  have f_tuple : mg "tuple" = none := He.free_ok X0 G (c.fact 44 rfl)
  obtain ⟨fd, F⟩ := c.def_ 22 (d := d__law_kind) rfl
  refine ⟨fd, F, fn_ok (k := 2) F sc__law_kind fun cdv A outer s H E hr B => ?_⟩
  have hp : PassesOwn (model P w) _ _ _ := passes_of (X := cxOf (L2N.CX P w) P w K mg base N__law_kind "_law_kind" (defScope s__law_kind) (He.ga K "_law_kind") cdv A outer s H E) (K := fun e s'' => L2N.CX P w outer H s E e s'') rfl
  have tk := L2N.takes_of (X := cxOf (L2N.CX P w) P w K mg base N__law_kind "_law_kind" (defScope s__law_kind) (He.ga K "_law_kind") cdv A outer s H E) (E := E) rfl rfl rfl rfl
  have nd := sc__law_kind.nd
  exact (qcons (qparT (is := [3, 4]) (gs := gsNames [3, 4]) rfl (qa_cons (qcall O__law_draw (hr.mono (by decide)) rfl g__law_draw F__law_draw.kp b__law_draw (fun σ => L2N.passAt tk σ) (qa_cons (qvar (i := 0) rfl (.inr (.inl rfl))) (qa_cons qint qa_nil))) (qa_cons (qlst qa_nil) qa_nil)) (pgs_cons (pg_name (i := 3) nd rfl (.inl rfl)) (pgs_cons (pg_name (i := 4) nd rfl (.inr rfl)) pgs_nil)) (gsNames_ok [3, 4]) (by decide)) (qcons (qfor (ws := [5]) hp rfl (qir1 rfl f_range (qa_cons (qop op_mulW does_mul (qvar (i := 1) rfl (.inr (.inl rfl))) (qvar (i := 1) rfl (.inr (.inl rfl)))) qa_nil)) (fun B => (qgn (i := 5) nd rfl (.inl rfl) (by decide))) (fun B => (qone (qexpr (qmeth (i := 4) PySem.F.slot_list_append PySem.F.type_list_append mt_append does_append rfl (.inr (.inl rfl)) (qa_cons (qtup (qa_cons (qop op_mod does_mod (qfnT call_int1 does_int rfl f_int boot_int (qa_cons (qvar (i := 5) rfl (.inl rfl)) qa_nil)) (qvar (i := 1) rfl (.inr (.inl rfl)))) (qa_cons (qop op_fdivW does_div (qvar (i := 5) rfl (.inl rfl)) (qvar (i := 1) rfl (.inr (.inl rfl)))) qa_nil))) qa_nil)))))) (qcons (qif (qtcmp op_lt does_lt (qvar (i := 3) rfl (.inl rfl)) qint) (qone (qset (i := 4) nd rfl (.inr rfl) (qcomp (vs := [5]) rfl nd (qiof (qcall O__law_order (hr.mono (by decide)) rfl g__law_order F__law_order.kp b__law_order (fun σ => L2N.passAt tk σ) (qa_cons (qvar (i := 0) rfl (.inr (.inl rfl))) (qa_cons (qop op_mulW does_mul (qvar (i := 1) rfl (.inr (.inl rfl))) (qvar (i := 1) rfl (.inr (.inl rfl)))) qa_nil)))) (blkOk_by (own := [("at", 5)]) (N := N__law_kind) (sc := defScope s__law_kind) (by decide +kernel)) (gok_n (by decide)) rfl (fun _ _ _ _ _ B => (qgn (i := 5) nd rfl (.inl rfl) (by decide))) (fun _ _ _ _ _ => qtsnil) (fun _ _ _ _ _ => (qix (qvar (i := 4) rfl (.inr (.inl rfl))) (qvar (i := 5) rfl (.inl rfl))))))) qnil) (qcons (qif (qtcmp (op_eqD hr.units) does_eq (qvar (i := 3) rfl (.inl rfl)) qint) (qcons (qset (i := 4) nd rfl (.inr rfl) (qcomp (vs := [7, 8]) rfl nd (qiof (qvar (i := 4) rfl (.inr (.inl rfl)))) (blkOk_by (own := [("x", 7), ("y", 8)]) (N := N__law_kind) (sc := defScope s__law_kind) (by decide +kernel)) (gok_t (gsok_cons (gok_n (by decide)) (gsok_cons (gok_n (by decide)) gsok_nil))) rfl (fun _ _ _ _ _ B => (qgt rfl (qgscons (qgn (i := 7) nd rfl (.inl rfl) (by decide)) (qgscons (qgn (i := 8) nd rfl (.inl rfl) (by decide)) qgsnil)))) (fun _ _ _ _ _ => qtsnil) (fun _ _ _ _ _ => (qtup (qa_cons (qifx (qtcmp (op_eqD hr.units) does_eq (qop op_mod does_mod (qfnT call_int1 does_int rfl f_int boot_int (qa_cons (qvar (i := 8) rfl (.inl rfl)) qa_nil)) qint) qint) (qvar (i := 7) rfl (.inl rfl)) (qop op_sub does_sub (qop op_sub does_sub (qvar (i := 1) rfl (.inr (.inl rfl))) qint) (qvar (i := 7) rfl (.inl rfl)))) (qa_cons (qvar (i := 8) rfl (.inl rfl)) qa_nil)))))) (qcons (qset (i := 6) nd rfl (.inl rfl) (qcall O__law_draw (hr.mono (by decide)) rfl g__law_draw F__law_draw.kp b__law_draw (fun σ => L2N.passAt tk σ) (qa_cons (qvar (i := 0) rfl (.inr (.inl rfl))) (qa_cons qint qa_nil)))) (qone (qset (i := 4) nd rfl (.inr rfl) (qifx (qtcmp (op_eqD hr.units) does_eq (qvar (i := 6) rfl (.inl rfl)) qint) (qcomp (vs := [7, 8]) rfl nd (qiof (qvar (i := 4) rfl (.inr (.inl rfl)))) (blkOk_by (own := [("x", 7), ("y", 8)]) (N := N__law_kind) (sc := defScope s__law_kind) (by decide +kernel)) (gok_t (gsok_cons (gok_n (by decide)) (gsok_cons (gok_n (by decide)) gsok_nil))) rfl (fun _ _ _ _ _ B => (qgt rfl (qgscons (qgn (i := 7) nd rfl (.inl rfl) (by decide)) (qgscons (qgn (i := 8) nd rfl (.inl rfl) (by decide)) qgsnil)))) (fun _ _ _ _ _ => qtsnil) (fun _ _ _ _ _ => (qtup (qa_cons (qvar (i := 8) rfl (.inl rfl)) (qa_cons (qvar (i := 7) rfl (.inl rfl)) qa_nil))))) (qvar (i := 4) rfl (.inr (.inl rfl)))))))) qnil) (qone (qret (qfnT call_tuple_of does_tuple rfl f_tuple boot_tuple (qa_cons (qcomp (vs := [7, 8]) rfl nd (qiof (qvar (i := 4) rfl (.inr (.inl rfl)))) (blkOk_by (own := [("x", 7), ("y", 8)]) (N := N__law_kind) (sc := defScope s__law_kind) (by decide +kernel)) (gok_t (gsok_cons (gok_n (by decide)) (gsok_cons (gok_n (by decide)) gsok_nil))) rfl (fun _ _ _ _ _ B => (qgt rfl (qgscons (qgn (i := 7) nd rfl (.inl rfl) (by decide)) (qgscons (qgn (i := 8) nd rfl (.inl rfl) (by decide)) qgsnil)))) (fun _ _ _ _ _ => qtsnil) (fun _ _ _ _ _ => (qtup (qa_cons (qvar (i := 7) rfl (.inl rfl)) (qa_cons (qvar (i := 8) rfl (.inl rfl)) (qa_cons (qcall O__law_draw (hr.mono (by decide)) rfl g__law_draw F__law_draw.kp b__law_draw (fun σ => L2N.passAt takesN0 σ) (qa_cons (qvar (i := 0) rfl (.inr (.inl rfl))) (qa_cons (qvar (i := 2) rfl (.inr (.inl rfl))) qa_nil))) qa_nil)))))) qa_nil))))))))
abbrev N__law_book : List Str := ["well", "most", "b", "many", "kind"]
theorem sc__law_book : FnScope N__law_book ["well", "most"] (defScope s__law_book) := ⟨rfl, rfl, rfl, by decide +kernel, rfl, by decide +kernel, by decide +kernel⟩
theorem ok__law_book (X0 : K.In h) (G : h.Ns mainGlobals mg) (c : He.SaysD fa fn K) (cx : exB (["ThreadError", "InvalidBook", "InvalidDepth"] : List Str) K = true) : ∃ fd, FunD K "_law_book" "_law_book" (defArgs s__law_book) (defBody s__law_book) (defScope s__law_book) [] [] (He.ga K "_law_book") fd ∧ FnOk P w K mg base (L2N.CX P w) 4 (He.ga K "_law_book") fd ["well", "most"] (spF K 2 m__law_book) := by
  obtain ⟨fd__law_draw, F__law_draw, O__law_draw⟩ := ok__law_draw (P := P) (w := w) (base := base) X0 G c cx
  have b__law_draw : Binds K fd__law_draw ["well", "many"] [] := F__law_draw.bindsN fun _ _ _ _ _ _ us hl => match us, hl with | [_, _], _ => rfl
  have g__law_draw : mg "_law_draw" = some (.ref (He.ga K "_law_draw")) := He.glo_ok X0 G (c.fact 19 rfl)
  obtain ⟨fd__law_kind, F__law_kind, O__law_kind⟩ := ok__law_kind (P := P) (w := w) (base := base) X0 G c cx
  have b__law_kind : Binds K fd__law_kind ["well", "b", "many"] [] := F__law_kind.bindsN fun _ _ _ _ _ _ us hl => match us, hl with | [_, _, _], _ => rfl
  have g__law_kind : mg "_law_kind" = some (.ref (He.ga K "_law_kind")) := He.glo_ok X0 G (c.fact 22 rfl)
  have f_range : mg "range" = none := He.free_ok X0 G (c.fact 41 rfl)
  have f_tuple : mg "tuple" = none := He.free_ok X0 G (c.fact 44 rfl)
  obtain ⟨fd, F⟩ := c.def_ 23 (d := d__law_book) rfl
  refine ⟨fd, F, fn_ok (k := 3) F sc__law_book fun cdv A outer s H E hr B => ?_⟩
  have hp : PassesOwn (model P w) _ _ _ := passes_of (X := cxOf (L2N.CX P w) P w K mg base N__law_book "_law_book" (defScope s__law_book) (He.ga K "_law_book") cdv A outer s H E) (K := fun e s'' => L2N.CX P w outer H s E e s'') rfl
  have tk := L2N.takes_of (X := cxOf (L2N.CX P w) P w K mg base N__law_book "_law_book" (defScope s__law_book) (He.ga K "_law_book") cdv A outer s H E) (E := E) rfl rfl rfl rfl
  have nd := sc__law_book.nd
  exact (qcons (qparT (is := [2, 3]) (gs := gsNames [2, 3]) rfl (qa_cons (qop op_add4 does_add qint (qcall O__law_draw (hr.mono (by decide)) rfl g__law_draw F__law_draw.kp b__law_draw (fun σ => L2N.passAt tk σ) (qa_cons (qvar (i := 0) rfl (.inr (.inl rfl))) (qa_cons qint qa_nil)))) (qa_cons (qop op_add4 does_add qint (qcall O__law_draw (hr.mono (by decide)) rfl g__law_draw F__law_draw.kp b__law_draw (fun σ => L2N.passAt tk σ) (qa_cons (qvar (i := 0) rfl (.inr (.inl rfl))) (qa_cons (qvar (i := 1) rfl (.inl rfl)) qa_nil)))) qa_nil)) (pgs_cons (pg_name (i := 2) nd rfl (.inr rfl)) (pgs_cons (pg_name (i := 3) nd rfl (.inr rfl)) pgs_nil)) (gsNames_ok [2, 3]) (by decide)) (qone (qret (qtup (qa_cons (qvar (i := 2) rfl (.inr (.inl rfl))) (qa_cons (qfnT call_tuple_of does_tuple rfl f_tuple boot_tuple (qa_cons (qcomp (vs := [4]) rfl nd (qir1 rfl f_range (qa_cons (qvar (i := 3) rfl (.inr (.inl rfl))) qa_nil)) (blkOk_by (own := [("kind", 4)]) (N := N__law_book) (sc := defScope s__law_book) (by decide +kernel)) (gok_n (by decide)) rfl (fun _ _ _ _ _ B => (qgn (i := 4) nd rfl (.inl rfl) (by decide))) (fun _ _ _ _ _ => qtsnil) (fun _ _ _ _ _ => (qcall O__law_kind (hr.mono (by decide)) rfl g__law_kind F__law_kind.kp b__law_kind (fun σ => L2N.passAt takesN0 σ) (qa_cons (qvar (i := 0) rfl (.inr (.inl rfl))) (qa_cons (qvar (i := 2) rfl (.inr (.inl rfl))) (qa_cons (qvar (i := 3) rfl (.inr (.inl rfl))) qa_nil)))))) qa_nil)) qa_nil))))))
abbrev N__law_power : List Str := ["b", "d", "found", "turn"]
theorem sc__law_power : FnScope N__law_power ["b", "d"] (defScope s__law_power) := ⟨rfl, rfl, rfl, by decide +kernel, rfl, by decide +kernel, by decide +kernel⟩
theorem ok__law_power (X0 : K.In h) (G : h.Ns mainGlobals mg) (c : He.SaysD fa fn K) (cx : exB (["ThreadError", "InvalidBook", "InvalidDepth"] : List Str) K = true) : ∃ fd, FunD K "_law_power" "_law_power" (defArgs s__law_power) (defBody s__law_power) (defScope s__law_power) [] [] (He.ga K "_law_power") fd ∧ FnOk P w K mg base (L2N.CX P w) 1 (He.ga K "_law_power") fd ["b", "d"] (spF K 2 m__law_power) := by
  have f_range : mg "range" = none := He.free_ok X0 G (c.fact 41 rfl)
  obtain ⟨fd, F⟩ := c.def_ 24 (d := d__law_power) rfl
  refine ⟨fd, F, fn_ok (k := 0) F sc__law_power fun cdv A outer s H E hr B => ?_⟩
  have hp : PassesOwn (model P w) _ _ _ := passes_of (X := cxOf (L2N.CX P w) P w K mg base N__law_power "_law_power" (defScope s__law_power) (He.ga K "_law_power") cdv A outer s H E) (K := fun e s'' => L2N.CX P w outer H s E e s'') rfl
  have tk := L2N.takes_of (X := cxOf (L2N.CX P w) P w K mg base N__law_power "_law_power" (defScope s__law_power) (He.ga K "_law_power") cdv A outer s H E) (E := E) rfl rfl rfl rfl
  have nd := sc__law_power.nd
  exact (qcons (qset (i := 2) nd rfl (.inl rfl) qint) (qcons (qfor (ws := [3]) hp rfl (qir1 rfl f_range (qa_cons (qvar (i := 1) rfl (.inl rfl)) qa_nil)) (fun B => (qgn (i := 3) nd rfl (.inl rfl) (by decide))) (fun B => (qone (qset (i := 2) nd rfl (.inl rfl) (qop op_mulW does_mul (qvar (i := 2) rfl (.inl rfl)) (qvar (i := 0) rfl (.inl rfl))))))) (qone (qret (qvar (i := 2) rfl (.inl rfl))))))
abbrev N__law_bad_part : List Str := ["well", "b", "many", "part", "x", "y", "kind", "some"]
theorem sc__law_bad_part : FnScope N__law_bad_part ["well", "b", "many", "part"] (defScope s__law_bad_part) := ⟨rfl, rfl, rfl, by decide +kernel, rfl, by decide +kernel, by decide +kernel⟩
theorem ok__law_bad_part (X0 : K.In h) (G : h.Ns mainGlobals mg) (c : He.SaysD fa fn K) (cx : exB (["ThreadError", "InvalidBook", "InvalidDepth"] : List Str) K = true) : ∃ fd, FunD K "_law_bad_part" "_law_bad_part" (defArgs s__law_bad_part) (defBody s__law_bad_part) (defScope s__law_bad_part) [] [] (He.ga K "_law_bad_part") fd ∧ FnOk P w K mg base (L2N.CX P w) 2 (He.ga K "_law_bad_part") fd ["well", "b", "many", "part"] (spF K 4 m__law_bad_part) := by
  obtain ⟨fd__law_draw, F__law_draw, O__law_draw⟩ := ok__law_draw (P := P) (w := w) (base := base) X0 G c cx
  have b__law_draw : Binds K fd__law_draw ["well", "many"] [] := F__law_draw.bindsN fun _ _ _ _ _ _ us hl => match us, hl with | [_, _], _ => rfl
  have g__law_draw : mg "_law_draw" = some (.ref (He.ga K "_law_draw")) := He.glo_ok X0 G (c.fact 19 rfl)
  have f_list : mg "list" = none := He.free_ok X0 G (c.fact 38 rfl)
  have f_str : mg "str" = none := He.free_ok X0 G (c.fact 43 rfl)
  obtain ⟨fd, F⟩ := c.def_ 25 (d := d__law_bad_part) rfl
  refine ⟨fd, F, fn_ok (k := 1) F sc__law_bad_part fun cdv A outer s H E hr B => ?_⟩
  have hp : PassesOwn (model P w) _ _ _ := passes_of (X := cxOf (L2N.CX P w) P w K mg base N__law_bad_part "_law_bad_part" (defScope s__law_bad_part) (He.ga K "_law_bad_part") cdv A outer s H E) (K := fun e s'' => L2N.CX P w outer H s E e s'') rfl
  have tk := L2N.takes_of (X := cxOf (L2N.CX P w) P w K mg base N__law_bad_part "_law_bad_part" (defScope s__law_bad_part) (He.ga K "_law_bad_part") cdv A outer s H E) (E := E) rfl rfl rfl rfl
  have nd := sc__law_bad_part.nd
  exact (qcons (qasg (ws := [4, 5, 6]) (qvar (i := 3) rfl (.inl rfl)) (qgt rfl (qgscons (qgn (i := 4) nd rfl (.inl rfl) (by decide)) (qgscons (qgn (i := 5) nd rfl (.inl rfl) (by decide)) (qgscons (qgn (i := 6) nd rfl (.inl rfl) (by decide)) qgsnil))))) (qcons (qset (i := 7) nd rfl (.inl rfl) (qlst (qa_cons (qtup (qa_cons (qvar (i := 1) rfl (.inl rfl)) (qa_cons (qvar (i := 5) rfl (.inl rfl)) (qa_cons (qvar (i := 6) rfl (.inl rfl)) qa_nil)))) (qa_cons (qtup (qa_cons (qvar (i := 4) rfl (.inl rfl)) (qa_cons (qvar (i := 1) rfl (.inl rfl)) (qa_cons (qvar (i := 6) rfl (.inl rfl)) qa_nil)))) (qa_cons (qtup (qa_cons (qneg qint) (qa_cons (qvar (i := 5) rfl (.inl rfl)) (qa_cons (qvar (i := 6) rfl (.inl rfl)) qa_nil)))) (qa_cons (qtup (qa_cons (qvar (i := 4) rfl (.inl rfl)) (qa_cons (qneg qint) (qa_cons (qvar (i := 6) rfl (.inl rfl)) qa_nil)))) (qa_cons (qtup (qa_cons (qvar (i := 4) rfl (.inl rfl)) (qa_cons (qvar (i := 5) rfl (.inl rfl)) (qa_cons (qvar (i := 2) rfl (.inl rfl)) qa_nil)))) (qa_cons (qtup (qa_cons (qvar (i := 4) rfl (.inl rfl)) (qa_cons (qvar (i := 5) rfl (.inl rfl)) (qa_cons (qneg qint) qa_nil)))) (qa_cons (qtup (qa_cons (qvar (i := 4) rfl (.inl rfl)) (qa_cons (qvar (i := 5) rfl (.inl rfl)) qa_nil))) (qa_cons (qfnT call_list_of does_list rfl f_list boot_list (qa_cons (qvar (i := 3) rfl (.inl rfl)) qa_nil)) qa_nil)))))))))) (qcons (qset (i := 7) nd rfl (.inl rfl) (qop op_add4 does_add (qvar (i := 7) rfl (.inl rfl)) (qlst (qa_cons (qtup (qa_cons (qvar (i := 4) rfl (.inl rfl)) (qa_cons (qvar (i := 5) rfl (.inl rfl)) (qa_cons (qvar (i := 6) rfl (.inl rfl)) (qa_cons qint qa_nil))))) (qa_cons (qtup (qa_cons (qfnT call_str_int does_str rfl f_str boot_str (qa_cons (qvar (i := 4) rfl (.inl rfl)) qa_nil)) (qa_cons (qvar (i := 5) rfl (.inl rfl)) (qa_cons (qvar (i := 6) rfl (.inl rfl)) qa_nil)))) (qa_cons (qtup (qa_cons (qvar (i := 4) rfl (.inl rfl)) (qa_cons qnon (qa_cons (qvar (i := 6) rfl (.inl rfl)) qa_nil)))) (qa_cons (qtup (qa_cons (qvar (i := 4) rfl (.inl rfl)) (qa_cons (qvar (i := 5) rfl (.inl rfl)) (qa_cons qbl qa_nil)))) (qa_cons (qtup (qa_cons qbl (qa_cons (qvar (i := 5) rfl (.inl rfl)) (qa_cons (qvar (i := 6) rfl (.inl rfl)) qa_nil)))) qa_nil)))))))) (qcons (qset (i := 7) nd rfl (.inl rfl) (qop op_add4 does_add (qvar (i := 7) rfl (.inl rfl)) (qlst (qa_cons (qtup (qa_cons (qvar (i := 4) rfl (.inl rfl)) (qa_cons qbl (qa_cons (qvar (i := 6) rfl (.inl rfl)) qa_nil)))) (qa_cons (qtup (qa_cons qbl (qa_cons (qvar (i := 5) rfl (.inl rfl)) (qa_cons (qvar (i := 6) rfl (.inl rfl)) qa_nil)))) (qa_cons (qtup (qa_cons (qvar (i := 4) rfl (.inl rfl)) (qa_cons qstr (qa_cons (qvar (i := 6) rfl (.inl rfl)) qa_nil)))) (qa_cons (qtup (qa_cons (qvar (i := 4) rfl (.inl rfl)) (qa_cons (qvar (i := 5) rfl (.inl rfl)) (qa_cons qstr qa_nil)))) qa_nil))))))) (qone (qret (qix (qop op_add4 does_add (qvar (i := 7) rfl (.inl rfl)) (qlst (qa_cons (qtup (qa_cons (qvar (i := 4) rfl (.inl rfl)) (qa_cons (qvar (i := 5) rfl (.inl rfl)) (qa_cons (qtup (qa_cons (qvar (i := 6) rfl (.inl rfl)) qa_nil)) qa_nil)))) (qa_cons qnon (qa_cons (qtup qa_nil) (qa_cons qstr (qa_cons qint qa_nil))))))) (qcall O__law_draw (hr.mono (by decide)) rfl g__law_draw F__law_draw.kp b__law_draw (fun σ => L2N.passAt tk σ) (qa_cons (qvar (i := 0) rfl (.inl rfl)) (qa_cons qint qa_nil))))))))))
abbrev N__law_bad_book : List Str := ["well", "book", "b", "kinds", "at", "way", "kind", "spot", "other", "odd", "bad", "twice", "some", "one"]
theorem sc__law_bad_book : FnScope N__law_bad_book ["well", "book"] (defScope s__law_bad_book) := ⟨rfl, rfl, rfl, by decide +kernel, rfl, by decide +kernel, by decide +kernel⟩
theorem ok__law_bad_book (X0 : K.In h) (G : h.Ns mainGlobals mg) (c : He.SaysD fa fn K) (cx : exB (["ThreadError", "InvalidBook", "InvalidDepth"] : List Str) K = true) : ∃ fd, FunD K "_law_bad_book" "_law_bad_book" (defArgs s__law_bad_book) (defBody s__law_bad_book) (defScope s__law_bad_book) [] [] (He.ga K "_law_bad_book") fd ∧ FnOk P w K mg base (L2N.CX P w) 4 (He.ga K "_law_bad_book") fd ["well", "book"] (spF K 2 m__law_bad_book) := by
  obtain ⟨fd__law_draw, F__law_draw, O__law_draw⟩ := ok__law_draw (P := P) (w := w) (base := base) X0 G c cx
  have b__law_draw : Binds K fd__law_draw ["well", "many"] [] := F__law_draw.bindsN fun _ _ _ _ _ _ us hl => match us, hl with | [_, _], _ => rfl
  have g__law_draw : mg "_law_draw" = some (.ref (He.ga K "_law_draw")) := He.glo_ok X0 G (c.fact 19 rfl)
  obtain ⟨fd__law_bad_part, F__law_bad_part, O__law_bad_part⟩ := ok__law_bad_part (P := P) (w := w) (base := base) X0 G c cx
  have b__law_bad_part : Binds K fd__law_bad_part ["well", "b", "many", "part"] [] := F__law_bad_part.bindsN fun _ _ _ _ _ _ us hl => match us, hl with | [_, _, _, _], _ => rfl
  have g__law_bad_part : mg "_law_bad_part" = some (.ref (He.ga K "_law_bad_part")) := He.glo_ok X0 G (c.fact 25 rfl)
  obtain ⟨fd__law_kind, F__law_kind, O__law_kind⟩ := ok__law_kind (P := P) (w := w) (base := base) X0 G c cx
  have b__law_kind : Binds K fd__law_kind ["well", "b", "many"] [] := F__law_kind.bindsN fun _ _ _ _ _ _ us hl => match us, hl with | [_, _, _], _ => rfl
  have g__law_kind : mg "_law_kind" = some (.ref (He.ga K "_law_kind")) := He.glo_ok X0 G (c.fact 22 rfl)
  have f_int : mg "int" = none := He.free_ok X0 G (c.fact 35 rfl)
  have f_len : mg "len" = none := He.free_ok X0 G (c.fact 37 rfl)
  have f_list : mg "list" = none := He.free_ok X0 G (c.fact 38 rfl)
  have f_tuple : mg "tuple" = none := He.free_ok X0 G (c.fact 44 rfl)
  obtain ⟨fd, F⟩ := c.def_ 26 (d := d__law_bad_book) rfl
  refine ⟨fd, F, fn_ok (k := 3) F sc__law_bad_book fun cdv A outer s H E hr B => ?_⟩
  have hp : PassesOwn (model P w) _ _ _ := passes_of (X := cxOf (L2N.CX P w) P w K mg base N__law_bad_book "_law_bad_book" (defScope s__law_bad_book) (He.ga K "_law_bad_book") cdv A outer s H E) (K := fun e s'' => L2N.CX P w outer H s E e s'') rfl
  have tk := L2N.takes_of (X := cxOf (L2N.CX P w) P w K mg base N__law_bad_book "_law_bad_book" (defScope s__law_bad_book) (He.ga K "_law_bad_book") cdv A outer s H E) (E := E) rfl rfl rfl rfl
  have nd := sc__law_bad_book.nd
  exact (qcons (qasg (ws := [2, 3]) (qvar (i := 1) rfl (.inl rfl)) (qgt rfl (qgscons (qgn (i := 2) nd rfl (.inl rfl) (by decide)) (qgscons (qgn (i := 3) nd rfl (.inr rfl) (by decide)) qgsnil)))) (qcons (qpar2 (i := 4) (j := 5) rfl nd rfl rfl (by decide) rfl rfl (qa_cons (qcall O__law_draw (hr.mono (by decide)) rfl g__law_draw F__law_draw.kp b__law_draw (fun σ => L2N.passAt tk σ) (qa_cons (qvar (i := 0) rfl (.inr (.inl rfl))) (qa_cons (qfnB call_len_seq does_len rfl f_len boot_len (qa_cons (qvar (i := 3) rfl (.inr (.inl rfl))) qa_nil)) qa_nil))) (qa_cons (qcall O__law_draw (hr.mono (by decide)) rfl g__law_draw F__law_draw.kp b__law_draw (fun σ => L2N.passAt tk σ) (qa_cons (qvar (i := 0) rfl (.inr (.inl rfl))) (qa_cons qint qa_nil))) qa_nil)) (by rfl)) (qcons (qset (i := 6) nd rfl (.inl rfl) (qix (qvar (i := 3) rfl (.inr (.inl rfl))) (qvar (i := 4) rfl (.inl rfl)))) (qcons (qset (i := 7) nd rfl (.inl rfl) (qcall O__law_draw (hr.mono (by decide)) rfl g__law_draw F__law_draw.kp b__law_draw (fun σ => L2N.passAt tk σ) (qa_cons (qvar (i := 0) rfl (.inr (.inl rfl))) (qa_cons (qfnB call_len_seq does_len rfl f_len boot_len (qa_cons (qvar (i := 6) rfl (.inl rfl)) qa_nil)) qa_nil)))) (qcons (qif (qtcmp (op_eqD hr.units) does_eq (qvar (i := 5) rfl (.inl rfl)) qint) (qcons (qset (i := 8) nd rfl (.inr rfl) (qix (qlst (qa_cons qint (qa_cons qint (qa_cons qint qa_nil)))) (qcall O__law_draw (hr.mono (by decide)) rfl g__law_draw F__law_draw.kp b__law_draw (fun σ => L2N.passAt tk σ) (qa_cons (qvar (i := 0) rfl (.inr (.inl rfl))) (qa_cons qint qa_nil))))) (qcons (qif (qtcmp (op_eqD hr.units) does_eq (qcall O__law_draw (hr.mono (by decide)) rfl g__law_draw F__law_draw.kp b__law_draw (fun σ => L2N.passAt tk σ) (qa_cons (qvar (i := 0) rfl (.inr (.inl rfl))) (qa_cons qint qa_nil))) qint) (qone (qret (qtup (qa_cons (qvar (i := 8) rfl (.inr (.inl rfl))) (qa_cons (qfnT call_tuple_of does_tuple rfl f_tuple boot_tuple (qa_cons (qcomp (vs := [13]) rfl nd (qiof (qvar (i := 3) rfl (.inr (.inl rfl)))) (blkOk_by (own := [("one", 13)]) (N := N__law_bad_book) (sc := defScope s__law_bad_book) (by decide +kernel)) (gok_n (by decide)) rfl (fun _ _ _ _ _ B => (qgn (i := 13) nd rfl (.inl rfl) (by decide))) (fun _ _ _ _ _ => qtsnil) (fun _ _ _ _ _ => (qcall O__law_kind (hr.mono (by decide)) rfl g__law_kind F__law_kind.kp b__law_kind (fun σ => L2N.passAt takesN0 σ) (qa_cons (qvar (i := 0) rfl (.inr (.inl rfl))) (qa_cons (qvar (i := 8) rfl (.inr (.inl rfl))) (qa_cons (qfnB call_len_seq does_len rfl f_len boot_len (qa_cons (qvar (i := 3) rfl (.inr (.inl rfl))) qa_nil)) qa_nil)))))) qa_nil)) qa_nil))))) qnil) (qcons (qset (i := 9) nd rfl (.inl rfl) (qlst (qa_cons qint (qa_cons qint (qa_cons qint (qa_cons (qneg qint) (qa_cons (qop op_sub does_sub qint (qvar (i := 2) rfl (.inl rfl))) (qa_cons qbl (qa_cons qnon (qa_cons qstr (qa_cons (qtup (qa_cons (qvar (i := 2) rfl (.inl rfl)) qa_nil)) (qa_cons (qlst (qa_cons (qvar (i := 2) rfl (.inl rfl)) qa_nil)) qa_nil)))))))))))) (qone (qret (qtup (qa_cons (qix (qvar (i := 9) rfl (.inl rfl)) (qcall O__law_draw (hr.mono (by decide)) rfl g__law_draw F__law_draw.kp b__law_draw (fun σ => L2N.passAt tk σ) (qa_cons (qvar (i := 0) rfl (.inr (.inl rfl))) (qa_cons qint qa_nil)))) (qa_cons (qvar (i := 3) rfl (.inr (.inl rfl))) qa_nil)))))))) qnil) (qcons (qif (qtcmp op_lt does_lt (qvar (i := 5) rfl (.inl rfl)) qint) (qcons (qset (i := 10) nd rfl (.inl rfl) (qcall O__law_bad_part (hr.mono (by decide)) rfl g__law_bad_part F__law_bad_part.kp b__law_bad_part (fun σ => L2N.passAt tk σ) (qa_cons (qvar (i := 0) rfl (.inr (.inl rfl))) (qa_cons (qvar (i := 2) rfl (.inl rfl)) (qa_cons (qfnB call_len_seq does_len rfl f_len boot_len (qa_cons (qvar (i := 3) rfl (.inr (.inl rfl))) qa_nil)) (qa_cons (qix (qvar (i := 6) rfl (.inl rfl)) (qvar (i := 7) rfl (.inl rfl))) qa_nil)))))) (qone (qret (qtup (qa_cons (qvar (i := 2) rfl (.inl rfl)) (qa_cons (qop op_add4 does_add (qop op_add4 does_add (qsl (qvar (i := 3) rfl (.inr (.inl rfl))) qpn (qps (qvar (i := 4) rfl (.inl rfl)))) (qtup (qa_cons (qop op_add4 does_add (qop op_add4 does_add (qsl (qvar (i := 6) rfl (.inl rfl)) qpn (qps (qvar (i := 7) rfl (.inl rfl)))) (qtup (qa_cons (qvar (i := 10) rfl (.inl rfl)) qa_nil))) (qsl (qvar (i := 6) rfl (.inl rfl)) (qps (qop op_add4 does_add (qvar (i := 7) rfl (.inl rfl)) qint)) qpn)) qa_nil))) (qsl (qvar (i := 3) rfl (.inr (.inl rfl))) (qps (qop op_add4 does_add (qvar (i := 4) rfl (.inl rfl)) qint)) qpn)) qa_nil)))))) qnil) (qcons (qif (qtcmp (op_eqD hr.units) does_eq (qvar (i := 5) rfl (.inl rfl)) qint) (qcons (qset (i := 8) nd rfl (.inr rfl) (qix (qvar (i := 6) rfl (.inl rfl)) (qop op_mod does_mod (qfnT call_int1 does_int rfl f_int boot_int (qa_cons (qop op_add4 does_add (qvar (i := 7) rfl (.inl rfl)) qint) qa_nil)) (qfnB call_len_seq does_len rfl f_len boot_len (qa_cons (qvar (i := 6) rfl (.inl rfl)) qa_nil))))) (qcons (qset (i := 11) nd rfl (.inl rfl) (qtup (qa_cons (qix (qvar (i := 8) rfl (.inr (.inl rfl))) qint) (qa_cons (qix (qvar (i := 8) rfl (.inr (.inl rfl))) qint) (qa_cons (qix (qix (qvar (i := 6) rfl (.inl rfl)) (qvar (i := 7) rfl (.inl rfl))) qint) qa_nil))))) (qone (qret (qtup (qa_cons (qvar (i := 2) rfl (.inl rfl)) (qa_cons (qop op_add4 does_add (qop op_add4 does_add (qsl (qvar (i := 3) rfl (.inr (.inl rfl))) qpn (qps (qvar (i := 4) rfl (.inl rfl)))) (qtup (qa_cons (qop op_add4 does_add (qop op_add4 does_add (qsl (qvar (i := 6) rfl (.inl rfl)) qpn (qps (qvar (i := 7) rfl (.inl rfl)))) (qtup (qa_cons (qvar (i := 11) rfl (.inl rfl)) qa_nil))) (qsl (qvar (i := 6) rfl (.inl rfl)) (qps (qop op_add4 does_add (qvar (i := 7) rfl (.inl rfl)) qint)) qpn)) qa_nil))) (qsl (qvar (i := 3) rfl (.inr (.inl rfl))) (qps (qop op_add4 does_add (qvar (i := 4) rfl (.inl rfl)) qint)) qpn)) qa_nil))))))) qnil) (qcons (qif (qtcmp (op_eqD hr.units) does_eq (qvar (i := 5) rfl (.inl rfl)) qint) (qcons (qset (i := 10) nd rfl (.inl rfl) (qix (qlst (qa_cons (qsl (qvar (i := 6) rfl (.inl rfl)) qpn (qps (qneg qint))) (qa_cons (qop op_add4 does_add (qvar (i := 6) rfl (.inl rfl)) (qsl (qvar (i := 6) rfl (.inl rfl)) (qps (qneg qint)) qpn)) (qa_cons (qfnT call_list_of does_list rfl f_list boot_list (qa_cons (qvar (i := 6) rfl (.inl rfl)) qa_nil)) (qa_cons qnon (qa_cons (qtup qa_nil) (qa_cons qint (qa_cons qstr (qa_cons (qix (qvar (i := 6) rfl (.inl rfl)) qint) qa_nil))))))))) (qcall O__law_draw (hr.mono (by decide)) rfl g__law_draw F__law_draw.kp b__law_draw (fun σ => L2N.passAt tk σ) (qa_cons (qvar (i := 0) rfl (.inr (.inl rfl))) (qa_cons qint qa_nil))))) (qone (qret (qtup (qa_cons (qvar (i := 2) rfl (.inl rfl)) (qa_cons (qop op_add4 does_add (qop op_add4 does_add (qsl (qvar (i := 3) rfl (.inr (.inl rfl))) qpn (qps (qvar (i := 4) rfl (.inl rfl)))) (qtup (qa_cons (qvar (i := 10) rfl (.inl rfl)) qa_nil))) (qsl (qvar (i := 3) rfl (.inr (.inl rfl))) (qps (qop op_add4 does_add (qvar (i := 4) rfl (.inl rfl)) qint)) qpn)) qa_nil)))))) qnil) (qcons (qset (i := 12) nd rfl (.inl rfl) (qlst (qa_cons (qtup (qa_cons (qvar (i := 2) rfl (.inl rfl)) (qa_cons (qtup qa_nil) qa_nil))) (qa_cons (qtup (qa_cons (qvar (i := 2) rfl (.inl rfl)) (qa_cons (qfnT call_list_of does_list rfl f_list boot_list (qa_cons (qvar (i := 3) rfl (.inr (.inl rfl))) qa_nil)) qa_nil))) (qa_cons (qlst (qa_cons (qvar (i := 2) rfl (.inl rfl)) (qa_cons (qvar (i := 3) rfl (.inr (.inl rfl))) qa_nil))) (qa_cons (qtup (qa_cons (qvar (i := 2) rfl (.inl rfl)) qa_nil)) (qa_cons (qtup (qa_cons (qvar (i := 2) rfl (.inl rfl)) (qa_cons (qvar (i := 3) rfl (.inr (.inl rfl))) (qa_cons qint qa_nil)))) (qa_cons (qtup (qa_cons (qvar (i := 3) rfl (.inr (.inl rfl))) (qa_cons (qvar (i := 2) rfl (.inl rfl)) qa_nil))) (qa_cons qnon (qa_cons qint (qa_cons qstr (qa_cons (qtup qa_nil) (qa_cons qbl qa_nil))))))))))))) (qone (qret (qix (qvar (i := 12) rfl (.inl rfl)) (qcall O__law_draw (hr.mono (by decide)) rfl g__law_draw F__law_draw.kp b__law_draw (fun σ => L2N.passAt tk σ) (qa_cons (qvar (i := 0) rfl (.inr (.inl rfl))) (qa_cons qint qa_nil)))))))))))))))
abbrev N__law_told : List Str := ["way", "book", "d", "named", "word", "found", "error"]
theorem sc__law_told : FnScope N__law_told ["way", "book", "d", "named"] (defScope s__law_told) := ⟨rfl, rfl, rfl, by decide +kernel, rfl, by decide +kernel, by decide +kernel⟩
theorem ok__law_told (X0 : K.In h) (G : h.Ns mainGlobals mg) (c : He.SaysD fa fn K) (cx : exB (["ThreadError", "InvalidBook", "InvalidDepth"] : List Str) K = true) : ∃ fd, FunD K "_law_told" "_law_told" (defArgs s__law_told) (defBody s__law_told) (defScope s__law_told) [] [] (He.ga K "_law_told") fd ∧ FnOk P w K mg base (L2N.CX P w) 10 (He.ga K "_law_told") fd ["way", "book", "d", "named"] (spF K 4 m__law_told) := by
  obtain ⟨fd_drawn, F_drawn, O_drawn⟩ := ok_drawn (P := P) (w := w) (base := base) X0 G c cx
  have b_drawn : Binds K fd_drawn ["book", "d"] [] := F_drawn.bindsN fun _ _ _ _ _ _ us hl => match us, hl with | [_, _], _ => rfl
  have g_drawn : mg "drawn" = some (.ref (He.ga K "drawn")) := He.glo_ok X0 G (c.fact 15 rfl)
  obtain ⟨fd_numbers_drawn, F_numbers_drawn, O_numbers_drawn⟩ := ok_numbers_drawn (P := P) (w := w) (base := base) X0 G c cx
  have b_numbers_drawn : Binds K fd_numbers_drawn ["book", "d"] [] := F_numbers_drawn.bindsN fun _ _ _ _ _ _ us hl => match us, hl with | [_, _], _ => rfl
  have g_numbers_drawn : mg "numbers_drawn" = some (.ref (He.ga K "numbers_drawn")) := He.glo_ok X0 G (c.fact 17 rfl)
  have Ex : ExcOk K mg (["ThreadError", "InvalidBook", "InvalidDepth"] : List Str) := exB_ok X0 G cx
  have f_len : mg "len" = none := He.free_ok X0 G (c.fact 37 rfl)
  obtain ⟨fd, F⟩ := c.def_ 27 (d := d__law_told) rfl
  refine ⟨fd, F, fn_ok (k := 9) F sc__law_told fun cdv A outer s H E hr B => ?_⟩
  have hp : PassesOwn (model P w) _ _ _ := passes_of (X := cxOf (L2N.CX P w) P w K mg base N__law_told "_law_told" (defScope s__law_told) (He.ga K "_law_told") cdv A outer s H E) (K := fun e s'' => L2N.CX P w outer H s E e s'') rfl
  have tk := L2N.takes_of (X := cxOf (L2N.CX P w) P w K mg base N__law_told "_law_told" (defScope s__law_told) (He.ga K "_law_told") cdv A outer s H E) (E := E) rfl rfl rfl rfl
  have nd := sc__law_told.nd
  exact (qcons (qparT (is := [4, 5]) (gs := gsNames [4, 5]) rfl (qa_cons qstr (qa_cons qnon qa_nil)) (pgs_cons (pg_name (i := 4) nd rfl (.inl rfl)) (pgs_cons (pg_name (i := 5) nd rfl (.inl rfl)) pgs_nil)) (gsNames_ok [4, 5]) (by decide)) (qcons (qtry (cs := (["ThreadError", "InvalidBook", "InvalidDepth"] : List Str)) rfl rfl nd tk Ex (fun W2 pn xe tk hp => (qone (qif (qtcmp (op_eqD hr.units) does_eq (qvar (i := 0) rfl (.inl rfl)) qint) (qone (qset (i := 5) nd rfl (.inl rfl) (qfnB call_len_seq does_len rfl f_len boot_len (qa_cons (qifx (qtval (qvar (i := 3) rfl (.inl rfl))) (qcallk (ks := ["d", "book"]) (perm := [1, 0]) O_drawn (hr.mono (by decide)) rfl g_drawn F_drawn.kp (kwBinds_of (ks := ["d", "book"]) F_drawn fun _ _ _ _ _ _ ws hl => match ws, hl with | [_, _], _ => rfl) (fun σ => L2N.passAt tk σ) (qk_cons (qvar (i := 2) rfl (.inl rfl)) (qk_cons (qvar (i := 1) rfl (.inl rfl)) qk_nil))) (qcall O_drawn (hr.mono (by decide)) rfl g_drawn F_drawn.kp b_drawn (fun σ => L2N.passAt tk σ) (qa_cons (qvar (i := 1) rfl (.inl rfl)) (qa_cons (qvar (i := 2) rfl (.inl rfl)) qa_nil)))) qa_nil)))) (qone (qset (i := 5) nd rfl (.inl rfl) (qfnB call_len_seq does_len rfl f_len boot_len (qa_cons (qifx (qtval (qvar (i := 3) rfl (.inl rfl))) (qcallk (ks := ["d", "book"]) (perm := [1, 0]) O_numbers_drawn (hr.mono (by decide)) rfl g_numbers_drawn F_numbers_drawn.kp (kwBinds_of (ks := ["d", "book"]) F_numbers_drawn fun _ _ _ _ _ _ ws hl => match ws, hl with | [_, _], _ => rfl) (fun σ => L2N.passAt tk σ) (qk_cons (qvar (i := 2) rfl (.inl rfl)) (qk_cons (qvar (i := 1) rfl (.inl rfl)) qk_nil))) (qcall O_numbers_drawn (hr.mono (by decide)) rfl g_numbers_drawn F_numbers_drawn.kp b_numbers_drawn (fun σ => L2N.passAt tk σ) (qa_cons (qvar (i := 1) rfl (.inl rfl)) (qa_cons (qvar (i := 2) rfl (.inl rfl)) qa_nil)))) qa_nil))))))) (.named (i := 6) (by decide +kernel) rfl rfl rfl (su_par (i := 4) (j := 5) (k := 6) Ex nd rfl rfl rfl (by decide) rfl rfl rfl (by rfl)) (.named (i := 6) (by decide +kernel) rfl rfl rfl (su_par (i := 4) (j := 5) (k := 6) Ex nd rfl rfl rfl (by decide) rfl rfl rfl (by rfl)) (.plain (by decide +kernel) rfl (su_plain fun a pn => (qone (qset (i := 4) nd rfl (.inl rfl) qstr))) .nil)))) (qone (qret (qtup (qa_cons (qvar (i := 4) rfl (.inl rfl)) (qa_cons (qvar (i := 5) rfl (.inl rfl)) qa_nil)))))))
abbrev N__law_alike : List Str := ["thing", "due", "one", "other"]
theorem sc__law_alike : FnScope N__law_alike ["thing", "due"] (defScope s__law_alike) := ⟨rfl, rfl, rfl, by decide +kernel, rfl, by decide +kernel, by decide +kernel⟩
theorem ok__law_alike (X0 : K.In h) (G : h.Ns mainGlobals mg) (c : He.SaysD fa fn K) (cx : exB (["ThreadError", "InvalidBook", "InvalidDepth"] : List Str) K = true) : ∀ fuel : Nat, ∃ fd, FunD K "_law_alike" "_law_alike" (defArgs s__law_alike) (defBody s__law_alike) (defScope s__law_alike) [] [] (He.ga K "_law_alike") fd ∧ FnOk P w K mg base (L2N.CX P w) (1 + fuel) (He.ga K "_law_alike") fd ["thing", "due"] (spF K 2 (m__law_alike fuel)) := by
  have f_all : mg "all" = none := He.free_ok X0 G (c.fact 32 rfl)
  have f_bool : mg "bool" = none := He.free_ok X0 G (c.fact 33 rfl)
  have f_isinstance : mg "isinstance" = none := He.free_ok X0 G (c.fact 36 rfl)
  have f_len : mg "len" = none := He.free_ok X0 G (c.fact 37 rfl)
  have f_list : mg "list" = none := He.free_ok X0 G (c.fact 38 rfl)
  have f_tuple : mg "tuple" = none := He.free_ok X0 G (c.fact 44 rfl)
  have f_zip : mg "zip" = none := He.free_ok X0 G (c.fact 45 rfl)
  have g__law_alike : mg "_law_alike" = some (.ref (He.ga K "_law_alike")) := He.glo_ok X0 G (c.fact 28 rfl)
  obtain ⟨fd, F__law_alike⟩ := c.def_ 28 (d := d__law_alike) rfl
  have F__law_alike : FunD K "_law_alike" "_law_alike" (defArgs s__law_alike) (defBody s__law_alike) (defScope s__law_alike) [] [] (He.ga K "_law_alike") fd := F__law_alike
  have b__law_alike : Binds K fd ["thing", "due"] [] := F__law_alike.bindsN fun _ _ _ _ _ _ us hl => match us, hl with | [_, _], _ => rfl
  intro fuel
  refine ⟨fd, F__law_alike, ?_⟩
  induction fuel with
  | zero =>
    refine (fn_ok (k := 0) (b := sNever) F__law_alike sc__law_alike fun cdv A outer s H E hr B => qnevers).imp fun vs H Q E z => ⟨z.1, ?_⟩
    obtain ⟨e, F, R, z⟩ := z.2
    exact z.elim
  | succ fuel ih =>
    have O__law_alike := ih
    refine fn_ok (k := 1 + fuel) F__law_alike sc__law_alike fun cdv A outer s H E hr B => ?_
    have hp : PassesOwn (model P w) _ _ _ := passes_of (X := cxOf (L2N.CX P w) P w K mg base N__law_alike "_law_alike" (defScope s__law_alike) (He.ga K "_law_alike") cdv A outer s H E) (K := fun e s'' => L2N.CX P w outer H s E e s'') rfl
    have tk := L2N.takes_of (X := cxOf (L2N.CX P w) P w K mg base N__law_alike "_law_alike" (defScope s__law_alike) (He.ga K "_law_alike") cdv A outer s H E) (E := E) rfl rfl rfl rfl
    have nd := sc__law_alike.nd
    exact (qcons (qif (qtval (qisi2 k_tl rfl f_isinstance rfl f_tuple boot_tuple rfl f_list boot_list (qvar (i := 1) rfl (.inl rfl)))) (qcons (qif (QW.t (qw_or (qtcmp (op_neD hr.units) does_ne (qisi k_tuple rfl f_isinstance rfl f_tuple boot_tuple (qvar (i := 1) rfl (.inl rfl))) (qisi k_tuple rfl f_isinstance rfl f_tuple boot_tuple (qvar (i := 0) rfl (.inl rfl)))) (qw_or1 (qtcmp (op_neD hr.units) does_ne (qisi k_list rfl f_isinstance rfl f_list boot_list (qvar (i := 1) rfl (.inl rfl))) (qisi k_list rfl f_isinstance rfl f_list boot_list (qvar (i := 0) rfl (.inl rfl))))))) (qone (qret qbl)) qnil) (qone (qret (qand (qcmp (op_eqD hr.units) does_eq (qfnB call_len_seq does_len rfl f_len boot_len (qa_cons (qvar (i := 0) rfl (.inl rfl)) qa_nil)) (qfnB call_len_seq does_len rfl f_len boot_len (qa_cons (qvar (i := 1) rfl (.inl rfl)) qa_nil))) (qone_ (qfnB (cr_all rfl) does_all rfl f_all boot_all (qa_cons (qcompG (vs := [2, 3]) rfl nd (qizipV (i := 0) (j := 1) (by rfl) f_zip rfl (.inl rfl) rfl (.inl rfl)) (blkOk_by (own := [("one", 2), ("other", 3)]) (N := N__law_alike) (sc := defScope s__law_alike) (by decide +kernel)) (gok_t (gsok_cons (gok_n (by decide)) (gsok_cons (gok_n (by decide)) gsok_nil))) rfl (fun _ _ _ _ _ B => (qgt rfl (qgscons (qgn (i := 2) nd rfl (.inl rfl) (by decide)) (qgscons (qgn (i := 3) nd rfl (.inl rfl) (by decide)) qgsnil)))) (fun _ _ _ _ _ => qtsnil) (fun _ _ _ _ _ => (qcall O__law_alike (hr.mono (by omega)) rfl g__law_alike F__law_alike.kp b__law_alike (fun σ => L2N.passAt takesN0 σ) (qa_cons (qvar (i := 2) rfl (.inl rfl)) (qa_cons (qvar (i := 3) rfl (.inl rfl)) qa_nil))))) qa_nil))))))) qnil) (qone (qret (qand (qcmp (op_eqD hr.units) does_eq (qisi k_bool rfl f_isinstance rfl f_bool boot_bool (qvar (i := 0) rfl (.inl rfl))) (qisi k_bool rfl f_isinstance rfl f_bool boot_bool (qvar (i := 1) rfl (.inl rfl)))) (qone_ (qcmp (op_eqD hr.units) does_eq (qvar (i := 0) rfl (.inl rfl)) (qvar (i := 1) rfl (.inl rfl))))))))
abbrev N_law : List Str := ["script", "good", "place", "well", "way", "named", "wrong", "book", "d", "due", "told"]
theorem sc_law : FnScope N_law ["script"] (defScope s_law) := ⟨rfl, rfl, rfl, by decide +kernel, rfl, by decide +kernel, by decide +kernel⟩
theorem ok_law (X0 : K.In h) (G : h.Ns mainGlobals mg) (c : He.SaysD fa fn K) (cx : exB (["ThreadError", "InvalidBook", "InvalidDepth"] : List Str) K = true) : ∃ fd, FunD K "law" "law" (defArgs s_law) (defBody s_law) (defScope s_law) [] [] (He.ga K "law") fd ∧ FnOk P w K mg base (L2N.CX P w) 11 (He.ga K "law") fd ["script"] (spF K 1 m_law) := by
  obtain ⟨fd__law_well, F__law_well, O__law_well⟩ := ok__law_well (P := P) (w := w) (base := base) X0 G c cx
  have b__law_well : Binds K fd__law_well ["script", "place"] [] := F__law_well.bindsN fun _ _ _ _ _ _ us hl => match us, hl with | [_, _], _ => rfl
  have g__law_well : mg "_law_well" = some (.ref (He.ga K "_law_well")) := He.glo_ok X0 G (c.fact 18 rfl)
  obtain ⟨fd__law_told, F__law_told, O__law_told⟩ := ok__law_told (P := P) (w := w) (base := base) X0 G c cx
  have b__law_told : Binds K fd__law_told ["way", "book", "d", "named"] [] := F__law_told.bindsN fun _ _ _ _ _ _ us hl => match us, hl with | [_, _, _, _], _ => rfl
  have g__law_told : mg "_law_told" = some (.ref (He.ga K "_law_told")) := He.glo_ok X0 G (c.fact 27 rfl)
  obtain ⟨fd__law_draw, F__law_draw, O__law_draw⟩ := ok__law_draw (P := P) (w := w) (base := base) X0 G c cx
  have b__law_draw : Binds K fd__law_draw ["well", "many"] [] := F__law_draw.bindsN fun _ _ _ _ _ _ us hl => match us, hl with | [_, _], _ => rfl
  have g__law_draw : mg "_law_draw" = some (.ref (He.ga K "_law_draw")) := He.glo_ok X0 G (c.fact 19 rfl)
  obtain ⟨fd__law_book, F__law_book, O__law_book⟩ := ok__law_book (P := P) (w := w) (base := base) X0 G c cx
  have b__law_book : Binds K fd__law_book ["well", "most"] [] := F__law_book.bindsN fun _ _ _ _ _ _ us hl => match us, hl with | [_, _], _ => rfl
  have g__law_book : mg "_law_book" = some (.ref (He.ga K "_law_book")) := He.glo_ok X0 G (c.fact 23 rfl)
  obtain ⟨fd__law_bad_book, F__law_bad_book, O__law_bad_book⟩ := ok__law_bad_book (P := P) (w := w) (base := base) X0 G c cx
  have b__law_bad_book : Binds K fd__law_bad_book ["well", "book"] [] := F__law_bad_book.bindsN fun _ _ _ _ _ _ us hl => match us, hl with | [_, _], _ => rfl
  have g__law_bad_book : mg "_law_bad_book" = some (.ref (He.ga K "_law_bad_book")) := He.glo_ok X0 G (c.fact 26 rfl)
  obtain ⟨fd__law_same, F__law_same, O__law_same⟩ := ok__law_same (P := P) (w := w) (base := base) X0 G c cx 8
  have b__law_same : Binds K fd__law_same ["told", "due"] [] := F__law_same.bindsN fun _ _ _ _ _ _ us hl => match us, hl with | [_, _], _ => rfl
  have g__law_same : mg "_law_same" = some (.ref (He.ga K "_law_same")) := He.glo_ok X0 G (c.fact 20 rfl)
  obtain ⟨fd__law_alike, F__law_alike, O__law_alike⟩ := ok__law_alike (P := P) (w := w) (base := base) X0 G c cx 8
  have b__law_alike : Binds K fd__law_alike ["thing", "due"] [] := F__law_alike.bindsN fun _ _ _ _ _ _ us hl => match us, hl with | [_, _], _ => rfl
  have g__law_alike : mg "_law_alike" = some (.ref (He.ga K "_law_alike")) := He.glo_ok X0 G (c.fact 28 rfl)
  obtain ⟨fd__law_power, F__law_power, O__law_power⟩ := ok__law_power (P := P) (w := w) (base := base) X0 G c cx
  have b__law_power : Binds K fd__law_power ["b", "d"] [] := F__law_power.bindsN fun _ _ _ _ _ _ us hl => match us, hl with | [_, _], _ => rfl
  have g__law_power : mg "_law_power" = some (.ref (He.ga K "_law_power")) := He.glo_ok X0 G (c.fact 24 rfl)
  have f_len : mg "len" = none := He.free_ok X0 G (c.fact 37 rfl)
  have f_max : mg "max" = none := He.free_ok X0 G (c.fact 39 rfl)
  have f_min : mg "min" = none := He.free_ok X0 G (c.fact 40 rfl)
  have f_range : mg "range" = none := He.free_ok X0 G (c.fact 41 rfl)
  obtain ⟨fd, F⟩ := c.def_ 29 (d := d_law) rfl
  refine ⟨fd, F, fn_ok (k := 10) F sc_law fun cdv A outer s H E hr B => ?_⟩
  have hp : PassesOwn (model P w) _ _ _ := passes_of (X := cxOf (L2N.CX P w) P w K mg base N_law "law" (defScope s_law) (He.ga K "law") cdv A outer s H E) (K := fun e s'' => L2N.CX P w outer H s E e s'') rfl
  have tk := L2N.takes_of (X := cxOf (L2N.CX P w) P w K mg base N_law "law" (defScope s_law) (He.ga K "law") cdv A outer s H E) (E := E) rfl rfl rfl rfl
  have nd := sc_law.nd
  exact (qcons (qset (i := 1) nd rfl (.inl rfl) (qlst qa_nil)) (qcons (qfor (ws := [2]) hp rfl (qir1 rfl f_range (qa_cons (qfnB (call_max2 rfl) does_max2 rfl f_max boot_max (qa_cons qint (qa_cons (qfnB (call_min2 rfl) does_min2 rfl f_min boot_min (qa_cons qint (qa_cons (qfnB call_len_seq does_len rfl f_len boot_len (qa_cons (qvar (i := 0) rfl (.inl rfl)) qa_nil)) qa_nil))) qa_nil))) qa_nil)) (fun B => (qgn (i := 2) nd rfl (.inl rfl) (by decide))) (fun B => (qcons (qset (i := 3) nd rfl (.inl rfl) (qcall O__law_well (hr.mono (by decide)) rfl g__law_well F__law_well.kp b__law_well (fun σ => L2N.passAt tk σ) (qa_cons (qvar (i := 0) rfl (.inl rfl)) (qa_cons (qvar (i := 2) rfl (.inl rfl)) qa_nil)))) (qcons (qpar3 (i := 4) (j := 5) (l := 6) rfl nd rfl rfl rfl (by decide) (by decide) (by decide) rfl rfl rfl (qa_cons (qcall O__law_draw (hr.mono (by decide)) rfl g__law_draw F__law_draw.kp b__law_draw (fun σ => L2N.passAt tk σ) (qa_cons (qvar (i := 3) rfl (.inl rfl)) (qa_cons qint qa_nil))) (qa_cons (qcmp (op_eqD hr.units) does_eq (qcall O__law_draw (hr.mono (by decide)) rfl g__law_draw F__law_draw.kp b__law_draw (fun σ => L2N.passAt tk σ) (qa_cons (qvar (i := 3) rfl (.inl rfl)) (qa_cons qint qa_nil))) qint) (qa_cons (qcall O__law_draw (hr.mono (by decide)) rfl g__law_draw F__law_draw.kp b__law_draw (fun σ => L2N.passAt tk σ) (qa_cons (qvar (i := 3) rfl (.inl rfl)) (qa_cons qint qa_nil))) qa_nil))) (by rfl)) (qcons (qpar2 (i := 7) (j := 8) rfl nd rfl rfl (by decide) rfl rfl (qa_cons (qcall O__law_book (hr.mono (by decide)) rfl g__law_book F__law_book.kp b__law_book (fun σ => L2N.passAt tk σ) (qa_cons (qvar (i := 3) rfl (.inl rfl)) (qa_cons (qix (qlst (qa_cons qint (qa_cons qint (qa_cons qint (qa_cons qint qa_nil))))) (qcall O__law_draw (hr.mono (by decide)) rfl g__law_draw F__law_draw.kp b__law_draw (fun σ => L2N.passAt tk σ) (qa_cons (qvar (i := 3) rfl (.inl rfl)) (qa_cons qint qa_nil)))) qa_nil))) (qa_cons (qcall O__law_draw (hr.mono (by decide)) rfl g__law_draw F__law_draw.kp b__law_draw (fun σ => L2N.passAt tk σ) (qa_cons (qvar (i := 3) rfl (.inl rfl)) (qa_cons qint qa_nil))) qa_nil)) (by rfl)) (qcons (qset (i := 9) nd rfl (.inl rfl) (qtup (qa_cons qstr (qa_cons (qix (qlst (qa_cons (qop op_sub does_sub (qop op_mulW does_mul qint (qcall O__law_power (hr.mono (by decide)) rfl g__law_power F__law_power.kp b__law_power (fun σ => L2N.passAt tk σ) (qa_cons (qix (qvar (i := 7) rfl (.inl rfl)) qint) (qa_cons (qvar (i := 8) rfl (.inl rfl)) qa_nil)))) qint) (qa_cons (qcall O__law_power (hr.mono (by decide)) rfl g__law_power F__law_power.kp b__law_power (fun σ => L2N.passAt tk σ) (qa_cons (qix (qvar (i := 7) rfl (.inl rfl)) qint) (qa_cons (qvar (i := 8) rfl (.inl rfl)) qa_nil))) qa_nil))) (qvar (i := 4) rfl (.inl rfl))) qa_nil)))) (qcons (qif (qtcmp (op_in2 (room65 hr)) does_in (qvar (i := 6) rfl (.inl rfl)) (qtup (qa_cons qint (qa_cons qint qa_nil)))) (qcons (qset (i := 8) nd rfl (.inl rfl) (qix (qlst (qa_cons (qneg qint) (qa_cons (qneg qint) (qa_cons (qop op_sub does_sub qint (qop op_pow does_pow qint qint)) (qa_cons qnon (qa_cons qbl (qa_cons qbl (qa_cons qstr (qa_cons (qtup (qa_cons qint qa_nil)) (qa_cons (qlst (qa_cons qint qa_nil)) (qa_cons (qtup (qa_cons qint (qa_cons qint qa_nil))) qa_nil))))))))))) (qcall O__law_draw (hr.mono (by decide)) rfl g__law_draw F__law_draw.kp b__law_draw (fun σ => L2N.passAt tk σ) (qa_cons (qvar (i := 3) rfl (.inl rfl)) (qa_cons qint qa_nil))))) (qone (qset (i := 9) nd rfl (.inl rfl) (qtup (qa_cons qstr (qa_cons (qvar (i := 8) rfl (.inl rfl)) qa_nil)))))) qnil) (qcons (qif (qtcmp (op_in2 (room65 hr)) does_in (qvar (i := 6) rfl (.inl rfl)) (qtup (qa_cons qint (qa_cons qint (qa_cons qint qa_nil))))) (qcons (qset (i := 7) nd rfl (.inl rfl) (qcall O__law_bad_book (hr.mono (by decide)) rfl g__law_bad_book F__law_bad_book.kp b__law_bad_book (fun σ => L2N.passAt tk σ) (qa_cons (qvar (i := 3) rfl (.inl rfl)) (qa_cons (qvar (i := 7) rfl (.inl rfl)) qa_nil)))) (qone (qset (i := 9) nd rfl (.inl rfl) (qtup (qa_cons qstr (qa_cons (qvar (i := 7) rfl (.inl rfl)) qa_nil)))))) qnil) (qcons (qset (i := 10) nd rfl (.inl rfl) (qcall O__law_told (hr.mono (by decide)) rfl g__law_told F__law_told.kp b__law_told (fun σ => L2N.passAt tk σ) (qa_cons (qvar (i := 4) rfl (.inl rfl)) (qa_cons (qvar (i := 7) rfl (.inl rfl)) (qa_cons (qvar (i := 8) rfl (.inl rfl)) (qa_cons (qvar (i := 5) rfl (.inl rfl)) qa_nil)))))) (qcons (qif (QW.t (qw_or (qtcmp (op_neD hr.units) does_ne (qix (qvar (i := 10) rfl (.inl rfl)) qint) (qix (qvar (i := 9) rfl (.inl rfl)) qint)) (qw_or1 (qtnot (qtval (qcall O__law_alike (hr.mono (by decide)) rfl g__law_alike F__law_alike.kp b__law_alike (fun σ => L2N.passAt tk σ) (qa_cons (qix (qvar (i := 10) rfl (.inl rfl)) qint) (qa_cons (qix (qvar (i := 9) rfl (.inl rfl)) qint) qa_nil)))))))) (qone (qret qbl)) qnil) (qone (qif (qtcmp (op_eqD hr.units) does_eq (qix (qvar (i := 9) rfl (.inl rfl)) qint) qstr) (qone (qexpr (qmeth (i := 1) PySem.F.slot_list_append PySem.F.type_list_append mt_append does_append rfl (.inl rfl) (qa_cons (qtup (qa_cons (qvar (i := 4) rfl (.inl rfl)) (qa_cons (qvar (i := 7) rfl (.inl rfl)) (qa_cons (qvar (i := 8) rfl (.inl rfl)) (qa_cons (qvar (i := 9) rfl (.inl rfl)) qa_nil))))) qa_nil)))) qnil)))))))))))) (qcons (qfor (ws := [4, 7, 8, 9]) hp rfl (qiof (qsl (qvar (i := 1) rfl (.inl rfl)) qpn (qps qint))) (fun B => (qgt rfl (qgscons (qgn (i := 4) nd rfl (.inl rfl) (by decide)) (qgscons (qgn (i := 7) nd rfl (.inl rfl) (by decide)) (qgscons (qgn (i := 8) nd rfl (.inl rfl) (by decide)) (qgscons (qgn (i := 9) nd rfl (.inl rfl) (by decide)) qgsnil)))))) (fun B => (qone (qif (qtnot (qtval (qcall O__law_same (hr.mono (by decide)) rfl g__law_same F__law_same.kp b__law_same (fun σ => L2N.passAt tk σ) (qa_cons (qcall O__law_told (hr.mono (by decide)) rfl g__law_told F__law_told.kp b__law_told (fun σ => L2N.passAt tk σ) (qa_cons (qvar (i := 4) rfl (.inl rfl)) (qa_cons (qvar (i := 7) rfl (.inl rfl)) (qa_cons (qvar (i := 8) rfl (.inl rfl)) (qa_cons qbl qa_nil))))) (qa_cons (qvar (i := 9) rfl (.inl rfl)) qa_nil))))) (qone (qret qbl)) qnil)))) (qone (qret qbl)))))
end
end Lw
set_option linter.all false
set_option maxRecDepth 100000
namespace Pu
open PySem PySem.Spec Ev
inductive F2 {α β : Type} (P : α → β → Prop) : List α → List β → Prop
  | nil : F2 P [] []
  | cons {a b as bs} : P a b → F2 P as bs → F2 P (a :: as) (b :: bs)
theorem F2.len {α β : Type} {P : α → β → Prop} : ∀ {as : List α} {bs : List β}, F2 P as bs → as.length = bs.length
  | _, _, .nil => rfl
  | _, _, .cons _ h => by rw [List.length_cons, List.length_cons, h.len]
theorem F2.get {α β : Type} {P : α → β → Prop} : ∀ {as : List α} {bs : List β} {i : Nat} {a : α} {b : β}, F2 P as bs → as[i]? = some a → bs[i]? = some b → P a b
  | _, _, i, a, b, .nil, h, _ => by simp at h
  | _, _, 0, a, b, .cons p _, h, h' => by simp at h h'; rw [← h, ← h']; exact p
  | _, _, i + 1, a, b, .cons _ q, h, h' => q.get (by simpa using h) (by simpa using h')
theorem F2.right {α β : Type} {P : α → β → Prop} : ∀ {as : List α} {bs : List β}, F2 P as bs → ∀ b ∈ bs, ∃ a ∈ as, P a b
  | _, _, .nil, b, h => by simp at h
  | _, _, .cons p q, b, h => by
    rcases List.mem_cons.mp h with rfl | h
    · exact ⟨_, List.mem_cons_self, p⟩
    · obtain ⟨a, m, z⟩ := q.right b h; exact ⟨a, List.mem_cons_of_mem _ m, z⟩
/-! ### pure: what loops and comprehensions do -/
/-- a loop over what things of a type look like; what is done so far -/
theorem for_on {α : Type} {g : SemG} {b : SemS} (inn : α → T) (I : List α → En → Prop) (n : Nat) : ∀ (xs don : List α) (e : En), I don e → don.length + xs.length ≤ n →
    (∀ x ∈ xs, ∀ (don : List α) (e : En), don.length < n → I don e → ∃ e1, g (inn x) e = some e1 ∧ ∃ e2, (b e1 = .ok .nx e2 ∨ b e1 = .ok .ct e2) ∧ I (don ++ [x]) e2) →
    ∃ e', forS g b (xs.map inn) e = .ok .nx e' ∧ I (don ++ xs) e'
  | [], don, e, h, _, _ => ⟨e, rfl, by rw [List.append_nil]; exact h⟩
  | x :: xs, don, e, h, hl, s => by
    rw [List.length_cons] at hl
    obtain ⟨e1, h1, e2, h2, h3⟩ := s x List.mem_cons_self don e (by omega) h
    obtain ⟨e', h4, h5⟩ := for_on (g := g) (b := b) inn I n xs (don ++ [x]) e2 h3 (by rw [List.length_append, List.length_singleton]; omega) fun x hx => s x (List.mem_cons_of_mem _ hx)
    refine ⟨e', ?_, by rw [List.append_assoc] at h5; exact h5⟩
    rw [List.map_cons, forS, h1]
    rcases h2 with h2 | h2 <;> (simp only [h2]; exact h4)
/-- a comprehension: each element is wanted -/
theorem comp_inv {g : SemG} {c : SemT} {m : SemE} {vs : List Nat} (I : En → Prop) (P : T → T → Prop) : ∀ (ts acc : List T) (e : En), I e → acc.length + ts.length ≤ sizeLine →
    (∀ t ∈ ts, ∀ e, I e → ∃ e1, g t (wipeE e vs) = some e1 ∧ ∃ e2, c e1 = .ok true e2 ∧ ∃ r e3, m e2 = .ok r e3 ∧ ∃ u e4, esc r e3 = some (u, e4) ∧ P t u ∧ I (restE e e4 vs)) →
    ∃ us e', compS g c m vs ts acc e = .ok (.b (.l (acc ++ us))) e' ∧ I e' ∧ F2 P ts us
  | [], acc, e, h, _, _ => ⟨[], e, by rw [compS, List.append_nil], h, .nil⟩
  | t :: ts, acc, e, h, hl, s => by
    obtain ⟨e1, h1, e2, h2, r, e3, h3, u, e4, h4, p, i⟩ := s t List.mem_cons_self e h
    rw [List.length_cons] at hl
    obtain ⟨us, e', h5, h6, h7⟩ := comp_inv (g := g) (c := c) (m := m) (vs := vs) I P ts (acc ++ [u]) (restE e e4 vs) i (by rw [List.length_append, List.length_singleton]; omega) fun t ht => s t (List.mem_cons_of_mem _ ht)
    refine ⟨u :: us, e', ?_, h6, .cons p h7⟩
    rw [compS, h1]
    simp only [h2, h3, h4, Out.nx, Out.bind]
    rw [if_pos trivial, if_pos (by omega), h5, List.append_assoc]
    rfl
/-- a comprehension of a function -/
theorem comp_map {g : SemG} {c : SemT} {m : SemE} {vs : List Nat} (f : T → T) (ts acc : List T) (e : En) (hl : acc.length + ts.length ≤ sizeLine)
    (s : ∀ t ∈ ts, ∃ e1, g t (wipeE e vs) = some e1 ∧ ∃ e2, c e1 = .ok true e2 ∧ ∃ r e3, m e2 = .ok r e3 ∧ ∃ e4, esc r e3 = some (f t, e4) ∧ restE e e4 vs = e) :
    compS g c m vs ts acc e = .ok (.b (.l (acc ++ ts.map f))) e := by
  obtain ⟨us, e', h1, rfl, h3⟩ := comp_inv (g := g) (c := c) (m := m) (vs := vs) (fun x => x = e) (fun t u => u = f t) ts acc e rfl hl fun t ht e' h => by
    subst h
    obtain ⟨e1, h1, e2, h2, r, e3, h3, e4, h4, h5⟩ := s t ht
    exact ⟨e1, h1, e2, h2, r, e3, h3, _, e4, h4, rfl, h5⟩
  have : us = ts.map f := by
    clear h1 s hl
    induction h3 with
    | nil => rfl
    | cons h _ ih => rw [h, ih]; rfl
  rw [h1, this]
/-! ### ranges -/
theorem iR1_nat {m : SemA} {e e1 : En} {rs : List Od} {n : Nat} (h : m e = .ok rs e1) (hv : vals e1 rs = some [.int (n : Int)]) (hn : n < 16777216) : iR1 m e = .ok ((List.range n).map fun (k : Nat) => .int (0 + (k : Int))) e1 := by
  have a : -(2 ^ 62) ≤ (n : Int) := by omega
  have b : (n : Int) < 2 ^ 62 := by omega
  unfold iR1
  rw [h]
  simp only [Out.bind, hv]
  rw [if_pos ⟨a, b⟩]
  rfl
theorem sFor_eq {mi : SemI} {g : SemG} {b : SemS} {e e1 : En} {ts : List T} (h : mi e = .ok ts e1) : sFor mi g b e = forS g b ts e1 := by
  unfold sFor
  rw [h]
  rfl
/-! ### numerals -/
theorem c0 : ((0 : Nat) : Int) = 0 := rfl
theorem c1 : ((1 : Nat) : Int) = 1 := rfl
theorem c2 : ((2 : Nat) : Int) = 2 := rfl
theorem c3 : ((3 : Nat) : Int) = 3 := rfl
theorem c4 : ((4 : Nat) : Int) = 4 := rfl
theorem c5 : ((5 : Nat) : Int) = 5 := rfl
theorem c6 : ((6 : Nat) : Int) = 6 := rfl
theorem c7 : ((7 : Nat) : Int) = 7 := rfl
theorem c8 : ((8 : Nat) : Int) = 8 := rfl
theorem c9 : ((9 : Nat) : Int) = 9 := rfl
theorem s1 : (1 ≤ sizeLine) = True := eq_true (by unfold sizeLine; omega)
theorem s2 : (2 ≤ sizeLine) = True := eq_true (by unfold sizeLine; omega)
theorem s3 : (3 ≤ sizeLine) = True := eq_true (by unfold sizeLine; omega)
theorem s4 : (4 ≤ sizeLine) = True := eq_true (by unfold sizeLine; omega)
theorem s5 : (5 ≤ sizeLine) = True := eq_true (by unfold sizeLine; omega)
theorem s6 : (6 ≤ sizeLine) = True := eq_true (by unfold sizeLine; omega)
theorem s7 : (7 ≤ sizeLine) = True := eq_true (by unfold sizeLine; omega)
theorem s8 : (8 ≤ sizeLine) = True := eq_true (by unfold sizeLine; omega)
theorem s9 : (9 ≤ sizeLine) = True := eq_true (by unfold sizeLine; omega)
/-! ### equality -/
theorem gEq_int (k : Bool → Bool) (i j : Int) : gEq k (.int i) (.int j) = some (.r (.bool (k (decide (i = j))))) := rfl
def lentS : Sl → Bool
  | .ow true _ => true
  | .fz _ => true
  | _ => false
theorem lentS_v (t : T) : lentS (.v t) = false := rfl
theorem lentS_un : lentS .un = false := rfl
theorem lentS_f (b : Bx) : lentS (.ow false b) = false := rfl
theorem lentS_t (b : Bx) : lentS (.ow true b) = true := rfl
theorem lentS_z (b : Bx) : lentS (.fz b) = true := rfl
def lentO : Option Sl → Bool
  | some s => lentS s
  | none => false
theorem isLent_eq (e : En) (i : Nat) : isLent e i = lentO e[i]? := by
  unfold isLent
  cases e[i]? with
  | none => rfl
  | some s => cases s with
    | ow l b => cases l <;> rfl
    | _ => rfl
theorem gAll_bools (bs : List Bool) : gAll [.list (bs.map .bool)] = some (.r (.bool (bs.all id))) := by
  have : bools (bs.map .bool) = some bs := by
    induction bs with
    | nil => rfl
    | cons b bs ih => rw [List.map_cons, bools, ih]; try rfl
  show Option.map _ (bools _) = _
  rw [this]
  rfl
end Pu

set_option Elab.async false
set_option linter.all false
set_option maxRecDepth 100000
namespace Wp
open PySem PySem.Spec Ev Pu
/-! ### what a run yields, and what is wanted of it -/
def W {α : Type} (o : Out α) (Q : α → En → Prop) : Prop := ∃ a e, o = .ok a e ∧ Q a e
theorem w_of {α : Type} {o : Out α} {a : α} {e : En} {Q : α → En → Prop} (h : o = .ok a e) (q : Q a e) : W o Q := ⟨a, e, h, q⟩
theorem w_imp {α : Type} {o : Out α} {P Q : α → En → Prop} (h : W o P) (q : ∀ a e, P a e → Q a e) : W o Q := by
  obtain ⟨a, e, h, p⟩ := h
  exact ⟨a, e, h, q a e p⟩
theorem w_bind {α β : Type} {o : Out α} {f : α → En → Out β} {Q : β → En → Prop} (h : W o fun a e => W (f a e) Q) : W (o.bind f) Q := by
  obtain ⟨a, e, h, b, e2, h2, q⟩ := h
  exact ⟨b, e2, by rw [h]; exact h2, q⟩
/-! ### statements -/
def KSeq (b : SemS) (Q : Fl → En → Prop) : Fl → En → Prop := fun fl e => match fl with
  | .nx => W (b e) Q
  | fl => Q fl e
theorem kseq_nx {b : SemS} {Q : Fl → En → Prop} {e : En} (h : W (b e) Q) : KSeq b Q .nx e := h
theorem kseq_rt {b : SemS} {Q : Fl → En → Prop} {e : En} {r : Od} (h : Q (.rt r) e) : KSeq b Q (.rt r) e := h
theorem kseq_bk {b : SemS} {Q : Fl → En → Prop} {e : En} (h : Q .bk e) : KSeq b Q .bk e := h
theorem kseq_ct {b : SemS} {Q : Fl → En → Prop} {e : En} (h : Q .ct e) : KSeq b Q .ct e := h
theorem w_seq {a b : SemS} {Q : Fl → En → Prop} {e : En} (h : W (a e) (KSeq b Q)) : W (sSeq a b e) Q := by
  obtain ⟨fl, e1, h, k⟩ := h
  unfold sSeq
  rw [h]
  cases fl with
  | nx => exact k
  | rt r => exact ⟨_, _, rfl, k⟩
  | bk => exact ⟨_, _, rfl, k⟩
  | ct => exact ⟨_, _, rfl, k⟩
theorem w_nil {Q : Fl → En → Prop} {e : En} (h : Q .nx e) : W (sNil e) Q := ⟨_, _, rfl, h⟩
theorem w_brk {Q : Fl → En → Prop} {e : En} (h : Q .bk e) : W (sBrk e) Q := ⟨_, _, rfl, h⟩
theorem w_cnt {Q : Fl → En → Prop} {e : En} (h : Q .ct e) : W (sCnt e) Q := ⟨_, _, rfl, h⟩
theorem w_drop {m : SemE} {Q : Fl → En → Prop} {e : En} (h : W (m e) fun _ e1 => Q .nx e1) : W (sDrop m e) Q :=
  w_bind (w_imp h fun _ _ q => ⟨_, _, rfl, q⟩)
def KIf (m1 m2 : SemS) (Q : Fl → En → Prop) : Bool → En → Prop := fun k e => (k = true → W (m1 e) Q) ∧ (k = false → W (m2 e) Q)
theorem w_if {c : SemT} {m1 m2 : SemS} {Q : Fl → En → Prop} {e : En} (h : W (c e) (KIf m1 m2 Q)) : W (sIf c m1 m2 e) Q :=
  w_bind (w_imp h fun k e1 q => by
    cases k with
    | true => exact q.1 rfl
    | false => exact q.2 rfl)
theorem kif_t {m1 m2 : SemS} {Q : Fl → En → Prop} {k : Bool} {e : En} (hk : k = true) (h : W (m1 e) Q) : KIf m1 m2 Q k e := ⟨fun _ => h, fun z => (by rw [hk] at z; cases z)⟩
theorem kif_f {m1 m2 : SemS} {Q : Fl → En → Prop} {k : Bool} {e : En} (hk : k = false) (h : W (m2 e) Q) : KIf m1 m2 Q k e := ⟨fun z => (by rw [hk] at z; cases z), fun _ => h⟩
theorem kif_d {m1 m2 : SemS} {Q : Fl → En → Prop} {p : Prop} [Decidable p] {e : En} (h1 : p → W (m1 e) Q) (h2 : ¬ p → W (m2 e) Q) : KIf m1 m2 Q (decide p) e := ⟨fun h => h1 (of_decide_eq_true h), fun h => h2 (of_decide_eq_false h)⟩
def KSet (i : Nat) (Q : Fl → En → Prop) : Od → En → Prop := fun r e => W (setO i r e) Q
theorem w_set {i : Nat} {m : SemE} {Q : Fl → En → Prop} {e : En} (h : W (m e) (KSet i Q)) : W (sSet i m e) Q := w_bind h
theorem isLent_of {e : En} {i : Nat} {l : Sl} (h : e[i]? = some l) (h2 : lentS l = false) : isLent e i = false := by rw [isLent_eq, h]; exact h2
theorem kset_r {i : Nat} {Q : Fl → En → Prop} {t : T} {e : En} (hl : isLent e i = false) (h : Q .nx (e.set i (.v t))) : KSet i Q (.r t) e := ⟨_, _, by unfold setO; rw [hl]; rfl, h⟩
theorem kset_b {i : Nat} {Q : Fl → En → Prop} {z : Bx} {e : En} (hl : isLent e i = false) (h : Q .nx (e.set i (.ow false z))) : KSet i Q (.b z) e := ⟨_, _, by unfold setO; rw [hl]; rfl, h⟩
theorem kset_s {i j : Nat} {Q : Fl → En → Prop} {t : T} {e e' : En} (hl : isLent e i = false) (he : esc (.s j) e = some (t, e')) (h : Q .nx (e'.set i (.v t))) : KSet i Q (.s j) e := ⟨_, _, by
  unfold setO; rw [hl]; simp only [he]; rfl, h⟩
def KRet (Q : Fl → En → Prop) : Od → En → Prop := fun r e => W (retO r e) Q
theorem w_ret {m : SemE} {Q : Fl → En → Prop} {e : En} (h : W (m e) (KRet Q)) : W (sRet m e) Q := w_bind h
theorem w_retN {Q : Fl → En → Prop} {e : En} (h : Q (.rt (.r .none)) e) : W (sRetN e) Q := ⟨_, _, rfl, h⟩
theorem kret_r {Q : Fl → En → Prop} {t : T} {e : En} (h : Q (.rt (.r t)) e) : KRet Q (.r t) e := ⟨_, _, rfl, h⟩
theorem kret_b {Q : Fl → En → Prop} {z : Bx} {e : En} (h : Q (.rt (.b z)) e) : KRet Q (.b z) e := ⟨_, _, rfl, h⟩
theorem kret_so {Q : Fl → En → Prop} {i : Nat} {z : Bx} {e : En} (hi : e[i]? = some (.ow false z)) (h : Q (.rt (.b z)) (e.set i .un)) : KRet Q (.s i) e := ⟨_, _, by unfold retO; simp only [hi], h⟩
def KAsg (g : SemG) (Q : Fl → En → Prop) : Od → En → Prop := fun r e => ∃ t e2, esc r e = some (t, e2) ∧ ∃ e3, g t e2 = some e3 ∧ Q .nx e3
theorem w_asg {g : SemG} {m : SemE} {Q : Fl → En → Prop} {e : En} (h : W (m e) (KAsg g Q)) : W (sAsg g m e) Q :=
  w_bind (w_imp h fun r e1 ⟨t, e2, h1, e3, h2, q⟩ => ⟨_, _, by simp only [h1, h2], q⟩)
theorem kasg {g : SemG} {Q : Fl → En → Prop} {r : Od} {e e2 e3 : En} {t : T} (h1 : esc r e = some (t, e2)) (h2 : g t e2 = some e3) (q : Q .nx e3) : KAsg g Q r e := ⟨t, e2, h1, e3, h2, q⟩
def KPar (is : List Nat) (Q : Fl → En → Prop) : List Od → En → Prop := fun rs e => ∃ rs' e2, presc rs e = some (rs', e2) ∧ ∃ e3, setOs is rs' e2 = some e3 ∧ Q .nx e3
theorem w_par {is : List Nat} {m : SemA} {Q : Fl → En → Prop} {e : En} (h : W (m e) (KPar is Q)) : W (sPar is m e) Q :=
  w_bind (w_imp h fun rs e1 ⟨rs', e2, h1, e3, h2, q⟩ => ⟨_, _, by simp only [h1, h2], q⟩)
theorem kpar {is : List Nat} {Q : Fl → En → Prop} {rs rs' : List Od} {e e2 e3 : En} (h1 : presc rs e = some (rs', e2)) (h2 : setOs is rs' e2 = some e3) (q : Q .nx e3) : KPar is Q rs e := ⟨rs', e2, h1, e3, h2, q⟩
theorem setOs_nil {e e' : En} (h : e' = e) : setOs [] [] e = some e' := by rw [h]; rfl
theorem setOs_r {i : Nat} {is : List Nat} {t : T} {rs : List Od} {e e' : En} (hl : isLent e i = false) (h : setOs is rs (e.set i (.v t)) = some e') : setOs (i :: is) (.r t :: rs) e = some e' := by
  unfold setOs setO; rw [hl]; exact h
theorem setOs_b {i : Nat} {is : List Nat} {z : Bx} {rs : List Od} {e e' : En} (hl : isLent e i = false) (h : setOs is rs (e.set i (.ow false z)) = some e') : setOs (i :: is) (.b z :: rs) e = some e' := by
  unfold setOs setO; rw [hl]; exact h
theorem gN_ok {i : Nat} {t : T} {e e' : En} (hl : isLent e i = false) (h : e' = e.set i (.v t)) : gN i t e = some e' := by unfold gN; rw [hl, h]; rfl
theorem gsNil_ok {e e' : En} (h : e' = e) : gsNil [] e = some e' := by rw [h]; rfl
theorem gsCons_ok {g : SemG} {gs : SemGs} {t : T} {ts : List T} {e e1 e' : En} (h1 : g t e = some e1) (h2 : gs ts e1 = some e') : gsCons g gs (t :: ts) e = some e' := by unfold gsCons; simp only [h1, h2]
theorem gT_ok {n : Nat} {gs : SemGs} {ts : List T} {e e' : En} (hn : ts.length = n) (h : gs ts e = some e') : gT n gs (.tuple ts) e = some e' := by unfold gT; simp only [hn, h, if_true]
def KAug (i : Nat) (t : T) (g : T → T → Option Od) (Q : Fl → En → Prop) : Od → En → Prop := fun r e => ∃ u k, r.val e = some u ∧ g t u = some (.r (.int k)) ∧ isLent e i = false ∧ Q .nx (e.set i (.v (.int k)))
theorem w_aug {i : Nat} {g : T → T → Option Od} {m : SemE} {Q : Fl → En → Prop} {e : En} {t : T} (hi : e[i]? = some (.v t)) (h : W (m e) (KAug i t g Q)) : W (sAug i g m e) Q := by
  unfold sAug
  simp only [hi]
  exact w_bind (w_imp h fun r e1 ⟨u, k, h1, h2, h3, q⟩ => ⟨_, _, by simp only [h1, h2, setO, h3]; rfl, q⟩)
theorem kaug {i : Nat} {t u : T} {g : T → T → Option Od} {Q : Fl → En → Prop} {r : Od} {e : En} {k : Int} (h1 : r.val e = some u) (h2 : g t u = some (.r (.int k))) (h3 : isLent e i = false) (q : Q .nx (e.set i (.v (.int k)))) : KAug i t g Q r e := ⟨u, k, h1, h2, h3, q⟩
def KSetIx2 (i : Nat) (r : Od) (Q : Fl → En → Prop) : Od → En → Prop := fun ri e2 => ∃ k t e3 l ts j, ri.val e2 = some (.int k) ∧ esc r e2 = some (t, e3) ∧ e3[i]? = some (.ow l (.l ts)) ∧ L2.ixN ts.length k = some j ∧ Q .nx (e3.set i (.ow l (.l (ts.set j t))))
def KSetIx1 (i : Nat) (mi : SemE) (Q : Fl → En → Prop) : Od → En → Prop := fun r e1 => ∃ l ts, e1[i]? = some (.ow l (.l ts)) ∧ W (mi e1) (KSetIx2 i r Q)
theorem w_setix {i : Nat} {mi mv : SemE} {Q : Fl → En → Prop} {e : En} (h : W (mv e) (KSetIx1 i mi Q)) : W (sSetIx i mi mv e) Q := by
  refine w_bind (w_imp h fun r e1 ⟨l, ts, h1, h2⟩ => ?_)
  simp only [h1]
  exact w_bind (w_imp h2 fun ri e2 ⟨k, t, e3, l, ts, j, q1, q2, q3, q4, q⟩ => ⟨_, _, by simp only [q1, q2, q3, q4], q⟩)
theorem ksetix1 {i : Nat} {mi : SemE} {Q : Fl → En → Prop} {r : Od} {e1 : En} {l : Bool} {ts : List T} (h1 : e1[i]? = some (.ow l (.l ts))) (h : W (mi e1) (KSetIx2 i r Q)) : KSetIx1 i mi Q r e1 := ⟨l, ts, h1, h⟩
theorem ksetix2 {i : Nat} {Q : Fl → En → Prop} {r ri : Od} {e2 e3 : En} {k : Int} {t : T} {l : Bool} {ts : List T} {j : Nat} (q1 : ri.val e2 = some (.int k)) (q2 : esc r e2 = some (t, e3)) (q3 : e3[i]? = some (.ow l (.l ts))) (q4 : L2.ixN ts.length k = some j) (q : Q .nx (e3.set i (.ow l (.l (ts.set j t))))) :
    KSetIx2 i r Q ri e2 := ⟨k, t, e3, l, ts, j, q1, q2, q3, q4, q⟩
theorem ixN_nat {n k : Nat} (h : k < n) : L2.ixN n (k : Int) = some k := by unfold L2.ixN; simp [h]
/-! ### tests -/
def KTb (Q : Bool → En → Prop) : Od → En → Prop := fun r e => ∃ k, r.val e = some (.bool k) ∧ Q k e
theorem w_tb {m : SemE} {Q : Bool → En → Prop} {e : En} (h : W (m e) (KTb Q)) : W (tb m e) Q := w_bind (w_imp h fun r e1 ⟨k, h1, q⟩ => ⟨_, _, by simp only [h1], q⟩)
theorem ktb {Q : Bool → En → Prop} {k : Bool} {e : En} (q : Q k e) : KTb Q (.r (.bool k)) e := ⟨k, rfl, q⟩
theorem ktb_s {Q : Bool → En → Prop} {r : Od} {k : Bool} {e : En} (h : r.val e = some (.bool k)) (q : Q k e) : KTb Q r e := ⟨k, h, q⟩
theorem w_tnot {t : SemT} {Q : Bool → En → Prop} {e : En} (h : W (t e) fun k e1 => Q (!k) e1) : W (Ev.tNot t e) Q := w_bind (w_imp h fun k e1 q => ⟨_, _, rfl, q⟩)
def KAnd (t : SemT) (Q : Bool → En → Prop) : Bool → En → Prop := fun k e => (k = true → W (t e) Q) ∧ (k = false → Q false e)
theorem w_tand {t1 t2 : SemT} {Q : Bool → En → Prop} {e : En} (h : W (t1 e) (KAnd t2 Q)) : W (Ev.tAnd t1 t2 e) Q := w_bind (w_imp h fun k e1 q => by
  cases k with
  | true => exact q.1 rfl
  | false => exact ⟨_, _, rfl, q.2 rfl⟩)
theorem kand_t {t : SemT} {Q : Bool → En → Prop} {k : Bool} {e : En} (hk : k = true) (h : W (t e) Q) : KAnd t Q k e := ⟨fun _ => h, fun z => (by rw [hk] at z; cases z)⟩
theorem kand_f {t : SemT} {Q : Bool → En → Prop} {k : Bool} {e : En} (hk : k = false) (h : Q false e) : KAnd t Q k e := ⟨fun z => (by rw [hk] at z; cases z), fun _ => h⟩
def KOr (t : SemT) (Q : Bool → En → Prop) : Bool → En → Prop := fun k e => (k = true → Q true e) ∧ (k = false → W (t e) Q)
theorem w_tor {t1 t2 : SemT} {Q : Bool → En → Prop} {e : En} (h : W (t1 e) (KOr t2 Q)) : W (Ev.tOr t1 t2 e) Q := w_bind (w_imp h fun k e1 q => by
  cases k with
  | true => exact ⟨_, _, rfl, q.1 rfl⟩
  | false => exact q.2 rfl)
theorem kor_t {t : SemT} {Q : Bool → En → Prop} {k : Bool} {e : En} (hk : k = true) (h : Q true e) : KOr t Q k e := ⟨fun _ => h, fun z => (by rw [hk] at z; cases z)⟩
theorem kor_f {t : SemT} {Q : Bool → En → Prop} {k : Bool} {e : En} (hk : k = false) (h : W (t e) Q) : KOr t Q k e := ⟨fun z => (by rw [hk] at z; cases z), fun _ => h⟩
theorem w_true {Q : Bool → En → Prop} {e : En} (h : Q true e) : W (tTrue e) Q := ⟨_, _, rfl, h⟩
/-! ### expressions -/
theorem w_var_v {i : Nat} {t : T} {e : En} {Q : Od → En → Prop} (hi : e[i]? = some (.v t)) (q : Q (.r t) e) : W (eVar i e) Q := ⟨_, _, by unfold eVar; rw [hi], q⟩
theorem w_var_f {i : Nat} {z : Bx} {e : En} {Q : Od → En → Prop} (hi : e[i]? = some (.fz z)) (q : Q (.r z.t) e) : W (eVar i e) Q := ⟨_, _, by unfold eVar; rw [hi], q⟩
theorem w_var_o {i : Nat} {l : Bool} {z : Bx} {e : En} {Q : Od → En → Prop} (hi : e[i]? = some (.ow l z)) (q : Q (.s i) e) : W (eVar i e) Q := ⟨_, _, by unfold eVar; rw [hi], q⟩
theorem w_k {t : T} {e : En} {Q : Od → En → Prop} (q : Q (.r t) e) : W (eK t e) Q := ⟨_, _, rfl, q⟩
def KTwo1 (mb : SemE) (g : T → T → Option Od) (Q : Od → En → Prop) : Od → En → Prop := fun r e1 => W (mb e1) fun r2 e2 => ∃ t u w, r.val e2 = some t ∧ r2.val e2 = some u ∧ g t u = some w ∧ Q w e2
def KTwo2 (r : Od) (g : T → T → Option Od) (Q : Od → En → Prop) : Od → En → Prop := fun r2 e2 => ∃ t u w, r.val e2 = some t ∧ r2.val e2 = some u ∧ g t u = some w ∧ Q w e2
theorem w_op2 {g : T → T → Option Od} {ma mb : SemE} {Q : Od → En → Prop} {e : En} (h : W (ma e) (KTwo1 mb g Q)) : W (eOp2 g ma mb e) Q :=
  w_bind (w_imp h fun r e1 h1 => w_bind (w_imp h1 fun r2 e2 ⟨t, u, w, q1, q2, q3, q⟩ => ⟨_, _, by unfold v2; simp only [q1, q2, q3], q⟩))
theorem ktwo1 {mb : SemE} {g : T → T → Option Od} {Q : Od → En → Prop} {r : Od} {e1 : En} (h : W (mb e1) (KTwo2 r g Q)) : KTwo1 mb g Q r e1 := h
theorem ktwo2 {r r2 : Od} {g : T → T → Option Od} {Q : Od → En → Prop} {e2 : En} {t u : T} {w : Od} (h1 : r.val e2 = some t) (h2 : r2.val e2 = some u) (h3 : g t u = some w) (q : Q w e2) : KTwo2 r g Q r2 e2 := ⟨t, u, w, h1, h2, h3, q⟩
theorem w_anil {e : En} {Q : List Od → En → Prop} (q : Q [] e) : W (aNil e) Q := ⟨_, _, rfl, q⟩
def KCons1 (r : SemA) (Q : List Od → En → Prop) : Od → En → Prop := fun x e1 => W (r e1) fun xs e2 => Q (x :: xs) e2
theorem w_acons {m : SemE} {r : SemA} {Q : List Od → En → Prop} {e : En} (h : W (m e) (KCons1 r Q)) : W (aCons m r e) Q :=
  w_bind (w_imp h fun x e1 h1 => w_bind (w_imp h1 fun xs e2 q => ⟨_, _, rfl, q⟩))
theorem kcons1 {r : SemA} {Q : List Od → En → Prop} {x : Od} {e1 : En} (h : W (r e1) fun xs e2 => Q (x :: xs) e2) : KCons1 r Q x e1 := h
def KFnG (g : List T → Option Od) (Q : Od → En → Prop) : List Od → En → Prop := fun rs e1 => ∃ ts w, vals e1 rs = some ts ∧ g ts = some w ∧ Q w e1
theorem w_fng {g : List T → Option Od} {ma : SemA} {Q : Od → En → Prop} {e : En} (h : W (ma e) (KFnG g Q)) : W (eFn g ma e) Q :=
  w_bind (w_imp h fun rs e1 ⟨ts, w, h1, h2, q⟩ => ⟨_, _, by simp only [h1, h2], q⟩)
theorem kfng {g : List T → Option Od} {Q : Od → En → Prop} {rs : List Od} {e1 : En} {ts : List T} {w : Od} (h1 : vals e1 rs = some ts) (h2 : g ts = some w) (q : Q w e1) : KFnG g Q rs e1 := ⟨ts, w, h1, h2, q⟩
def KDisp (k : List T → Od) (Q : Od → En → Prop) : List Od → En → Prop := fun rs e1 => ∃ ts e2, escs rs e1 = some (ts, e2) ∧ ts.length ≤ sizeLine ∧ Q (k ts) e2
theorem w_tup {m : SemA} {Q : Od → En → Prop} {e : En} (h : W (m e) (KDisp (fun ts => .r (.tuple ts)) Q)) : W (eTup m e) Q :=
  w_bind (w_imp h fun rs e1 ⟨ts, e2, h1, h2, q⟩ => ⟨_, _, by simp only [h1, h2, if_true], q⟩)
theorem w_lst {m : SemA} {Q : Od → En → Prop} {e : En} (h : W (m e) (KDisp (fun ts => .b (.l ts)) Q)) : W (eLst m e) Q :=
  w_bind (w_imp h fun rs e1 ⟨ts, e2, h1, h2, q⟩ => ⟨_, _, by simp only [h1, h2, if_true], q⟩)
theorem kdisp_t {Q : Od → En → Prop} {rs : List Od} {e1 e2 : En} {ts : List T} (h1 : escs rs e1 = some (ts, e2)) (h2 : Nat.ble ts.length 64 = true) (q : Q (.r (.tuple ts)) e2) : KDisp (fun ts => .r (.tuple ts)) Q rs e1 := ⟨ts, e2, h1, Nat.le_trans (Nat.le_of_ble_eq_true h2) (by unfold sizeLine; omega), q⟩
theorem kdisp_l {Q : Od → En → Prop} {rs : List Od} {e1 e2 : En} {ts : List T} (h1 : escs rs e1 = some (ts, e2)) (h2 : Nat.ble ts.length 64 = true) (q : Q (.b (.l ts)) e2) : KDisp (fun ts => .b (.l ts)) Q rs e1 := ⟨ts, e2, h1, Nat.le_trans (Nat.le_of_ble_eq_true h2) (by unfold sizeLine; omega), q⟩
def KCall (n : Nat) (m : FSem) (Q : Od → En → Prop) : List Od → En → Prop := fun rs e1 => rs.length = n ∧ ∃ ss, toSls e1 rs = some ss ∧ (sIdx rs).Nodup ∧ W (m ss) fun r ss' => (∀ i, r ≠ .s i) ∧ Q r (wb rs ss' e1)
theorem callR_w {m : FSem} {rs : List Od} {e1 : En} {ss : List Sl} {Q : Od → En → Prop} (h1 : toSls e1 rs = some ss) (h2 : (sIdx rs).Nodup) (h : W (m ss) fun r ss' => (∀ i, r ≠ .s i) ∧ Q r (wb rs ss' e1)) : W (eCallR m rs e1) Q := by
  obtain ⟨r, ss', h3, h4, q⟩ := h
  unfold eCallR
  simp only [h1, h2, h3, if_true]
  cases r with
  | s i => exact absurd rfl (h4 i)
  | r t => exact ⟨_, _, rfl, q⟩
  | b z => exact ⟨_, _, rfl, q⟩
theorem w_call {n : Nat} {m : FSem} {ma : SemA} {Q : Od → En → Prop} {e : En} (h : W (ma e) (KCall n m Q)) : W (eCall n m ma e) Q :=
  w_bind (w_imp h fun rs e1 ⟨h1, ss, h2, h3, h4⟩ => by rw [if_pos h1]; exact callR_w h2 h3 h4)
/-- what comes back of a call -/
def KBack (rs : List Od) (e1 : En) (Q : Od → En → Prop) : Od → En → Prop := fun r ss' => (∀ i, r ≠ .s i) ∧ Q r (wb rs ss' e1)
theorem kcall {n : Nat} {m : FSem} {Q : Od → En → Prop} {rs : List Od} {e1 : En} {ss : List Sl} (h1 : rs.length = n) (h2 : toSls e1 rs = some ss) (h3 : (sIdx rs).Nodup) (h : W (m ss) (KBack rs e1 Q)) : KCall n m Q rs e1 := ⟨h1, ss, h2, h3, h⟩
def KCallK (n : Nat) (perm : List Nat) (m : FSem) (Q : Od → En → Prop) : List Od → En → Prop := fun rs e1 => ((pick perm rs).length = n ∧ rs.length = n ∧ perm.Nodup) ∧ ∃ ss, toSls e1 (pick perm rs) = some ss ∧ (sIdx (pick perm rs)).Nodup ∧ W (m ss) (KBack (pick perm rs) e1 Q)
theorem w_callk {n : Nat} {perm : List Nat} {m : FSem} {ma : SemA} {Q : Od → En → Prop} {e : En} (h : W (ma e) (KCallK n perm m Q)) : W (eCallK n perm m ma e) Q :=
  w_bind (w_imp h fun rs e1 ⟨h1, ss, h2, h3, h4⟩ => by rw [if_pos h1]; exact callR_w h2 h3 h4)
theorem kcallk {n : Nat} {perm : List Nat} {m : FSem} {Q : Od → En → Prop} {rs : List Od} {e1 : En} {ss : List Sl} (h0 : perm.Nodup) (h1 : (pick perm rs).length = n ∧ rs.length = n) (h2 : toSls e1 (pick perm rs) = some ss) (h3 : (sIdx (pick perm rs)).Nodup) (h : W (m ss) (KBack (pick perm rs) e1 Q)) : KCallK n perm m Q rs e1 := ⟨⟨h1.1, h1.2, h0⟩, ss, h2, h3, h⟩
def KMut2 (i : Nat) (g : List T → List T → Option (List T × T)) (Q : Od → En → Prop) : List Od → En → Prop := fun rs e1 => ∃ us e2 l ts ts' w, escs rs e1 = some (us, e2) ∧ e2[i]? = some (.ow l (.l ts)) ∧ g ts us = some (ts', w) ∧ Q (.r w) (e2.set i (.ow l (.l ts')))
theorem w_mut {i : Nat} {g : List T → List T → Option (List T × T)} {ma : SemA} {Q : Od → En → Prop} {e : En} {l : Bool} {ts : List T} (hi : e[i]? = some (.ow l (.l ts))) (h : W (ma e) (KMut2 i g Q)) : W (eMut i g ma e) Q := by
  unfold eMut
  simp only [hi]
  exact w_bind (w_imp h fun rs e1 ⟨us, e2, l, ts, ts', w, h1, h2, h3, q⟩ => ⟨_, _, by simp only [h1, h2, h3], q⟩)
theorem kmut2 {i : Nat} {g : List T → List T → Option (List T × T)} {Q : Od → En → Prop} {rs : List Od} {e1 e2 : En} {us ts ts' : List T} {w : T} {l : Bool} (h1 : escs rs e1 = some (us, e2)) (h2 : e2[i]? = some (.ow l (.l ts))) (h3 : g ts us = some (ts', w)) (q : Q (.r w) (e2.set i (.ow l (.l ts')))) : KMut2 i g Q rs e1 := ⟨us, e2, l, ts, ts', w, h1, h2, h3, q⟩
theorem gAppend_ok {ts : List T} {u : T} (h : ts.length < sizeLine) : gAppend ts [u] = some (ts ++ [u], .none) := by unfold gAppend; simp only [h, if_true]
def KAndE (mb : SemE) (Q : Od → En → Prop) : Bool → En → Prop := fun k e => (k = true → W (mb e) Q) ∧ (k = false → Q (.r (.bool false)) e)
theorem w_eand {ma mb : SemE} {Q : Od → En → Prop} {e : En} (h : W (tb ma e) (KAndE mb Q)) : W (eAnd ma mb e) Q := w_bind (w_imp h fun k e1 q => by
  cases k with
  | true => exact q.1 rfl
  | false => exact ⟨_, _, rfl, q.2 rfl⟩)
theorem kande_t {mb : SemE} {Q : Od → En → Prop} {k : Bool} {e : En} (hk : k = true) (h : W (mb e) Q) : KAndE mb Q k e := ⟨fun _ => h, fun z => (by rw [hk] at z; cases z)⟩
theorem kande_f {mb : SemE} {Q : Od → En → Prop} {k : Bool} {e : En} (hk : k = false) (h : Q (.r (.bool false)) e) : KAndE mb Q k e := ⟨fun z => (by rw [hk] at z; cases z), fun _ => h⟩
def KOrE (mb : SemE) (Q : Od → En → Prop) : Bool → En → Prop := fun k e => (k = true → Q (.r (.bool true)) e) ∧ (k = false → W (mb e) Q)
theorem w_eor {ma mb : SemE} {Q : Od → En → Prop} {e : En} (h : W (tb ma e) (KOrE mb Q)) : W (eOr ma mb e) Q := w_bind (w_imp h fun k e1 q => by
  cases k with
  | true => exact ⟨_, _, rfl, q.1 rfl⟩
  | false => exact q.2 rfl)
theorem kore_t {mb : SemE} {Q : Od → En → Prop} {k : Bool} {e : En} (hk : k = true) (h : Q (.r (.bool true)) e) : KOrE mb Q k e := ⟨fun _ => h, fun z => (by rw [hk] at z; cases z)⟩
theorem kore_f {mb : SemE} {Q : Od → En → Prop} {k : Bool} {e : En} (hk : k = false) (h : W (mb e) Q) : KOrE mb Q k e := ⟨fun z => (by rw [hk] at z; cases z), fun _ => h⟩
theorem w_enot {ma : SemE} {Q : Od → En → Prop} {e : En} (h : W (tb ma e) fun k e1 => Q (.r (.bool !k)) e1) : W (eNot ma e) Q := w_bind (w_imp h fun k e1 q => ⟨_, _, rfl, q⟩)
def KIfE (ma mb : SemE) (Q : Od → En → Prop) : Bool → En → Prop := fun k e => (k = true → W (ma e) Q) ∧ (k = false → W (mb e) Q)
theorem w_eif {t : SemT} {ma mb : SemE} {Q : Od → En → Prop} {e : En} (h : W (t e) (KIfE ma mb Q)) : W (eIf t ma mb e) Q := w_bind (w_imp h fun k e1 q => by
  cases k with
  | true => exact q.1 rfl
  | false => exact q.2 rfl)
theorem kife_t {ma mb : SemE} {Q : Od → En → Prop} {k : Bool} {e : En} (hk : k = true) (h : W (ma e) Q) : KIfE ma mb Q k e := ⟨fun _ => h, fun z => (by rw [hk] at z; cases z)⟩
theorem kife_f {ma mb : SemE} {Q : Od → En → Prop} {k : Bool} {e : En} (hk : k = false) (h : W (mb e) Q) : KIfE ma mb Q k e := ⟨fun z => (by rw [hk] at z; cases z), fun _ => h⟩
theorem kife_d {ma mb : SemE} {Q : Od → En → Prop} {p : Prop} [Decidable p] {e : En} (h1 : p → W (ma e) Q) (h2 : ¬ p → W (mb e) Q) : KIfE ma mb Q (decide p) e := ⟨fun h => h1 (of_decide_eq_true h), fun h => h2 (of_decide_eq_false h)⟩
def KNeg (Q : Od → En → Prop) : Od → En → Prop := fun r e => ∃ i, r.val e = some (.int i) ∧ Q (.r (.int (-i))) e
theorem w_neg {m : SemE} {Q : Od → En → Prop} {e : En} (h : W (m e) (KNeg Q)) : W (eNeg m e) Q := w_bind (w_imp h fun r e1 ⟨i, h1, q⟩ => ⟨_, _, by simp only [h1], q⟩)
theorem kneg {Q : Od → En → Prop} {r : Od} {e : En} {i : Int} (h : r.val e = some (.int i)) (q : Q (.r (.int (-i))) e) : KNeg Q r e := ⟨i, h, q⟩
def KIsi (f : T → Bool) (Q : Od → En → Prop) : Od → En → Prop := fun r e => ∃ t, r.val e = some t ∧ Q (.r (.bool (f t))) e
theorem w_isi {f : T → Bool} {m : SemE} {Q : Od → En → Prop} {e : En} (h : W (m e) (KIsi f Q)) : W (eIsi f m e) Q := w_bind (w_imp h fun r e1 ⟨t, h1, q⟩ => ⟨_, _, by simp only [h1], q⟩)
theorem kisi {f : T → Bool} {Q : Od → En → Prop} {r : Od} {e : En} {t : T} (h : r.val e = some t) (q : Q (.r (.bool (f t))) e) : KIsi f Q r e := ⟨t, h, q⟩
/-- slices -/
def KSl (lo hi : SemP) (Q : Od → En → Prop) : Od → En → Prop := fun r e1 => W (lo e1) fun l e2 => W (hi e2) fun h e3 => (∃ ts, r.val e3 = some (.list ts) ∧ Q (.b (.l (cutT ts l h))) e3) ∨ (∃ ts, r.val e3 = some (.tuple ts) ∧ Q (.r (.tuple (cutT ts l h))) e3)
theorem w_sl {m : SemE} {lo hi : SemP} {Q : Od → En → Prop} {e : En} (h : W (m e) (KSl lo hi Q)) : W (eSl m lo hi e) Q :=
  w_bind (w_imp h fun r e1 h1 => w_bind (w_imp h1 fun l e2 h2 => w_bind (w_imp h2 fun x e3 h3 => by
    rcases h3 with ⟨ts, h4, q⟩ | ⟨ts, h4, q⟩
    · exact ⟨_, _, by simp only [h4], q⟩
    · exact ⟨_, _, by simp only [h4], q⟩)))
theorem w_pno {Q : Option Int → En → Prop} {e : En} (q : Q none e) : W (pNo e) Q := ⟨_, _, rfl, q⟩
def KPso (Q : Option Int → En → Prop) : Od → En → Prop := fun r e => ∃ i, r.val e = some (.int i) ∧ Q (some i) e
theorem w_pso {m : SemE} {Q : Option Int → En → Prop} {e : En} (h : W (m e) (KPso Q)) : W (pSo m e) Q := w_bind (w_imp h fun r e1 ⟨i, h1, q⟩ => ⟨_, _, by simp only [h1], q⟩)
theorem kpso {Q : Option Int → En → Prop} {r : Od} {e : En} {i : Int} (h : r.val e = some (.int i)) (q : Q (some i) e) : KPso Q r e := ⟨i, h, q⟩
def KRev (Q : Od → En → Prop) : Od → En → Prop := fun r e3 => (∃ ts, r.val e3 = some (.list ts) ∧ Q (.b (.l ts.reverse)) e3) ∨ (∃ ts, r.val e3 = some (.tuple ts) ∧ Q (.r (.tuple ts.reverse)) e3)
theorem w_rev {m : SemE} {Q : Od → En → Prop} {e : En} (h : W (m e) (KRev Q)) : W (eRev m e) Q :=
  w_bind (w_imp h fun r e1 h1 => by
    rcases h1 with ⟨ts, h4, q⟩ | ⟨ts, h4, q⟩
    · exact ⟨_, _, by simp only [h4], q⟩
    · exact ⟨_, _, by simp only [h4], q⟩)
theorem krev_l {Q : Od → En → Prop} {r : Od} {e : En} {ts : List T} (h : r.val e = some (.list ts)) (q : Q (.b (.l ts.reverse)) e) : KRev Q r e := .inl ⟨ts, h, q⟩
theorem krev_t {Q : Od → En → Prop} {r : Od} {e : En} {ts : List T} (h : r.val e = some (.tuple ts)) (q : Q (.r (.tuple ts.reverse)) e) : KRev Q r e := .inr ⟨ts, h, q⟩
def KIndex1 (ma : SemA) (Q : Od → En → Prop) : Od → En → Prop := fun r e1 => ∃ ts0, r.val e1 = some (.list ts0) ∧ W (ma e1) fun rs e2 => ∃ ts u j, r.val e2 = some (.list ts) ∧ vals e2 rs = some [u] ∧ SeqAt.shaped (.list ts) = true ∧ SeqAt.shaped u = true ∧ findT ts u = some j ∧ Q (.r (.int (j : Nat))) e2
theorem w_index {mo : SemE} {ma : SemA} {Q : Od → En → Prop} {e : En} (h : W (mo e) (KIndex1 ma Q)) : W (eIndex mo ma e) Q :=
  w_bind (w_imp h fun r e1 ⟨ts0, h1, h2⟩ => by
    simp only [h1]
    exact w_bind (w_imp h2 fun rs e2 ⟨ts, u, j, q1, q2, q3, q4, q5, q⟩ => ⟨_, _, by simp only [q1, q2, q3, q4, q5, Bool.and_self, if_true], q⟩))
/-! ### functions -/
def KFun (ss : List Sl) (Q : Od → En → Prop) : Fl → En → Prop := fun fl e' => match fl with
  | .nx => Q (.r .none) (finE ss e')
  | .rt r => Q r (finE ss e')
  | _ => False
theorem w_fun {n : Nat} {b : SemS} {ss : List Sl} {e0 : En} {Q : Od → En → Prop} (h0 : ss.all okArg = true) (he : e0 = ss ++ List.replicate (n - ss.length) .un) (h : W (b e0) (KFun ss Q)) : W (runFn n b ss) Q := by
  obtain ⟨fl, e', h1, q⟩ := h
  unfold runFn
  rw [if_pos h0, ← he, h1]
  cases fl with
  | nx => exact ⟨_, _, rfl, q⟩
  | rt r => exact ⟨_, _, rfl, q⟩
  | bk => exact q.elim
  | ct => exact q.elim
theorem kfun_rt {ss : List Sl} {Q : Od → En → Prop} {r : Od} {e' : En} (q : Q r (finE ss e')) : KFun ss Q (.rt r) e' := q
theorem kfun_nx {ss : List Sl} {Q : Od → En → Prop} {e' : En} (q : Q (.r .none) (finE ss e')) : KFun ss Q .nx e' := q
/-! ### loops -/
def KFor (g : SemG) (b : SemS) (Q : Fl → En → Prop) : List T → En → Prop := fun ts e => W (forS g b ts e) Q
theorem w_for {mi : SemI} {g : SemG} {b : SemS} {Q : Fl → En → Prop} {e : En} (h : W (mi e) (KFor g b Q)) : W (sFor mi g b e) Q := w_bind h
def KOf (Q : List T → En → Prop) : Od → En → Prop := fun r e => ∃ ts e2, (esc r e = some (.list ts, e2) ∨ esc r e = some (.tuple ts, e2)) ∧ Q ts e2
theorem w_iof {m : SemE} {Q : List T → En → Prop} {e : En} (h : W (m e) (KOf Q)) : W (iOf m e) Q := w_bind (w_imp h fun r e1 ⟨ts, e2, h1, q⟩ => by
  rcases h1 with h1 | h1 <;> exact ⟨_, _, by simp only [h1], q⟩)
theorem kof_l {Q : List T → En → Prop} {r : Od} {e e2 : En} {ts : List T} (h : esc r e = some (.list ts, e2)) (q : Q ts e2) : KOf Q r e := ⟨ts, e2, .inl h, q⟩
theorem kof_t {Q : List T → En → Prop} {r : Od} {e e2 : En} {ts : List T} (h : esc r e = some (.tuple ts, e2)) (q : Q ts e2) : KOf Q r e := ⟨ts, e2, .inr h, q⟩
/-- the numbers below n -/
def below (n : Nat) : List T := (List.range n).map fun (k : Nat) => PyData.int (k : Int)
theorem below_is (n : Nat) : intsT 0 n = below n := by
  unfold intsT below
  exact List.map_congr_left fun k _ => by rw [Int.zero_add]
def KR1 (Q : List T → En → Prop) : List Od → En → Prop := fun rs e => ∃ n : Nat, vals e rs = some [.int (n : Int)] ∧ n < 16777216 ∧ Q (below n) e
theorem w_r1 {m : SemA} {Q : List T → En → Prop} {e : En} (h : W (m e) (KR1 Q)) : W (iR1 m e) Q := w_bind (w_imp h fun rs e1 ⟨n, h1, h2, q⟩ => by
  simp only [h1]
  rw [if_pos ⟨by omega, by omega⟩]
  refine ⟨_, _, rfl, ?_⟩
  rw [Int.toNat_natCast, below_is]
  exact q)
theorem kr1 {Q : List T → En → Prop} {rs : List Od} {e : En} {n : Nat} (h1 : vals e rs = some [.int (n : Int)]) (h2 : n < 16777216) (q : Q (below n) e) : KR1 Q rs e := ⟨n, h1, h2, q⟩
theorem kr1_eq {Q : List T → En → Prop} {rs : List Od} {e : En} {j : Int} (n : Nat) (h1 : vals e rs = some [.int j]) (hj : j = (n : Int)) (h2 : n < 16777216) (q : Q (below n) e) : KR1 Q rs e := ⟨n, by rw [h1, hj], h2, q⟩
/-- the numbers from lo on -/
def above (lo : Int) (n : Nat) : List T := (List.range n).map fun (k : Nat) => PyData.int (lo + (k : Int))
def KR2 (Q : List T → En → Prop) : List Od → En → Prop := fun rs e => ∃ i j : Int, vals e rs = some [.int i, .int j] ∧ (-(2 ^ 62) ≤ i ∧ i < 2 ^ 62 ∧ -(2 ^ 62) ≤ j ∧ j < 2 ^ 62) ∧ Q (above i (j - i).toNat) e
theorem w_r2 {m : SemA} {Q : List T → En → Prop} {e : En} (h : W (m e) (KR2 Q)) : W (iR2 m e) Q := w_bind (w_imp h fun rs e1 ⟨i, j, h1, h2, q⟩ => by
  simp only [h1]
  rw [if_pos h2]
  exact ⟨_, _, rfl, q⟩)
def KZip (Q : List T → En → Prop) : List Od → En → Prop := fun rs e => ∃ ts us e2, escs rs e = some ([.list ts, .list us], e2) ∧ Q (pairs ts us) e2
theorem w_izip {m : SemA} {Q : List T → En → Prop} {e : En} (h : W (m e) (KZip Q)) : W (iZip m e) Q := w_bind (w_imp h fun rs e1 ⟨ts, us, e2, h1, q⟩ => ⟨_, _, by simp only [h1], q⟩)
def KEnu (Q : List T → En → Prop) : List Od → En → Prop := fun rs e => ∃ ts e2, escs rs e = some ([.list ts], e2) ∧ Q (enumT ts) e2
theorem w_ienu {m : SemA} {Q : List T → En → Prop} {e : En} (h : W (m e) (KEnu Q)) : W (iEnu m e) Q := w_bind (w_imp h fun rs e1 ⟨ts, e2, h1, q⟩ => ⟨_, _, by simp only [h1], q⟩)
/-- what a turn of a loop leaves -/
def KTurn (I : En → Prop) (R : Od → En → Prop) (X : En → Prop) : Fl → En → Prop := fun fl e => match fl with
  | .nx => I e
  | .ct => I e
  | .rt r => R r e
  | .bk => X e
theorem kturn_nx {I : En → Prop} {R : Od → En → Prop} {X : En → Prop} {e : En} (h : I e) : KTurn I R X .nx e := h
theorem kturn_ct {I : En → Prop} {R : Od → En → Prop} {X : En → Prop} {e : En} (h : I e) : KTurn I R X .ct e := h
theorem kturn_rt {I : En → Prop} {R : Od → En → Prop} {X : En → Prop} {r : Od} {e : En} (h : R r e) : KTurn I R X (.rt r) e := h
theorem kturn_bk {I : En → Prop} {R : Od → En → Prop} {X : En → Prop} {e : En} (h : X e) : KTurn I R X .bk e := h
/-- a loop by what is done -/
theorem for_w {α : Type} (inn : α → T) (I : List α → En → Prop) {g : SemG} {b : SemS} {Q : Fl → En → Prop} : ∀ (xs don : List α) (e : En), I don e →
    (∀ (d2 : List α) (x : α) (rest : List α), xs = d2 ++ x :: rest → ∀ e, I (don ++ d2) e → ∃ e1, g (inn x) e = some e1 ∧ W (b e1) (KTurn (I (don ++ d2 ++ [x])) (fun r e => Q (.rt r) e) (fun e => Q .nx e))) →
    (∀ e, I (don ++ xs) e → Q .nx e) → W (forS g b (xs.map inn) e) Q
  | [], don, e, h, _, q => ⟨_, _, rfl, q e (by rw [List.append_nil]; exact h)⟩
  | x :: xs, don, e, h, s, q => by
    obtain ⟨e1, h1, fl, e2, h2, h3⟩ := s [] x xs rfl e (by rw [List.append_nil]; exact h)
    rw [List.append_nil] at h3
    rw [List.map_cons, forS, h1]
    simp only [h2]
    have go : I (don ++ [x]) e2 → W (forS g b (xs.map inn) e2) Q := fun h3 =>
      for_w inn I xs (don ++ [x]) e2 h3 (fun d2 y rest hx e hi => by
        have := s (x :: d2) y rest (by rw [hx]; rfl) e (by rw [List.append_assoc] at hi; exact hi)
        rw [show don ++ x :: d2 = don ++ [x] ++ d2 by rw [List.append_assoc]; rfl] at this
        exact this) fun e hi => q e (by rw [List.append_assoc] at hi; exact hi)
    cases fl with
    | nx => exact go h3
    | ct => exact go h3
    | rt r => exact ⟨_, _, rfl, h3⟩
    | bk => exact ⟨_, _, rfl, h3⟩
theorem for_on_w {α : Type} (inn : α → T) (xs : List α) (I : List α → En → Prop) {g : SemG} {b : SemS} {Q : Fl → En → Prop} {e : En} (h0 : I [] e)
    (hs : ∀ (don : List α) (x : α) (rest : List α), xs = don ++ x :: rest → ∀ e, I don e → ∃ e1, g (inn x) e = some e1 ∧ W (b e1) (KTurn (I (don ++ [x])) (fun r e => Q (.rt r) e) (fun e => Q .nx e)))
    (hq : ∀ e, I xs e → Q .nx e) : W (forS g b (xs.map inn) e) Q :=
  for_w inn I xs [] e h0 (fun d2 x rest hx e hi => by rw [List.nil_append] at hi ⊢; exact hs d2 x rest hx e hi) hq
theorem range_cut {n : Nat} {don rest : List Nat} {k : Nat} (h : List.range n = don ++ k :: rest) : don = List.range k ∧ k < n := by
  have hk : don.length < n := by
    have := congrArg List.length h
    rw [List.length_range, List.length_append, List.length_cons] at this
    omega
  have e : (List.range n)[don.length]? = some k := by rw [h]; simp
  rw [List.getElem?_range hk] at e
  have e : don.length = k := by simpa using e
  subst e
  refine ⟨?_, hk⟩
  have := congrArg (List.take don.length) h
  rw [List.take_range, List.take_left, Nat.min_eq_left (Nat.le_of_lt hk)] at this
  exact this.symm
/-- a loop over the numbers below n -/
theorem for_below {n : Nat} (I : Nat → En → Prop) {g : SemG} {b : SemS} {Q : Fl → En → Prop} {e : En} (h0 : I 0 e)
    (hs : ∀ k, k < n → ∀ e, I k e → ∃ e1, g (.int (k : Int)) e = some e1 ∧ W (b e1) (KTurn (I (k + 1)) (fun r e => Q (.rt r) e) (fun e => Q .nx e)))
    (hq : ∀ e, I n e → Q .nx e) : W (forS g b (below n) e) Q :=
  for_on_w (fun (k : Nat) => PyData.int (k : Int)) (List.range n) (fun don e => I don.length e) h0 (fun don k rest hx e hi => by
    obtain ⟨h1, h2⟩ := range_cut hx
    have hl : don.length = k := by rw [h1, List.length_range]
    rw [hl] at hi
    obtain ⟨e1, q1, q2⟩ := hs k h2 e hi
    exact ⟨e1, q1, by rw [List.length_append, hl]; exact q2⟩) fun e hi => hq e (by rw [List.length_range] at hi; exact hi)
/-- a comprehension by what is done: each one wanted, some left out -/
theorem comp_w {α : Type} (inn : α → T) (I : List α → List T → En → Prop) {g : SemG} {c : SemT} {m : SemE} {vs : List Nat} {Q : Od → En → Prop} : ∀ (xs don : List α) (acc : List T) (e : En), I don acc e → acc.length + xs.length ≤ sizeLine →
    (∀ (d2 : List α) (x : α) (rest : List α), xs = d2 ++ x :: rest → ∀ acc e, I (don ++ d2) acc e → ∃ e1, g (inn x) (wipeE e vs) = some e1 ∧ W (c e1) fun k e2 => if k then W (m e2) fun r e3 => ∃ u e4, esc r e3 = some (u, e4) ∧ I (don ++ d2 ++ [x]) (acc ++ [u]) (restE e e4 vs) else I (don ++ d2 ++ [x]) acc (restE e e2 vs)) →
    (∀ acc e, I (don ++ xs) acc e → Q (.b (.l acc)) e) → W (compS g c m vs (xs.map inn) acc e) Q
  | [], don, acc, e, h, _, _, q => ⟨_, _, rfl, q acc e (by rw [List.append_nil]; exact h)⟩
  | x :: xs, don, acc, e, h, hl, s, q => by
    obtain ⟨e1, h1, k, e2, h2, h3⟩ := s [] x xs rfl acc e (by rw [List.append_nil]; exact h)
    rw [List.append_nil] at h3
    rw [List.length_cons] at hl
    have go : ∀ acc' e', acc'.length + xs.length ≤ sizeLine → I (don ++ [x]) acc' e' → W (compS g c m vs (xs.map inn) acc' e') Q := fun acc' e' hl' h3 =>
      comp_w inn I xs (don ++ [x]) acc' e' h3 hl' (fun d2 y rest hx acc e hi => by
        have := s (x :: d2) y rest (by rw [hx]; rfl) acc e (by rw [List.append_assoc] at hi; exact hi)
        rw [show don ++ x :: d2 = don ++ [x] ++ d2 by rw [List.append_assoc]; rfl] at this
        exact this) fun acc e hi => q acc e (by rw [List.append_assoc] at hi; exact hi)
    rw [List.map_cons, compS, h1]
    simp only [h2, Out.nx, Out.bind]
    cases k with
    | true =>
      rw [if_pos rfl] at h3
      obtain ⟨r, e3, q1, u, e4, q2, q3⟩ := h3
      simp only [q1, q2, if_true]
      rw [if_pos (show acc.length < sizeLine by omega)]
      exact go _ _ (by rw [List.length_append, List.length_singleton]; omega) q3
    | false =>
      rw [if_neg (by decide)] at h3 ⊢
      exact go _ _ (by omega) h3
def KComp (g : SemG) (c : SemT) (m : SemE) (vs : List Nat) (Q : Od → En → Prop) : List T → En → Prop := fun ts e => W (compS g c m vs ts [] e) Q
theorem w_comp {mi : SemI} {g : SemG} {c : SemT} {m : SemE} {vs : List Nat} {Q : Od → En → Prop} {e : En} (h : W (mi e) (KComp g c m vs Q)) : W (eComp mi g c m vs e) Q := w_bind h
/-- what an element of a comprehension leaves -/
def KElt (I : T → En → Prop) : Od → En → Prop := fun r e3 => ∃ u e4, esc r e3 = some (u, e4) ∧ I u e4
theorem kelt {I : T → En → Prop} {r : Od} {e3 e4 : En} {u : T} (h : esc r e3 = some (u, e4)) (q : I u e4) : KElt I r e3 := ⟨u, e4, h, q⟩
/-- all elements, each by a relation, with a state -/
theorem comp_all {α : Type} (inn : α → T) (xs : List α) (I : List α → List T → En → Prop) {g : SemG} {m : SemE} {vs : List Nat} {Q : Od → En → Prop} {e : En} (h0 : I [] [] e) (hl : xs.length ≤ sizeLine)
    (hs : ∀ (don : List α) (x : α) (rest : List α), xs = don ++ x :: rest → ∀ acc e, I don acc e → ∃ e1, g (inn x) (wipeE e vs) = some e1 ∧ W (m e1) (KElt fun u e4 => I (don ++ [x]) (acc ++ [u]) (restE e e4 vs)))
    (hq : ∀ acc e, I xs acc e → Q (.b (.l acc)) e) : KComp g tTrue m vs Q (xs.map inn) e :=
  comp_w inn I xs [] [] e h0 (by rw [List.length_nil]; omega) (fun d2 x rest hx acc e hi => by
    rw [List.nil_append] at hi ⊢
    obtain ⟨e1, h1, h2⟩ := hs d2 x rest hx acc e hi
    exact ⟨e1, h1, ⟨true, e1, rfl, h2⟩⟩) hq
/-- a comprehension of a function, the state stays -/
theorem comp_map_w {α : Type} (inn out : α → T) (xs : List α) {g : SemG} {m : SemE} {vs : List Nat} {Q : Od → En → Prop} {e : En} (hl : xs.length ≤ sizeLine)
    (hs : ∀ x ∈ xs, ∃ e1, g (inn x) (wipeE e vs) = some e1 ∧ W (m e1) (KElt fun u e4 => u = out x ∧ restE e e4 vs = e))
    (q : Q (.b (.l (xs.map out))) e) : KComp g tTrue m vs Q (xs.map inn) e :=
  comp_all inn xs (fun don acc e' => acc = don.map out ∧ e' = e) ⟨rfl, rfl⟩ hl (fun don x rest hx acc e' ⟨h1, h2⟩ => by
    subst h2
    obtain ⟨e1, q1, q2⟩ := hs x (by rw [hx]; simp)
    refine ⟨e1, q1, w_imp q2 fun r e3 ⟨u, e4, z1, z2, z3⟩ => ⟨u, e4, z1, ?_, z3⟩⟩
    rw [h1, z2, List.map_append]; rfl) fun acc e' ⟨h1, h2⟩ => by rw [h1, h2]; exact q
/-! ### whiles -/
/-! ### operations -/
theorem gMul_ok {i j : Int} (h : mulOk i j = true) : gMul (.int i) (.int j) = some (.r (.int (i * j))) := by simp only [gMul, h, if_true]
theorem gMod_ok {i j : Int} (h : 0 < j) : gMod (.int i) (.int j) = some (.r (.int (i % j))) := by unfold gMod gII; simp only [h, decide_true, if_true]
theorem gDiv_ok {i j : Int} (h : 0 < j) (h2 : j.natAbs.log2 < 9000) : gDiv (.int i) (.int j) = some (.r (.int (i / j))) := by unfold gDiv gII; simp only [h, h2, and_self, decide_true, if_true]
theorem gIx_l {ts : List T} {k : Nat} {x : T} (h : ts[k]? = some x) : gIx (.list ts) (.int (k : Int)) = some (.r x) := by
  have := (List.getElem?_eq_some_iff.mp h)
  unfold gIx L2.atI
  simp [ixN_nat this.1, h]
theorem gIx_t {ts : List T} {k : Nat} {x : T} (h : ts[k]? = some x) : gIx (.tuple ts) (.int (k : Int)) = some (.r x) := by
  have := (List.getElem?_eq_some_iff.mp h)
  unfold gIx L2.atI
  simp [ixN_nat this.1, h]
theorem gAdd_tt {xs ys : List T} (h : xs.length + ys.length ≤ sizeLine) : gAdd (.tuple xs) (.tuple ys) = some (.r (.tuple (xs ++ ys))) := by simp only [gAdd, h, if_true]
theorem gAdd_ll {xs ys : List T} (h : xs.length + ys.length ≤ sizeLine) : gAdd (.list xs) (.list ys) = some (.b (.l (xs ++ ys))) := by simp only [gAdd, h, if_true]
theorem gEq_i (k : Bool → Bool) (i j : Int) : gEq k (.int i) (.int j) = some (.r (.bool (k (decide (i = j))))) := rfl
theorem gEq_n (i j : Int) : gEq not (.int i) (.int j) = some (.r (.bool (decide (i ≠ j)))) := by
  show some (Od.r (.bool (!decide (i = j)))) = _
  congr 3
  by_cases h : i = j <;> simp [h]
theorem gEq_e (i j : Int) : gEq id (.int i) (.int j) = some (.r (.bool (decide (i = j)))) := rfl
theorem gAll_b (bs : List Bool) : gAll [.list (bs.map .bool)] = some (.r (.bool (bs.all id))) := gAll_bools bs
/-! ### repeating, slices again -/
def KRep1 (mb : SemE) (Q : Od → En → Prop) : Od → En → Prop := fun ra e1 => W (mb e1) fun rb e2 => ∃ (us : List T) (n : Nat), ra = .b (.l us) ∧ rb.val e2 = some (.int (n : Int)) ∧ (n ≤ 65536 ∧ us.length ≤ 16) ∧ Q (.b (.l (List.replicate n us).flatten)) e2
def KRep2 (ra : Od) (Q : Od → En → Prop) : Od → En → Prop := fun rb e2 => ∃ (us : List T) (n : Nat), ra = .b (.l us) ∧ rb.val e2 = some (.int (n : Int)) ∧ (n ≤ 65536 ∧ us.length ≤ 16) ∧ Q (.b (.l (List.replicate n us).flatten)) e2
theorem w_rep {ma mb : SemE} {Q : Od → En → Prop} {e : En} (h : W (ma e) (KRep1 mb Q)) : W (eRep ma mb e) Q :=
  w_bind (w_imp h fun ra e1 h1 => w_bind (w_imp h1 fun rb e2 ⟨us, n, q1, q2, ⟨q3, q4⟩, q⟩ => by
    subst q1
    simp only [q2]
    rw [if_pos ⟨by omega, by omega, q4⟩, Int.toNat_natCast]
    exact ⟨_, _, rfl, q⟩))
theorem krep1 {mb : SemE} {Q : Od → En → Prop} {ra : Od} {e1 : En} (h : W (mb e1) (KRep2 ra Q)) : KRep1 mb Q ra e1 := h
theorem krep2 {us : List T} {Q : Od → En → Prop} {rb : Od} {e2 : En} (n : Nat) (h1 : rb.val e2 = some (.int (n : Int))) (h2 : n ≤ 65536) (h3 : us.length ≤ 16) (q : Q (.b (.l (List.replicate n us).flatten)) e2) : KRep2 (.b (.l us)) Q rb e2 := ⟨us, n, rfl, h1, ⟨h2, h3⟩, q⟩
def KSl2 (r : Od) (l : Option Int) (Q : Od → En → Prop) : Option Int → En → Prop := fun h e3 => (∃ ts, r.val e3 = some (.list ts) ∧ Q (.b (.l (cutT ts l h))) e3) ∨ (∃ ts, r.val e3 = some (.tuple ts) ∧ Q (.r (.tuple (cutT ts l h))) e3)
def KSl1 (hi : SemP) (r : Od) (Q : Od → En → Prop) : Option Int → En → Prop := fun l e2 => W (hi e2) (KSl2 r l Q)
theorem ksl_ {lo hi : SemP} {Q : Od → En → Prop} {r : Od} {e1 : En} (h : W (lo e1) (KSl1 hi r Q)) : KSl lo hi Q r e1 := h
theorem ksl1 {hi : SemP} {Q : Od → En → Prop} {r : Od} {l : Option Int} {e2 : En} (h : W (hi e2) (KSl2 r l Q)) : KSl1 hi r Q l e2 := h
theorem ksl2_l {Q : Od → En → Prop} {r : Od} {l h : Option Int} {e3 : En} {ts : List T} (h1 : r.val e3 = some (.list ts)) (q : Q (.b (.l (cutT ts l h))) e3) : KSl2 r l Q h e3 := .inl ⟨ts, h1, q⟩
theorem ksl2_t {Q : Od → En → Prop} {r : Od} {l h : Option Int} {e3 : En} {ts : List T} (h1 : r.val e3 = some (.tuple ts)) (q : Q (.r (.tuple (cutT ts l h))) e3) : KSl2 r l Q h e3 := .inr ⟨ts, h1, q⟩
/-! ### index -/
def KIndex2 (r : Od) (Q : Od → En → Prop) : List Od → En → Prop := fun rs e2 => ∃ ts u j, r.val e2 = some (.list ts) ∧ vals e2 rs = some [u] ∧ SeqAt.shaped (.list ts) = true ∧ SeqAt.shaped u = true ∧ findT ts u = some j ∧ Q (.r (.int (j : Nat))) e2
theorem kindex1_ {ma : SemA} {Q : Od → En → Prop} {r : Od} {e1 : En} {ts0 : List T} (h0 : r.val e1 = some (.list ts0)) (h : W (ma e1) (KIndex2 r Q)) : KIndex1 ma Q r e1 := ⟨ts0, h0, h⟩
/-! ### dicts whose keys are tuples -/
def KMGet (i : Nat) (Q : Od → En → Prop) : Od → En → Prop := fun r e1 => ∃ t l kvs kk u, r.val e1 = some t ∧ e1[i]? = some (.ow l (.m kvs)) ∧ keyM t = some kk ∧ mLook kvs t = some u ∧ Q (.r u) e1
theorem w_mget {i : Nat} {mk : SemE} {Q : Od → En → Prop} {e : En} {l : Bool} {kvs : List (T × T)} (hi : e[i]? = some (.ow l (.m kvs))) (h : W (mk e) (KMGet i Q)) : W (eMGet i mk e) Q := by
  unfold eMGet
  simp only [hi]
  exact w_bind (w_imp h fun r e1 ⟨t, l, kvs, kk, u, q1, q2, q3, q4, q⟩ => ⟨_, _, by simp only [q1, q2, q3, q4], q⟩)
theorem kmget {i : Nat} {Q : Od → En → Prop} {r : Od} {e1 : En} {t : T} {l : Bool} {kvs : List (T × T)} {kk : List L2.Key} {u : T} (q1 : r.val e1 = some t) (q2 : e1[i]? = some (.ow l (.m kvs))) (q3 : keyM t = some kk) (q4 : mLook kvs t = some u) (q : Q (.r u) e1) : KMGet i Q r e1 := ⟨t, l, kvs, kk, u, q1, q2, q3, q4, q⟩
def KMIn (neg : Bool) (i : Nat) (Q : Od → En → Prop) : Od → En → Prop := fun r e1 => ∃ t l kvs kk c, r.val e1 = some t ∧ e1[i]? = some (.ow l (.m kvs)) ∧ keyM t = some kk ∧ (mLook kvs t).isSome = c ∧ Q (.r (.bool (if neg then !c else c))) e1
theorem w_min {neg : Bool} {i : Nat} {mk : SemE} {Q : Od → En → Prop} {e : En} (h : W (mk e) (KMIn neg i Q)) : W (eMIn neg i mk e) Q :=
  w_bind (w_imp h fun r e1 ⟨t, l, kvs, kk, c, q1, q2, q3, q4, q⟩ => ⟨_, _, by simp only [q1, q2, q3, q4], q⟩)
theorem kmin {neg : Bool} {i : Nat} {Q : Od → En → Prop} {r : Od} {e1 : En} {t : T} {l : Bool} {kvs : List (T × T)} {kk : List L2.Key} {c : Bool} (q1 : r.val e1 = some t) (q2 : e1[i]? = some (.ow l (.m kvs))) (q3 : keyM t = some kk) (q4 : (mLook kvs t).isSome = c) (q : Q (.r (.bool (if neg then !c else c))) e1) : KMIn neg i Q r e1 := ⟨t, l, kvs, kk, c, q1, q2, q3, q4, q⟩
def KMPut2 (i : Nat) (r : Od) (Q : Fl → En → Prop) : Od → En → Prop := fun rk e2 => ∃ t u e3 l kvs kk, rk.val e2 = some t ∧ esc r e2 = some (u, e3) ∧ e3[i]? = some (.ow l (.m kvs)) ∧ keyM t = some kk ∧ kvs.length < sizeLine ∧ Q .nx (e3.set i (.ow l (.m (mPut kvs t u))))
def KMPut1 (i : Nat) (mk : SemE) (Q : Fl → En → Prop) : Od → En → Prop := fun r e1 => ∃ l kvs, e1[i]? = some (.ow l (.m kvs)) ∧ W (mk e1) (KMPut2 i r Q)
theorem w_mput {i : Nat} {mk mv : SemE} {Q : Fl → En → Prop} {e : En} (h : W (mv e) (KMPut1 i mk Q)) : W (sMPut i mk mv e) Q := by
  refine w_bind (w_imp h fun r e1 ⟨l, kvs, h1, h2⟩ => ?_)
  simp only [h1]
  exact w_bind (w_imp h2 fun rk e2 ⟨t, u, e3, l, kvs, kk, q1, q2, q3, q4, q5, q⟩ => ⟨_, _, by simp only [q1, q2, q3, q4]; rw [if_pos q5], q⟩)
theorem kmput1 {i : Nat} {mk : SemE} {Q : Fl → En → Prop} {r : Od} {e1 : En} {l : Bool} {kvs : List (T × T)} (h1 : e1[i]? = some (.ow l (.m kvs))) (h : W (mk e1) (KMPut2 i r Q)) : KMPut1 i mk Q r e1 := ⟨l, kvs, h1, h⟩
theorem kmput2 {i : Nat} {r : Od} {Q : Fl → En → Prop} {rk : Od} {e2 e3 : En} {t u : T} {l : Bool} {kvs : List (T × T)} {kk : List L2.Key} (q1 : rk.val e2 = some t) (q2 : esc r e2 = some (u, e3)) (q3 : e3[i]? = some (.ow l (.m kvs))) (q4 : keyM t = some kk) (q5 : kvs.length < sizeLine) (q : Q .nx (e3.set i (.ow l (.m (mPut kvs t u))))) : KMPut2 i r Q rk e2 := ⟨t, u, e3, l, kvs, kk, q1, q2, q3, q4, q5, q⟩
theorem w_mnew {Q : Od → En → Prop} {e : En} (q : Q (.b (.m [])) e) : W (eMNew e) Q := ⟨_, _, rfl, q⟩
def KMD2 (rk : Od) (Q : Od → En → Prop) : Od → En → Prop := fun rv e2 => ∃ t u kk, rk.val e2 = some t ∧ rv = .r u ∧ keyM t = some kk ∧ Q (.b (.m [(t, u)])) e2
def KMD1 (mv : SemE) (Q : Od → En → Prop) : Od → En → Prop := fun rk e1 => W (mv e1) (KMD2 rk Q)
theorem w_mdict1 {mk mv : SemE} {Q : Od → En → Prop} {e : En} (h : W (mk e) (KMD1 mv Q)) : W (eMDict1 mk mv e) Q :=
  w_bind (w_imp h fun rk e1 h1 => w_bind (w_imp h1 fun rv e2 ⟨t, u, kk, q1, q2, q3, q⟩ => by subst q2; exact ⟨_, _, by simp only [q1, q3], q⟩))
theorem kmd1 {mv : SemE} {Q : Od → En → Prop} {rk : Od} {e1 : En} (h : W (mv e1) (KMD2 rk Q)) : KMD1 mv Q rk e1 := h
theorem kmd2 {rk : Od} {Q : Od → En → Prop} {u : T} {e2 : En} {t : T} {kk : List L2.Key} (q1 : rk.val e2 = some t) (q3 : keyM t = some kk) (q : Q (.b (.m [(t, u)])) e2) : KMD2 rk Q (.r u) e2 := ⟨t, u, kk, q1, rfl, q3, q⟩
/-! ### dicts whose keys are ints -/
def KDGet (i : Nat) (Q : Od → En → Prop) : Od → En → Prop := fun r e1 => ∃ t l kvs kk u, r.val e1 = some t ∧ e1[i]? = some (.ow l (.d kvs)) ∧ keyOf t = some kk ∧ dLook kvs t = some u ∧ Q (.r u) e1
theorem w_dget {i : Nat} {mk : SemE} {Q : Od → En → Prop} {e : En} {l : Bool} {kvs : List (T × T)} (hi : e[i]? = some (.ow l (.d kvs))) (h : W (mk e) (KDGet i Q)) : W (eDGet i mk e) Q := by
  unfold eDGet
  simp only [hi]
  exact w_bind (w_imp h fun r e1 ⟨t, l, kvs, kk, u, q1, q2, q3, q4, q⟩ => ⟨_, _, by simp only [q1, q2, q3, q4], q⟩)
theorem kdget {i : Nat} {Q : Od → En → Prop} {r : Od} {e1 : En} {t : T} {l : Bool} {kvs : List (T × T)} {kk : L2.Key} {u : T} (q1 : r.val e1 = some t) (q2 : e1[i]? = some (.ow l (.d kvs))) (q3 : keyOf t = some kk) (q4 : dLook kvs t = some u) (q : Q (.r u) e1) : KDGet i Q r e1 := ⟨t, l, kvs, kk, u, q1, q2, q3, q4, q⟩
def KDPut2 (i : Nat) (r : Od) (Q : Fl → En → Prop) : Od → En → Prop := fun rk e2 => ∃ t u e3 l kvs kk, rk.val e2 = some t ∧ esc r e2 = some (u, e3) ∧ e3[i]? = some (.ow l (.d kvs)) ∧ keyOf t = some kk ∧ kvs.length < sizeLine ∧ Q .nx (e3.set i (.ow l (.d (dPut kvs t u))))
def KDPut1 (i : Nat) (mk : SemE) (Q : Fl → En → Prop) : Od → En → Prop := fun r e1 => ∃ l kvs, e1[i]? = some (.ow l (.d kvs)) ∧ W (mk e1) (KDPut2 i r Q)
theorem w_dput {i : Nat} {mk mv : SemE} {Q : Fl → En → Prop} {e : En} (h : W (mv e) (KDPut1 i mk Q)) : W (sDPutV i mk mv e) Q := by
  refine w_bind (w_imp h fun r e1 ⟨l, kvs, h1, h2⟩ => ?_)
  simp only [h1]
  exact w_bind (w_imp h2 fun rk e2 ⟨t, u, e3, l, kvs, kk, q1, q2, q3, q4, q5, q⟩ => ⟨_, _, by simp only [q1, q2, q3, q4]; rw [if_pos q5], q⟩)
theorem kdput1 {i : Nat} {mk : SemE} {Q : Fl → En → Prop} {r : Od} {e1 : En} {l : Bool} {kvs : List (T × T)} (h1 : e1[i]? = some (.ow l (.d kvs))) (h : W (mk e1) (KDPut2 i r Q)) : KDPut1 i mk Q r e1 := ⟨l, kvs, h1, h⟩
theorem kdput2 {i : Nat} {r : Od} {Q : Fl → En → Prop} {rk : Od} {e2 e3 : En} {t u : T} {l : Bool} {kvs : List (T × T)} {kk : L2.Key} (q1 : rk.val e2 = some t) (q2 : esc r e2 = some (u, e3)) (q3 : e3[i]? = some (.ow l (.d kvs))) (q4 : keyOf t = some kk) (q5 : kvs.length < sizeLine) (q : Q .nx (e3.set i (.ow l (.d (dPut kvs t u))))) : KDPut2 i r Q rk e2 := ⟨t, u, e3, l, kvs, kk, q1, q2, q3, q4, q5, q⟩
theorem w_eq {α : Type} {o : Out α} {a : α} {b : En} (h : W o fun r e => r = a ∧ e = b) : o = .ok a b := by
  obtain ⟨r, e, h, rfl, rfl⟩ := h
  exact h
/-! ### dict(xs), xs[i], xs[j] = v, w -/
def KDictP (Q : Od → En → Prop) : List Od → En → Prop := fun rs e1 => ∃ ts e2 kvs, escs rs e1 = some ([.list ts], e2) ∧ pairsOf ts = some kvs ∧ Q (.b (.d (mergeT [] kvs))) e2
theorem w_dictp {m : SemA} {Q : Od → En → Prop} {e : En} (h : W (m e) (KDictP Q)) : W (eDictP m e) Q :=
  w_bind (w_imp h fun rs e1 ⟨ts, e2, kvs, h1, h2, q⟩ => ⟨_, _, by simp only [h1, h2], q⟩)
theorem kdictp {Q : Od → En → Prop} {rs : List Od} {e1 e2 : En} {ts : List T} {kvs : List (T × T)} (h1 : escs rs e1 = some ([.list ts], e2)) (h2 : pairsOf ts = some kvs) (q : Q (.b (.d (mergeT [] kvs))) e2) : KDictP Q rs e1 := ⟨ts, e2, kvs, h1, h2, q⟩
def KPutS (tgs : List (Nat × SemE)) (Q : Fl → En → Prop) : List Od → En → Prop := fun rs e1 => ∃ ts e2, escs rs e1 = some (ts, e2) ∧ (ts.length = tgs.length ∧ ts.length ≤ sizeLine) ∧ W (putS tgs ts e2) Q
theorem w_putS {tgs : List (Nat × SemE)} {m : SemA} {Q : Fl → En → Prop} {e : En} (h : W (m e) (KPutS tgs Q)) : W (sPutS tgs m e) Q :=
  w_bind (w_imp h fun rs e1 ⟨ts, e2, h1, h2, q⟩ => by simp only [h1]; rw [if_pos h2]; exact q)
theorem kputS {tgs : List (Nat × SemE)} {Q : Fl → En → Prop} {rs : List Od} {e1 e2 : En} {ts : List T} (h1 : escs rs e1 = some (ts, e2)) (h2 : ts.length = tgs.length) (h3 : Nat.ble ts.length 64 = true) (q : W (putS tgs ts e2) Q) : KPutS tgs Q rs e1 := ⟨ts, e2, h1, ⟨h2, Nat.le_trans (Nat.le_of_ble_eq_true h3) (by unfold sizeLine; omega)⟩, q⟩
theorem putS_nil {Q : Fl → En → Prop} {e : En} (q : Q .nx e) : W (putS [] [] e) Q := ⟨_, _, by unfold putS; rfl, q⟩
def KPutL (i : Nat) (t : T) (tgs : List (Nat × SemE)) (ts : List T) (Q : Fl → En → Prop) : Od → En → Prop := fun ri e2 => ∃ k l us j, ri.val e2 = some (.int k) ∧ e2[i]? = some (.ow l (.l us)) ∧ L2.ixN us.length k = some j ∧ W (putS tgs ts (e2.set i (.ow l (.l (us.set j t))))) Q
theorem putS_l {i : Nat} {mk : SemE} {tgs : List (Nat × SemE)} {t : T} {ts : List T} {Q : Fl → En → Prop} {e : En} {l : Bool} {us : List T} (hi : e[i]? = some (.ow l (.l us))) (h : W (mk e) (KPutL i t tgs ts Q)) : W (putS ((i, mk) :: tgs) (t :: ts) e) Q := by
  unfold putS
  simp only [hi]
  exact w_bind (w_imp h fun ri e2 ⟨k, l, us, j, q1, q2, q3, q⟩ => by simp only [q1, q2, q3]; exact q)
theorem kputL {i : Nat} {t : T} {tgs : List (Nat × SemE)} {ts : List T} {Q : Fl → En → Prop} {ri : Od} {e2 : En} {k : Int} {l : Bool} {us : List T} {j : Nat} (q1 : ri.val e2 = some (.int k)) (q2 : e2[i]? = some (.ow l (.l us))) (q3 : L2.ixN us.length k = some j) (q : W (putS tgs ts (e2.set i (.ow l (.l (us.set j t))))) Q) : KPutL i t tgs ts Q ri e2 := ⟨k, l, us, j, q1, q2, q3, q⟩
def KPutD (i : Nat) (t : T) (tgs : List (Nat × SemE)) (ts : List T) (Q : Fl → En → Prop) : Od → En → Prop := fun ri e2 => ∃ u l kvs kk, ri.val e2 = some u ∧ e2[i]? = some (.ow l (.d kvs)) ∧ keyOf u = some kk ∧ kvs.length < sizeLine ∧ W (putS tgs ts (e2.set i (.ow l (.d (dPut kvs u t))))) Q
theorem putS_d {i : Nat} {mk : SemE} {tgs : List (Nat × SemE)} {t : T} {ts : List T} {Q : Fl → En → Prop} {e : En} {l : Bool} {kvs : List (T × T)} (hi : e[i]? = some (.ow l (.d kvs))) (h : W (mk e) (KPutD i t tgs ts Q)) : W (putS ((i, mk) :: tgs) (t :: ts) e) Q := by
  unfold putS
  simp only [hi]
  exact w_bind (w_imp h fun ri e2 ⟨u, l, kvs, kk, q1, q2, q3, q4, q⟩ => by simp only [q1, q2, q3]; rw [if_pos q4]; exact q)
theorem kputD {i : Nat} {t : T} {tgs : List (Nat × SemE)} {ts : List T} {Q : Fl → En → Prop} {ri : Od} {e2 : En} {u : T} {l : Bool} {kvs : List (T × T)} {kk : L2.Key} (q1 : ri.val e2 = some u) (q2 : e2[i]? = some (.ow l (.d kvs))) (q3 : keyOf u = some kk) (q4 : kvs.length < sizeLine) (q : W (putS tgs ts (e2.set i (.ow l (.d (dPut kvs u t))))) Q) : KPutD i t tgs ts Q ri e2 := ⟨u, l, kvs, kk, q1, q2, q3, q4, q⟩
/-! ### range from, zip, enumerate, max -/
def KR2w (Q : List T → En → Prop) : List Od → En → Prop := fun rs e => ∃ i j : Int, vals e rs = some [.int i, .int j] ∧ Q (above i (j - i).toNat) e
theorem w_r2w {m : SemA} {Q : List T → En → Prop} {e : En} (h : W (m e) (KR2w Q)) : W (iR2w m e) Q := w_bind (w_imp h fun rs e1 ⟨i, j, h1, q⟩ => ⟨_, _, by simp only [h1]; rfl, q⟩)
theorem kr2w {Q : List T → En → Prop} {rs : List Od} {e : En} {i j : Int} (h1 : vals e rs = some [.int i, .int j]) (q : Q (above i (j - i).toNat) e) : KR2w Q rs e := ⟨i, j, h1, q⟩
theorem kzip {Q : List T → En → Prop} {rs : List Od} {e e2 : En} {ts us : List T} (h1 : escs rs e = some ([.list ts, .list us], e2)) (q : Q (pairs ts us) e2) : KZip Q rs e := ⟨ts, us, e2, h1, q⟩
theorem kenu {Q : List T → En → Prop} {rs : List Od} {e e2 : En} {ts : List T} (h1 : escs rs e = some ([.list ts], e2)) (q : Q (enumT ts) e2) : KEnu Q rs e := ⟨ts, e2, h1, q⟩
/-! ### the same, the state written out -/
theorem kseq_nx_n {b : SemS} {Q : Fl → En → Prop} {e e2 : En} (he : e2 = e) (h : W (b e2) Q) : KSeq b Q .nx e := by subst he; exact h
theorem kback_r_n {rs : List Od} {e1 e2 : En} {Q : Od → En → Prop} {t : T} {ss' : En} (he : e2 = wb rs ss' e1) (q : Q (.r t) e2) : KBack rs e1 Q (.r t) ss' := by subst he; exact ⟨fun _ z => (by cases z), q⟩
theorem kback_b_n {rs : List Od} {e1 e2 : En} {Q : Od → En → Prop} {z : Bx} {ss' : En} (he : e2 = wb rs ss' e1) (q : Q (.b z) e2) : KBack rs e1 Q (.b z) ss' := by subst he; exact ⟨fun _ z => (by cases z), q⟩
def KZip2 (Q : List T → En → Prop) : List Od → En → Prop := fun rs e => ∃ ts us e2, (escs rs e = some ([.list ts, .list us], e2) ∨ escs rs e = some ([.tuple ts, .tuple us], e2)) ∧ Q (pairs ts us) e2
theorem w_izip2 {m : SemA} {Q : List T → En → Prop} {e : En} (h : W (m e) (KZip2 Q)) : W (iZip2 m e) Q := w_bind (w_imp h fun rs e1 ⟨ts, us, e2, h1, q⟩ => by
  rcases h1 with h1 | h1 <;> exact ⟨_, _, by simp only [h1], q⟩)
theorem kzip2_l {Q : List T → En → Prop} {rs : List Od} {e e2 : En} {ts us : List T} (h1 : escs rs e = some ([.list ts, .list us], e2)) (q : Q (pairs ts us) e2) : KZip2 Q rs e := ⟨ts, us, e2, .inl h1, q⟩
theorem kzip2_t {Q : List T → En → Prop} {rs : List Od} {e e2 : En} {ts us : List T} (h1 : escs rs e = some ([.tuple ts, .tuple us], e2)) (q : Q (pairs ts us) e2) : KZip2 Q rs e := ⟨ts, us, e2, .inr h1, q⟩
/-! ### a walk over two names -/
def KCompG (g : SemG) (c : SemT) (m : SemE) (vs : List Nat) (Q : Od → En → Prop) : List T × (En → Prop) → En → Prop := fun p e => W (compSG p.2 g c m vs p.1 [] e) Q
theorem w_compG {mi : SemIG} {g : SemG} {c : SemT} {m : SemE} {vs : List Nat} {Q : Od → En → Prop} {e : En} (h : W (mi e) (KCompG g c m vs Q)) : W (eCompG mi g c m vs e) Q := w_bind h
theorem w_izipV_l {i j : Nat} {e : En} {Q : List T × (En → Prop) → En → Prop} {si sj : Sl} {ts us : List T} (h1 : e[i]? = some si) (h2 : e[j]? = some sj) (h3 : seqOf si = some (.inl ts)) (h4 : seqOf sj = some (.inl us)) (q : Q (pairs ts us, fun e' => e'[i]? = some si ∧ e'[j]? = some sj) e) : W (iZipV i j e) Q :=
  ⟨_, _, by unfold iZipV; simp only [h1, h2, h3, h4], q⟩
theorem w_izipV_r {i j : Nat} {e : En} {Q : List T × (En → Prop) → En → Prop} {si sj : Sl} {ts us : List T} (h1 : e[i]? = some si) (h2 : e[j]? = some sj) (h3 : seqOf si = some (.inr ts)) (h4 : seqOf sj = some (.inr us)) (q : Q (pairs ts us, fun e' => e'[i]? = some si ∧ e'[j]? = some sj) e) : W (iZipV i j e) Q :=
  ⟨_, _, by unfold iZipV; simp only [h1, h2, h3, h4], q⟩
theorem compSG_map {α : Type} (inn out : α → T) {gd : En → Prop} {g : SemG} {m : SemE} {vs : List Nat} {e : En} (hgd : gd e) : ∀ (xs : List α) (acc : List T), acc.length + xs.length ≤ sizeLine →
    (∀ x ∈ xs, ∃ e1, g (inn x) (wipeE e vs) = some e1 ∧ W (m e1) (KElt fun u e4 => u = out x ∧ restE e e4 vs = e)) → compSG gd g tTrue m vs (xs.map inn) acc e = .ok (.b (.l (acc ++ xs.map out))) e
  | [], acc, _, _ => by rw [List.map_nil, List.map_nil, List.append_nil]; exact if_pos hgd
  | x :: xs, acc, hl, s => by
    obtain ⟨e1, h1, r, e3, h2, u, e4, h3, h4, h5⟩ := s x List.mem_cons_self
    rw [List.length_cons] at hl
    rw [List.map_cons, compSG, if_pos hgd, h1]
    simp only [h2, h3, Out.nx, Out.bind]
    rw [if_pos trivial, if_pos (by omega), h5, compSG_map inn out hgd xs (acc ++ [u]) (by rw [List.length_append, List.length_singleton]; omega) fun t ht => s t (List.mem_cons_of_mem _ ht), h4, List.map_cons, List.append_assoc]
    rfl
theorem compG_map_w {α : Type} (inn out : α → T) (xs : List α) {gd : En → Prop} {g : SemG} {m : SemE} {vs : List Nat} {Q : Od → En → Prop} {e : En} (hgd : gd e) (hl : xs.length ≤ sizeLine)
    (hs : ∀ x ∈ xs, ∃ e1, g (inn x) (wipeE e vs) = some e1 ∧ W (m e1) (KElt fun u e4 => u = out x ∧ restE e e4 vs = e)) (q : Q (.b (.l (xs.map out))) e) : KCompG g tTrue m vs Q (xs.map inn, gd) e :=
  ⟨_, _, compSG_map inn out hgd xs [] (by rw [List.length_nil]; omega) hs, q⟩
/-! ### texts -/
theorem gStr_ok {i : Int} (h : i.natAbs.log2 < 1920) : gStr [.int i] = some (.r (.str (toString i))) := if_pos h
def KJoin1 (m : SemE) (Q : Od → En → Prop) : Od → En → Prop := fun ro e0 => ∃ sep, ro = .r (.str sep) ∧ W (m e0) fun r e1 => ∃ ts ys, (r.val e1 = some (.list ts) ∨ r.val e1 = some (.tuple ts)) ∧ strsOf ts = some ys ∧ (ys.map (·.length)).sum + ys.length * sep.length ≤ 16777216 ∧ Q (.r (.str (Txt.join sep ys))) e1
def KJoin2 (sep : Str) (Q : Od → En → Prop) : Od → En → Prop := fun r e1 => ∃ ts ys, (r.val e1 = some (.list ts) ∨ r.val e1 = some (.tuple ts)) ∧ strsOf ts = some ys ∧ (ys.map (·.length)).sum + ys.length * sep.length ≤ 16777216 ∧ Q (.r (.str (Txt.join sep ys))) e1
theorem w_join {mo m : SemE} {Q : Od → En → Prop} {e : En} (h : W (mo e) (KJoin1 m Q)) : W (eJoin mo m e) Q :=
  w_bind (w_imp h fun ro e0 ⟨sep, h0, h1⟩ => by
    subst h0
    exact w_bind (w_imp h1 fun r e1 ⟨ts, ys, q1, q2, q3, q⟩ => by
      rcases q1 with q1 | q1 <;> exact ⟨_, _, by simp only [q1, q2]; rw [if_pos q3], q⟩))
theorem kjoin1 {m : SemE} {Q : Od → En → Prop} {sep : Str} {e0 : En} (h : W (m e0) (KJoin2 sep Q)) : KJoin1 m Q (.r (.str sep)) e0 := ⟨sep, rfl, h⟩
theorem kjoin2 {sep : Str} {Q : Od → En → Prop} {r : Od} {e1 : En} {ts : List T} {ys : List Str} (q1 : r.val e1 = some (.list ts)) (q2 : strsOf ts = some ys) (q3 : (ys.map (·.length)).sum + ys.length * sep.length ≤ 16777216) (q : Q (.r (.str (Txt.join sep ys))) e1) : KJoin2 sep Q r e1 := ⟨ts, ys, .inl q1, q2, q3, q⟩
def KFmt (Q : Od → En → Prop) : Od → En → Prop := fun r e1 => (∃ y, r.val e1 = some (.str y) ∧ y.length ≤ sizeLine ∧ Q (.r (.str y)) e1) ∨ ∃ i, r.val e1 = some (.int i) ∧ i.natAbs.log2 < 1920 ∧ Q (.r (.str (toString i))) e1
theorem w_fmt {m : SemE} {Q : Od → En → Prop} {e : En} (h : W (m e) (KFmt Q)) : W (eFmt m e) Q :=
  w_bind (w_imp h fun r e1 h1 => by
    rcases h1 with ⟨y, q1, q2, q⟩ | ⟨i, q1, q2, q⟩
    · exact ⟨_, _, by simp only [q1]; rw [if_pos q2], q⟩
    · exact ⟨_, _, by simp only [q1]; rw [if_pos q2], q⟩)
theorem kfmt_s {Q : Od → En → Prop} {r : Od} {e1 : En} {y : Str} (q1 : r.val e1 = some (.str y)) (q2 : y.length ≤ sizeLine) (q : Q (.r (.str y)) e1) : KFmt Q r e1 := .inl ⟨y, q1, q2, q⟩
theorem kfmt_i {Q : Od → En → Prop} {r : Od} {e1 : En} {i : Int} (q1 : r.val e1 = some (.int i)) (q2 : i.natAbs.log2 < 1920) (q : Q (.r (.str (toString i))) e1) : KFmt Q r e1 := .inr ⟨i, q1, q2, q⟩
theorem w_js_nil {acc : Str} {Q : Od → En → Prop} {e : En} (q : Q (.r (.str acc)) e) : W (eJs [] acc e) Q := ⟨_, _, rfl, q⟩
def KJs (ms : List SemE) (acc : Str) (Q : Od → En → Prop) : Od → En → Prop := fun r e1 => ∃ y, r = .r (.str y) ∧ (acc ++ y).length ≤ sizeLine ∧ W (eJs ms (acc ++ y) e1) Q
theorem w_js {m : SemE} {ms : List SemE} {acc : Str} {Q : Od → En → Prop} {e : En} (h : W (m e) (KJs ms acc Q)) : W (eJs (m :: ms) acc e) Q :=
  w_bind (w_imp h fun r e1 ⟨y, q1, q2, q⟩ => by subst q1; simp only []; rw [if_pos q2]; exact q)
theorem kjs {ms : List SemE} {acc y : Str} {Q : Od → En → Prop} {e1 : En} (q2 : (acc ++ y).length ≤ sizeLine) (q : W (eJs ms (acc ++ y) e1) Q) : KJs ms acc Q (.r (.str y)) e1 := ⟨y, rfl, q2, q⟩
theorem gAdd_ss {x y : Str} (h : x.length + y.length ≤ sizeLine) : gAdd (.str x) (.str y) = some (.r (.str (x ++ y))) := by simp only [gAdd, h, if_true]
theorem w_inmG {i : Nat} {e : En} {Q : List T × (En → Prop) → En → Prop} {si : Sl} {ts : List T} (h1 : e[i]? = some si) (h3 : seqOf si = some (.inl ts)) (q : Q (ts, fun e' => e'[i]? = some si) e) : W (iNmG i e) Q :=
  ⟨_, _, by unfold iNmG; simp only [h1, h3], q⟩
end Wp

set_option Elab.async false
set_option linter.all false
namespace Wp
open PySem PySem.Spec PyProof.Rows L2 Ev
/-! ### texts -/
end Wp

set_option Elab.async false
set_option linter.all false
namespace Wp
open PySem PySem.Spec PyProof.Rows L2 Ev
/-! ### signs of texts -/
/-! ### replace -/
/-! ### what raises -/
def Wx {α : Type} (o : Out α) (c : Str) (t : T) (Q : En → Prop) : Prop := ∃ e, o = .exc c t e ∧ Q e
section
variable {α β : Type} {c : Str} {t : T} {Q : En → Prop} {e : En}
theorem wx_imp {o : Out α} {P : En → Prop} (h : Wx o c t P) (q : ∀ e, P e → Q e) : Wx o c t Q := by
  obtain ⟨e, h1, h2⟩ := h
  exact ⟨e, h1, q e h2⟩
theorem wx_bind1 {o : Out α} {f : α → En → Out β} (h : Wx o c t Q) : Wx (o.bind f) c t Q := by
  obtain ⟨e, h1, h2⟩ := h
  exact ⟨e, by rw [h1]; rfl, h2⟩
theorem wx_bind2 {o : Out α} {f : α → En → Out β} (h : W o fun a e => Wx (f a e) c t Q) : Wx (o.bind f) c t Q := by
  obtain ⟨a, e1, h1, e2, h2, h3⟩ := h
  exact ⟨e2, by rw [h1]; exact h2, h3⟩
theorem wx_seq1 {a b : SemS} (h : Wx (a e) c t Q) : Wx (sSeq a b e) c t Q := by
  obtain ⟨e1, h1, h2⟩ := h
  exact ⟨e1, by unfold sSeq; rw [h1], h2⟩
def XSeq (b : SemS) (c : Str) (t : T) (Q : En → Prop) : Fl → En → Prop := fun fl e1 => fl = .nx ∧ Wx (b e1) c t Q
theorem wx_seq2 {a b : SemS} (h : W (a e) (XSeq b c t Q)) : Wx (sSeq a b e) c t Q := by
  obtain ⟨_, e1, h1, rfl, e2, h2, h3⟩ := h
  exact ⟨e2, by unfold sSeq; rw [h1]; exact h2, h3⟩
theorem wx_if_t {ct : SemT} {m1 m2 : SemS} (h : W (ct e) fun k e1 => k = true ∧ Wx (m1 e1) c t Q) : Wx (sIf ct m1 m2 e) c t Q := by
  obtain ⟨k, e1, h1, rfl, e2, h2, h3⟩ := h
  exact ⟨e2, by unfold sIf; rw [h1]; exact h2, h3⟩
theorem wx_if_f {ct : SemT} {m1 m2 : SemS} (h : W (ct e) fun k e1 => k = false ∧ Wx (m2 e1) c t Q) : Wx (sIf ct m1 m2 e) c t Q := by
  obtain ⟨k, e1, h1, rfl, e2, h2, h3⟩ := h
  exact ⟨e2, by unfold sIf; rw [h1]; exact h2, h3⟩
theorem wx_eif_t {ct : SemT} {m1 m2 : SemE} (h : W (ct e) fun k e1 => k = true ∧ Wx (m1 e1) c t Q) : Wx (eIf ct m1 m2 e) c t Q := by
  obtain ⟨k, e1, h1, rfl, e2, h2, h3⟩ := h
  exact ⟨e2, by unfold eIf; rw [h1]; exact h2, h3⟩
theorem wx_eif_f {ct : SemT} {m1 m2 : SemE} (h : W (ct e) fun k e1 => k = false ∧ Wx (m2 e1) c t Q) : Wx (eIf ct m1 m2 e) c t Q := by
  obtain ⟨k, e1, h1, rfl, e2, h2, h3⟩ := h
  exact ⟨e2, by unfold eIf; rw [h1]; exact h2, h3⟩
theorem wx_set {i : Nat} {m : SemE} (h : Wx (m e) c t Q) : Wx (sSet i m e) c t Q := wx_bind1 h
theorem wx_raise {me : SemE} (h : W (me e) fun r e1 => r = .r t ∧ Q e1) : Wx (sRaise c me e) c t Q := by
  obtain ⟨_, e1, h1, rfl, h2⟩ := h
  exact ⟨e1, by unfold sRaise; rw [h1]; rfl, h2⟩
theorem wx_callR {m : FSem} {rs : List Od} {e1 : En} {ss : List Sl} (h1 : toSls e1 rs = some ss) (h2 : (sIdx rs).Nodup) (h : Wx (m ss) c t fun ss' => Q (wb rs ss' e1)) : Wx (eCallR m rs e1) c t Q := by
  obtain ⟨ss', h3, q⟩ := h
  unfold eCallR
  simp only [h1, h2, h3, if_true]
  exact ⟨_, rfl, q⟩
def XCall (n : Nat) (m : FSem) (c : Str) (t : T) (Q : En → Prop) : List Od → En → Prop := fun rs e1 => rs.length = n ∧ ∃ ss, toSls e1 rs = some ss ∧ (sIdx rs).Nodup ∧ Wx (m ss) c t fun ss' => Q (wb rs ss' e1)
theorem wx_call {n : Nat} {m : FSem} {ma : SemA} (h : W (ma e) (XCall n m c t Q)) : Wx (eCall n m ma e) c t Q :=
  wx_bind2 (w_imp h fun rs e1 ⟨h1, ss, h2, h3, h4⟩ => by rw [if_pos h1]; exact wx_callR h2 h3 h4)
theorem xcall {n : Nat} {m : FSem} {rs : List Od} {e1 : En} {ss : List Sl} (h1 : rs.length = n) (h2 : toSls e1 rs = some ss) (h3 : (sIdx rs).Nodup) (h : Wx (m ss) c t fun ss' => Q (wb rs ss' e1)) : XCall n m c t Q rs e1 := ⟨h1, ss, h2, h3, h⟩
def XCallK (n : Nat) (perm : List Nat) (m : FSem) (c : Str) (t : T) (Q : En → Prop) : List Od → En → Prop := fun rs e1 => ((pick perm rs).length = n ∧ rs.length = n ∧ perm.Nodup) ∧ ∃ ss, toSls e1 (pick perm rs) = some ss ∧ (sIdx (pick perm rs)).Nodup ∧ Wx (m ss) c t fun ss' => Q (wb (pick perm rs) ss' e1)
theorem wx_callk {n : Nat} {perm : List Nat} {m : FSem} {ma : SemA} (h : W (ma e) (XCallK n perm m c t Q)) : Wx (eCallK n perm m ma e) c t Q :=
  wx_bind2 (w_imp h fun rs e1 ⟨h1, ss, h2, h3, h4⟩ => by rw [if_pos h1]; exact wx_callR h2 h3 h4)
theorem xcallk {n : Nat} {perm : List Nat} {m : FSem} {rs : List Od} {e1 : En} {ss : List Sl} (h0 : perm.Nodup) (h1 : (pick perm rs).length = n ∧ rs.length = n) (h2 : toSls e1 (pick perm rs) = some ss) (h3 : (sIdx (pick perm rs)).Nodup) (h : Wx (m ss) c t fun ss' => Q (wb (pick perm rs) ss' e1)) : XCallK n perm m c t Q rs e1 := ⟨⟨h1.1, h1.2, h0⟩, ss, h2, h3, h⟩
theorem wx_fun {n : Nat} {b : SemS} {ss : List Sl} {e0 : En} (h0 : ss.all okArg = true) (he : e0 = ss ++ List.replicate (n - ss.length) .un) (h : Wx (b e0) c t fun e' => Q (finE ss e')) : Wx (runFn n b ss) c t Q := by
  obtain ⟨e', h1, q⟩ := h
  unfold runFn
  rw [if_pos h0, ← he, h1]
  exact ⟨_, rfl, q⟩
end
theorem w_try_ok {cs : List Str} {mb : SemS} {hs : Hds} {Q : Fl → En → Prop} {e : En} (h : W (mb e) Q) : W (sTry cs mb hs e) Q := by
  obtain ⟨a, e1, h1, q⟩ := h
  exact ⟨a, e1, by unfold sTry; rw [h1], q⟩
theorem w_try_x {cs : List Str} {mb : SemS} {hs : Hds} {Q : Fl → En → Prop} {e : En} {c : Str} {t : T} (hc : cs.contains c = true) (h : Wx (mb e) c t fun e1 => W (hrun c t e1 hs) Q) : W (sTry cs mb hs e) Q := by
  obtain ⟨e1, h1, q⟩ := h
  unfold sTry
  rw [h1]
  simp only [hc, if_true]
  exact q
end Wp

set_option linter.all false
namespace Mt
abbrev Pt := Int × Int × Nat
def part (ks : List (List Pt)) (k j : Nat) : Pt := (((ks[k]?).getD [])[j]?).getD (0, 0, 0)
structure Good (B : Nat) (ks : List (List Pt)) : Prop where
  hb : B = 2 ∨ B = 3
  pos : 0 < ks.length
  few : ks.length ≤ 20
  len : ∀ ps ∈ ks, ps.length = B * B
  rng : ∀ ps ∈ ks, ∀ p ∈ ps, (0 ≤ p.1 ∧ p.1 < (B : Int)) ∧ (0 ≤ p.2.1 ∧ p.2.1 < (B : Int)) ∧ p.2.2 < ks.length
  nod : ∀ ps ∈ ks, (ps.map fun p => (p.1, p.2.1)).Nodup
theorem Good.row {B : Nat} {ks : List (List Pt)} (g : Good B ks) {k : Nat} (hk : k < ks.length) : ∃ ps, ks[k]? = some ps ∧ ps ∈ ks ∧ ps.length = B * B :=
  ⟨ks[k], List.getElem?_eq_getElem hk, List.getElem_mem hk, g.len _ (List.getElem_mem hk)⟩
theorem Good.at_ {B : Nat} {ks : List (List Pt)} (g : Good B ks) {k j : Nat} (hk : k < ks.length) (hj : j < B * B) : ∃ ps, ks[k]? = some ps ∧ ps[j]? = some (part ks k j) ∧ part ks k j ∈ ps ∧ ps ∈ ks := by
  obtain ⟨ps, h1, h2, h3⟩ := g.row hk
  have h4 : ps[j]? = some (ps[j]'(by omega)) := List.getElem?_eq_getElem (by omega)
  have h5 : part ks k j = ps[j]'(by omega) := by unfold part; rw [h1, Option.getD_some, h4, Option.getD_some]
  exact ⟨ps, h1, by rw [h5]; exact h4, by rw [h5]; exact List.getElem_mem _, h2⟩
theorem Good.prng {B : Nat} {ks : List (List Pt)} (g : Good B ks) {k j : Nat} (hk : k < ks.length) (hj : j < B * B) : (0 ≤ (part ks k j).1 ∧ (part ks k j).1 < (B : Int)) ∧ (0 ≤ (part ks k j).2.1 ∧ (part ks k j).2.1 < (B : Int)) ∧ (part ks k j).2.2 < ks.length := by
  obtain ⟨ps, _, _, h3, h4⟩ := g.at_ hk hj
  exact g.rng ps h4 _ h3
/-- figures, the greatest first -/
def digs (N n : Nat) : Nat → List Nat
  | 0 => []
  | d + 1 => (n / N ^ d % N) :: digs N n d
theorem digs_len (N n : Nat) : ∀ d, (digs N n d).length = d
  | 0 => rfl
  | d + 1 => by rw [digs, List.length_cons, digs_len]
theorem digs_lt {N : Nat} (n : Nat) (h : 0 < N) : ∀ d, ∀ x ∈ digs N n d, x < N
  | 0, x, hx => by cases hx
  | d + 1, x, hx => by
    rw [digs] at hx
    rcases List.mem_cons.mp hx with rfl | hx
    · exact Nat.mod_lt _ h
    · exact digs_lt n h d x hx
abbrev S3 := Nat × Int × Int
def stp (B : Nat) (ks : List (List Pt)) (s : S3) (j : Nat) : S3 := ((part ks s.1 j).2.2, s.2.1 * (B : Int) + (part ks s.1 j).1, s.2.2 * (B : Int) + (part ks s.1 j).2.1)
def run (B : Nat) (ks : List (List Pt)) (s : S3) (ds : List Nat) : S3 := ds.foldl (stp B ks) s
theorem run_cons (B : Nat) (ks : List (List Pt)) (s : S3) (j : Nat) (ds : List Nat) : run B ks s (j :: ds) = run B ks (stp B ks s j) ds := rfl
theorem run_app (B : Nat) (ks : List (List Pt)) (s : S3) (ds es : List Nat) : run B ks s (ds ++ es) = run B ks (run B ks s ds) es := List.foldl_append ..
theorem run_kind {B : Nat} {ks : List (List Pt)} (g : Good B ks) : ∀ (ds : List Nat) (s : S3), s.1 < ks.length → (∀ x ∈ ds, x < B * B) → (run B ks s ds).1 < ks.length
  | [], s, h, _ => h
  | j :: ds, s, h, hd => by
    rw [run_cons]
    exact run_kind g ds _ (g.prng h (hd j List.mem_cons_self)).2.2 fun x hx => hd x (List.mem_cons_of_mem _ hx)
/-- the cell of a number -/
def cellF (B : Nat) (ks : List (List Pt)) (k d n : Nat) : Int × Int := (run B ks (k, 0, 0) (digs (B * B) n d)).2
def mv (B d : Nat) (p : Pt) (c : Int × Int) : Int × Int := (p.1 * (B : Int) ^ d + c.1, p.2.1 * (B : Int) ^ d + c.2)
end Mt

set_option linter.all false
namespace Mt
/-! ### from the cell back to the number -/
/-- a number of figures -/
def num (N : Nat) (ds : List Nat) : Nat := ds.foldl (fun a j => a * N + j) 0
/-! ### a book begun elsewhere -/
end Mt
namespace Mt
end Mt

set_option linter.all false
namespace Mt
/-! ### postures, and backward, at all depths -/
def qz1 (w : Int) (c : Int × Int) : Int × Int := (w - 1 - c.2, c.1)
def qz (w : Int) (way mir : Nat) (c : Int × Int) : Int × Int :=
  let d := (match way with | 0 => c | 1 => qz1 w c | 2 => qz1 w (qz1 w c) | _ => qz1 w (qz1 w (qz1 w c)))
  match mir with | 0 => d | _ => (d.2, d.1)
/-! #### backward -/
end Mt

set_option linter.all false
namespace Mt
/-! ### threads that are the same at all depths -/
theorem Good.B0 {B : Nat} {ks : List (List Pt)} (g : Good B ks) : 0 < B := by rcases g.hb with h | h <;> omega
theorem Good.N0 {B : Nat} {ks : List (List Pt)} (g : Good B ks) : 0 < B * B := Nat.mul_pos g.B0 g.B0
/-! ### postures of a thread -/
def rvn (N b d n : Nat) : Nat := if b = 1 then N ^ d - 1 - n else n
/-- the thread of kind 0 is the same in a posture, gone so -/
def Pos (B : Nat) (ks : List (List Pt)) (p : Nat × Nat) (b : Nat) : Prop := ∀ d n, n < (B * B) ^ d → qz ((B : Int) ^ d) p.1 p.2 (cellF B ks 0 d (rvn (B * B) b d n)) = cellF B ks 0 d n
end Mt

namespace Lw
set_option linter.all false
set_option maxRecDepth 100000
set_option maxHeartbeats 4000000
open PySem PySem.Spec Ev Pu Mt Wp
def isW : T → Bool
  | .int _ => true
  | _ => false
def isC : T → Bool
  | .int i => decide (0 ≤ i)
  | _ => false
def isI (n : Int) : T → Bool
  | .int i => decide (0 ≤ i ∧ i < n)
  | _ => false
theorem is_whole_ok (t : T) : m_is_whole [.v t] = .ok (.r (.bool (isW t))) [.v t] := by
  cases t <;> rfl
theorem is_count_ok (t : T) : m_is_count [.v t] = .ok (.r (.bool (isC t))) [.v t] := by
  cases t with
  | int i => simp only [m_is_count, b_is_count, is_whole_ok, eMLenE, eRep, eDLen, eNNew, eNLen, eListRng, gMax1, gSum, eMIn, eMInE, sMPut, eMNew, eMDict1, eMLen, eListZip, Option.isSome_none, Option.isSome_some, eMut, gAppend, gInsert, eRev, eIndex, eLenSet, gInt, gLen, gTuple, gList, gAbs, gMax2, gMin2, gDivmod, gEq_int, runFn, sSeq, sIf, sSet, sSetIx, sRet, sRetN, sNil, sDrop, sAsg, sFor, sPar, sNever, setO, retO, setOs, presc, eVar, eK, eTwo, v2, eFn, eDisp, eTup, eLst, eCall, eCallR, eCallK, pick, toSl, toSls, sIdx, wb, bk, esc, escs, vals, aNil, aCons, tb, Ev.tNot, Ev.tAnd, Ev.tOr, gGt, gLt, gGe, gLe, gSub, gMod, gDiv, gPow, gAdd, gMul, gInt, mulOk, g1, g2, fInt, fLen, fTuple, fList, fAbs, eAnd, eOr, eNot, eIf, eNeg, eIsi, gII, gIx, gIsN, gN, gT, gsNil, gsCons, isLent_eq, lentO, lentS_v, lentS_un, lentS_f, lentS_t, lentS_z, finE, okArg, Out.bind, Od.val, slVal, Bx.tr, Bx.t, isN, L2.ixN, L2.atI, isInt, isBool, isTuple, isList, isStr, isDict, isTL, Nat.zero_le, id_eq, eq_self, Pu.c0, Pu.c1, Pu.c2, Pu.c3, Pu.c4, Pu.c5, Pu.c6, Pu.c7, Pu.c8, Pu.c9, Pu.s1, Pu.s2, Pu.s3, Pu.s4, Pu.s5, Pu.s6, Pu.s7, Pu.s8, Pu.s9, Int.reduceEq, Nat.reduceMul, Int.ofNat_eq_natCast, wipeE, restE, exists_eq_left', Option.some.injEq, Out.ok.injEq, Prod.mk.injEq, Option.bind_some, Option.bind_none, Option.bind_eq_bind, List.getElem?_cons_zero, List.getElem?_cons_succ, List.getElem?_nil, List.set_cons_zero, List.set_cons_succ, List.set_nil, List.length_cons, List.length_nil, List.replicate_succ, List.replicate_zero, List.cons_append, List.nil_append, List.append_nil, List.all_cons, List.all_nil, Bool.and_true, Bool.true_and, Bool.and_false, Bool.false_and, if_true, if_false, ite_true, ite_false, List.nodup_cons, List.nodup_nil, List.not_mem_nil, List.mem_cons, not_false_eq_true, and_true, true_and, reduceIte, Nat.reduceAdd, Nat.reduceSub, Nat.reduceEqDiff, Nat.reduceLT, Nat.reduceLeDiff, Option.map_some, Option.map_none, Option.getD_some, reduceCtorEq, or_self, or_false, false_or, not_true_eq_false, decide_true, decide_false, Bool.not_true, Bool.not_false, Bool.false_eq_true, Nat.zero_add, Nat.add_zero, forall_const, Int.reduceLT, Int.reduceLE, Int.reduceNeg, Int.reduceToNat, Int.toNat_natCast, and_self, isW, isC]
  | _ => simp only [m_is_count, b_is_count, is_whole_ok, eMLenE, eRep, eDLen, eNNew, eNLen, eListRng, gMax1, gSum, eMIn, eMInE, sMPut, eMNew, eMDict1, eMLen, eListZip, Option.isSome_none, Option.isSome_some, eMut, gAppend, gInsert, eRev, eIndex, eLenSet, gInt, gLen, gTuple, gList, gAbs, gMax2, gMin2, gDivmod, gEq_int, runFn, sSeq, sIf, sSet, sSetIx, sRet, sRetN, sNil, sDrop, sAsg, sFor, sPar, sNever, setO, retO, setOs, presc, eVar, eK, eTwo, v2, eFn, eDisp, eTup, eLst, eCall, eCallR, eCallK, pick, toSl, toSls, sIdx, wb, bk, esc, escs, vals, aNil, aCons, tb, Ev.tNot, Ev.tAnd, Ev.tOr, gGt, gLt, gGe, gLe, gSub, gMod, gDiv, gPow, gAdd, gMul, gInt, mulOk, g1, g2, fInt, fLen, fTuple, fList, fAbs, eAnd, eOr, eNot, eIf, eNeg, eIsi, gII, gIx, gIsN, gN, gT, gsNil, gsCons, isLent_eq, lentO, lentS_v, lentS_un, lentS_f, lentS_t, lentS_z, finE, okArg, Out.bind, Od.val, slVal, Bx.tr, Bx.t, isN, L2.ixN, L2.atI, isInt, isBool, isTuple, isList, isStr, isDict, isTL, Nat.zero_le, id_eq, eq_self, Pu.c0, Pu.c1, Pu.c2, Pu.c3, Pu.c4, Pu.c5, Pu.c6, Pu.c7, Pu.c8, Pu.c9, Pu.s1, Pu.s2, Pu.s3, Pu.s4, Pu.s5, Pu.s6, Pu.s7, Pu.s8, Pu.s9, Int.reduceEq, Nat.reduceMul, Int.ofNat_eq_natCast, wipeE, restE, exists_eq_left', Option.some.injEq, Out.ok.injEq, Prod.mk.injEq, Option.bind_some, Option.bind_none, Option.bind_eq_bind, List.getElem?_cons_zero, List.getElem?_cons_succ, List.getElem?_nil, List.set_cons_zero, List.set_cons_succ, List.set_nil, List.length_cons, List.length_nil, List.replicate_succ, List.replicate_zero, List.cons_append, List.nil_append, List.append_nil, List.all_cons, List.all_nil, Bool.and_true, Bool.true_and, Bool.and_false, Bool.false_and, if_true, if_false, ite_true, ite_false, List.nodup_cons, List.nodup_nil, List.not_mem_nil, List.mem_cons, not_false_eq_true, and_true, true_and, reduceIte, Nat.reduceAdd, Nat.reduceSub, Nat.reduceEqDiff, Nat.reduceLT, Nat.reduceLeDiff, Option.map_some, Option.map_none, Option.getD_some, reduceCtorEq, or_self, or_false, false_or, not_true_eq_false, decide_true, decide_false, Bool.not_true, Bool.not_false, Bool.false_eq_true, Nat.zero_add, Nat.add_zero, forall_const, Int.reduceLT, Int.reduceLE, Int.reduceNeg, Int.reduceToNat, Int.toNat_natCast, and_self, isW, isC]
theorem is_index_ok (t : T) (n : Int) : m_is_index [.v t, .v (.int n)] = .ok (.r (.bool (isI n t))) [.v t, .v (.int n)] := by
  cases t with
  | int i => 
    by_cases h : 0 ≤ i
    · simp only [m_is_index, b_is_index, is_count_ok, eMLenE, eRep, eDLen, eNNew, eNLen, eListRng, gMax1, gSum, eMIn, eMInE, sMPut, eMNew, eMDict1, eMLen, eListZip, Option.isSome_none, Option.isSome_some, eMut, gAppend, gInsert, eRev, eIndex, eLenSet, gInt, gLen, gTuple, gList, gAbs, gMax2, gMin2, gDivmod, gEq_int, runFn, sSeq, sIf, sSet, sSetIx, sRet, sRetN, sNil, sDrop, sAsg, sFor, sPar, sNever, setO, retO, setOs, presc, eVar, eK, eTwo, v2, eFn, eDisp, eTup, eLst, eCall, eCallR, eCallK, pick, toSl, toSls, sIdx, wb, bk, esc, escs, vals, aNil, aCons, tb, Ev.tNot, Ev.tAnd, Ev.tOr, gGt, gLt, gGe, gLe, gSub, gMod, gDiv, gPow, gAdd, gMul, gInt, mulOk, g1, g2, fInt, fLen, fTuple, fList, fAbs, eAnd, eOr, eNot, eIf, eNeg, eIsi, gII, gIx, gIsN, gN, gT, gsNil, gsCons, isLent_eq, lentO, lentS_v, lentS_un, lentS_f, lentS_t, lentS_z, finE, okArg, Out.bind, Od.val, slVal, Bx.tr, Bx.t, isN, L2.ixN, L2.atI, isInt, isBool, isTuple, isList, isStr, isDict, isTL, Nat.zero_le, id_eq, eq_self, Pu.c0, Pu.c1, Pu.c2, Pu.c3, Pu.c4, Pu.c5, Pu.c6, Pu.c7, Pu.c8, Pu.c9, Pu.s1, Pu.s2, Pu.s3, Pu.s4, Pu.s5, Pu.s6, Pu.s7, Pu.s8, Pu.s9, Int.reduceEq, Nat.reduceMul, Int.ofNat_eq_natCast, wipeE, restE, exists_eq_left', Option.some.injEq, Out.ok.injEq, Prod.mk.injEq, Option.bind_some, Option.bind_none, Option.bind_eq_bind, List.getElem?_cons_zero, List.getElem?_cons_succ, List.getElem?_nil, List.set_cons_zero, List.set_cons_succ, List.set_nil, List.length_cons, List.length_nil, List.replicate_succ, List.replicate_zero, List.cons_append, List.nil_append, List.append_nil, List.all_cons, List.all_nil, Bool.and_true, Bool.true_and, Bool.and_false, Bool.false_and, if_true, if_false, ite_true, ite_false, List.nodup_cons, List.nodup_nil, List.not_mem_nil, List.mem_cons, not_false_eq_true, and_true, true_and, reduceIte, Nat.reduceAdd, Nat.reduceSub, Nat.reduceEqDiff, Nat.reduceLT, Nat.reduceLeDiff, Option.map_some, Option.map_none, Option.getD_some, reduceCtorEq, or_self, or_false, false_or, not_true_eq_false, decide_true, decide_false, Bool.not_true, Bool.not_false, Bool.false_eq_true, Nat.zero_add, Nat.add_zero, forall_const, Int.reduceLT, Int.reduceLE, Int.reduceNeg, Int.reduceToNat, Int.toNat_natCast, and_self, isC, isI, h]
    · simp only [m_is_index, b_is_index, is_count_ok, eMLenE, eRep, eDLen, eNNew, eNLen, eListRng, gMax1, gSum, eMIn, eMInE, sMPut, eMNew, eMDict1, eMLen, eListZip, Option.isSome_none, Option.isSome_some, eMut, gAppend, gInsert, eRev, eIndex, eLenSet, gInt, gLen, gTuple, gList, gAbs, gMax2, gMin2, gDivmod, gEq_int, runFn, sSeq, sIf, sSet, sSetIx, sRet, sRetN, sNil, sDrop, sAsg, sFor, sPar, sNever, setO, retO, setOs, presc, eVar, eK, eTwo, v2, eFn, eDisp, eTup, eLst, eCall, eCallR, eCallK, pick, toSl, toSls, sIdx, wb, bk, esc, escs, vals, aNil, aCons, tb, Ev.tNot, Ev.tAnd, Ev.tOr, gGt, gLt, gGe, gLe, gSub, gMod, gDiv, gPow, gAdd, gMul, gInt, mulOk, g1, g2, fInt, fLen, fTuple, fList, fAbs, eAnd, eOr, eNot, eIf, eNeg, eIsi, gII, gIx, gIsN, gN, gT, gsNil, gsCons, isLent_eq, lentO, lentS_v, lentS_un, lentS_f, lentS_t, lentS_z, finE, okArg, Out.bind, Od.val, slVal, Bx.tr, Bx.t, isN, L2.ixN, L2.atI, isInt, isBool, isTuple, isList, isStr, isDict, isTL, Nat.zero_le, id_eq, eq_self, Pu.c0, Pu.c1, Pu.c2, Pu.c3, Pu.c4, Pu.c5, Pu.c6, Pu.c7, Pu.c8, Pu.c9, Pu.s1, Pu.s2, Pu.s3, Pu.s4, Pu.s5, Pu.s6, Pu.s7, Pu.s8, Pu.s9, Int.reduceEq, Nat.reduceMul, Int.ofNat_eq_natCast, wipeE, restE, exists_eq_left', Option.some.injEq, Out.ok.injEq, Prod.mk.injEq, Option.bind_some, Option.bind_none, Option.bind_eq_bind, List.getElem?_cons_zero, List.getElem?_cons_succ, List.getElem?_nil, List.set_cons_zero, List.set_cons_succ, List.set_nil, List.length_cons, List.length_nil, List.replicate_succ, List.replicate_zero, List.cons_append, List.nil_append, List.append_nil, List.all_cons, List.all_nil, Bool.and_true, Bool.true_and, Bool.and_false, Bool.false_and, if_true, if_false, ite_true, ite_false, List.nodup_cons, List.nodup_nil, List.not_mem_nil, List.mem_cons, not_false_eq_true, and_true, true_and, reduceIte, Nat.reduceAdd, Nat.reduceSub, Nat.reduceEqDiff, Nat.reduceLT, Nat.reduceLeDiff, Option.map_some, Option.map_none, Option.getD_some, reduceCtorEq, or_self, or_false, false_or, not_true_eq_false, decide_true, decide_false, Bool.not_true, Bool.not_false, Bool.false_eq_true, Nat.zero_add, Nat.add_zero, forall_const, Int.reduceLT, Int.reduceLE, Int.reduceNeg, Int.reduceToNat, Int.toNat_natCast, and_self, isC, isI, h, false_and]
  | _ => simp only [m_is_index, b_is_index, is_count_ok, eMLenE, eRep, eDLen, eNNew, eNLen, eListRng, gMax1, gSum, eMIn, eMInE, sMPut, eMNew, eMDict1, eMLen, eListZip, Option.isSome_none, Option.isSome_some, eMut, gAppend, gInsert, eRev, eIndex, eLenSet, gInt, gLen, gTuple, gList, gAbs, gMax2, gMin2, gDivmod, gEq_int, runFn, sSeq, sIf, sSet, sSetIx, sRet, sRetN, sNil, sDrop, sAsg, sFor, sPar, sNever, setO, retO, setOs, presc, eVar, eK, eTwo, v2, eFn, eDisp, eTup, eLst, eCall, eCallR, eCallK, pick, toSl, toSls, sIdx, wb, bk, esc, escs, vals, aNil, aCons, tb, Ev.tNot, Ev.tAnd, Ev.tOr, gGt, gLt, gGe, gLe, gSub, gMod, gDiv, gPow, gAdd, gMul, gInt, mulOk, g1, g2, fInt, fLen, fTuple, fList, fAbs, eAnd, eOr, eNot, eIf, eNeg, eIsi, gII, gIx, gIsN, gN, gT, gsNil, gsCons, isLent_eq, lentO, lentS_v, lentS_un, lentS_f, lentS_t, lentS_z, finE, okArg, Out.bind, Od.val, slVal, Bx.tr, Bx.t, isN, L2.ixN, L2.atI, isInt, isBool, isTuple, isList, isStr, isDict, isTL, Nat.zero_le, id_eq, eq_self, Pu.c0, Pu.c1, Pu.c2, Pu.c3, Pu.c4, Pu.c5, Pu.c6, Pu.c7, Pu.c8, Pu.c9, Pu.s1, Pu.s2, Pu.s3, Pu.s4, Pu.s5, Pu.s6, Pu.s7, Pu.s8, Pu.s9, Int.reduceEq, Nat.reduceMul, Int.ofNat_eq_natCast, wipeE, restE, exists_eq_left', Option.some.injEq, Out.ok.injEq, Prod.mk.injEq, Option.bind_some, Option.bind_none, Option.bind_eq_bind, List.getElem?_cons_zero, List.getElem?_cons_succ, List.getElem?_nil, List.set_cons_zero, List.set_cons_succ, List.set_nil, List.length_cons, List.length_nil, List.replicate_succ, List.replicate_zero, List.cons_append, List.nil_append, List.append_nil, List.all_cons, List.all_nil, Bool.and_true, Bool.true_and, Bool.and_false, Bool.false_and, if_true, if_false, ite_true, ite_false, List.nodup_cons, List.nodup_nil, List.not_mem_nil, List.mem_cons, not_false_eq_true, and_true, true_and, reduceIte, Nat.reduceAdd, Nat.reduceSub, Nat.reduceEqDiff, Nat.reduceLT, Nat.reduceLeDiff, Option.map_some, Option.map_none, Option.getD_some, reduceCtorEq, or_self, or_false, false_or, not_true_eq_false, decide_true, decide_false, Bool.not_true, Bool.not_false, Bool.false_eq_true, Nat.zero_add, Nat.add_zero, forall_const, Int.reduceLT, Int.reduceLE, Int.reduceNeg, Int.reduceToNat, Int.toNat_natCast, and_self, isC, isI]
def isP (b n : Int) : T → Bool
  | .tuple [x, y, k] => isI b x && (isI b y && isI n k)
  | _ => false
theorem is_part_ok (b n : Int) (t : T) : m__is_part [.v (.int b), .v (.int n), .v t] = .ok (.r (.bool (isP b n t))) [.v (.int b), .v (.int n), .v t] := by
  cases t with
  | tuple ts =>
    match ts with
    | [x, y, k] =>
      cases hx : isI b x <;> cases hy : isI b y <;> simp only [m__is_part, b__is_part, is_index_ok, eMLenE, eRep, eDLen, eNNew, eNLen, eListRng, gMax1, gSum, eMIn, eMInE, sMPut, eMNew, eMDict1, eMLen, eListZip, Option.isSome_none, Option.isSome_some, eMut, gAppend, gInsert, eRev, eIndex, eLenSet, gInt, gLen, gTuple, gList, gAbs, gMax2, gMin2, gDivmod, gEq_int, runFn, sSeq, sIf, sSet, sSetIx, sRet, sRetN, sNil, sDrop, sAsg, sFor, sPar, sNever, setO, retO, setOs, presc, eVar, eK, eTwo, v2, eFn, eDisp, eTup, eLst, eCall, eCallR, eCallK, pick, toSl, toSls, sIdx, wb, bk, esc, escs, vals, aNil, aCons, tb, Ev.tNot, Ev.tAnd, Ev.tOr, gGt, gLt, gGe, gLe, gSub, gMod, gDiv, gPow, gAdd, gMul, gInt, mulOk, g1, g2, fInt, fLen, fTuple, fList, fAbs, eAnd, eOr, eNot, eIf, eNeg, eIsi, gII, gIx, gIsN, gN, gT, gsNil, gsCons, isLent_eq, lentO, lentS_v, lentS_un, lentS_f, lentS_t, lentS_z, finE, okArg, Out.bind, Od.val, slVal, Bx.tr, Bx.t, isN, L2.ixN, L2.atI, isInt, isBool, isTuple, isList, isStr, isDict, isTL, Nat.zero_le, id_eq, eq_self, Pu.c0, Pu.c1, Pu.c2, Pu.c3, Pu.c4, Pu.c5, Pu.c6, Pu.c7, Pu.c8, Pu.c9, Pu.s1, Pu.s2, Pu.s3, Pu.s4, Pu.s5, Pu.s6, Pu.s7, Pu.s8, Pu.s9, Int.reduceEq, Nat.reduceMul, Int.ofNat_eq_natCast, wipeE, restE, exists_eq_left', Option.some.injEq, Out.ok.injEq, Prod.mk.injEq, Option.bind_some, Option.bind_none, Option.bind_eq_bind, List.getElem?_cons_zero, List.getElem?_cons_succ, List.getElem?_nil, List.set_cons_zero, List.set_cons_succ, List.set_nil, List.length_cons, List.length_nil, List.replicate_succ, List.replicate_zero, List.cons_append, List.nil_append, List.append_nil, List.all_cons, List.all_nil, Bool.and_true, Bool.true_and, Bool.and_false, Bool.false_and, if_true, if_false, ite_true, ite_false, List.nodup_cons, List.nodup_nil, List.not_mem_nil, List.mem_cons, not_false_eq_true, and_true, true_and, reduceIte, Nat.reduceAdd, Nat.reduceSub, Nat.reduceEqDiff, Nat.reduceLT, Nat.reduceLeDiff, Option.map_some, Option.map_none, Option.getD_some, reduceCtorEq, or_self, or_false, false_or, not_true_eq_false, decide_true, decide_false, Bool.not_true, Bool.not_false, Bool.false_eq_true, Nat.zero_add, Nat.add_zero, forall_const, Int.reduceLT, Int.reduceLE, Int.reduceNeg, Int.reduceToNat, Int.toNat_natCast, and_self, isP, hx, hy]
    | [] => rfl
    | [_] => rfl
    | [_, _] => rfl
    | x :: y :: k :: z :: ts =>
      have h : decide (((ts.length + 1 + 1 + 1 + 1 : Nat) : Int) = 3) = false := by simp; omega
      simp only [m__is_part, b__is_part, is_index_ok, eMLenE, eRep, eDLen, eNNew, eNLen, eListRng, gMax1, gSum, eMIn, eMInE, sMPut, eMNew, eMDict1, eMLen, eListZip, Option.isSome_none, Option.isSome_some, eMut, gAppend, gInsert, eRev, eIndex, eLenSet, gInt, gLen, gTuple, gList, gAbs, gMax2, gMin2, gDivmod, gEq_int, runFn, sSeq, sIf, sSet, sSetIx, sRet, sRetN, sNil, sDrop, sAsg, sFor, sPar, sNever, setO, retO, setOs, presc, eVar, eK, eTwo, v2, eFn, eDisp, eTup, eLst, eCall, eCallR, eCallK, pick, toSl, toSls, sIdx, wb, bk, esc, escs, vals, aNil, aCons, tb, Ev.tNot, Ev.tAnd, Ev.tOr, gGt, gLt, gGe, gLe, gSub, gMod, gDiv, gPow, gAdd, gMul, gInt, mulOk, g1, g2, fInt, fLen, fTuple, fList, fAbs, eAnd, eOr, eNot, eIf, eNeg, eIsi, gII, gIx, gIsN, gN, gT, gsNil, gsCons, isLent_eq, lentO, lentS_v, lentS_un, lentS_f, lentS_t, lentS_z, finE, okArg, Out.bind, Od.val, slVal, Bx.tr, Bx.t, isN, L2.ixN, L2.atI, isInt, isBool, isTuple, isList, isStr, isDict, isTL, Nat.zero_le, id_eq, eq_self, Pu.c0, Pu.c1, Pu.c2, Pu.c3, Pu.c4, Pu.c5, Pu.c6, Pu.c7, Pu.c8, Pu.c9, Pu.s1, Pu.s2, Pu.s3, Pu.s4, Pu.s5, Pu.s6, Pu.s7, Pu.s8, Pu.s9, Int.reduceEq, Nat.reduceMul, Int.ofNat_eq_natCast, wipeE, restE, exists_eq_left', Option.some.injEq, Out.ok.injEq, Prod.mk.injEq, Option.bind_some, Option.bind_none, Option.bind_eq_bind, List.getElem?_cons_zero, List.getElem?_cons_succ, List.getElem?_nil, List.set_cons_zero, List.set_cons_succ, List.set_nil, List.length_cons, List.length_nil, List.replicate_succ, List.replicate_zero, List.cons_append, List.nil_append, List.append_nil, List.all_cons, List.all_nil, Bool.and_true, Bool.true_and, Bool.and_false, Bool.false_and, if_true, if_false, ite_true, ite_false, List.nodup_cons, List.nodup_nil, List.not_mem_nil, List.mem_cons, not_false_eq_true, and_true, true_and, reduceIte, Nat.reduceAdd, Nat.reduceSub, Nat.reduceEqDiff, Nat.reduceLT, Nat.reduceLeDiff, Option.map_some, Option.map_none, Option.getD_some, reduceCtorEq, or_self, or_false, false_or, not_true_eq_false, decide_true, decide_false, Bool.not_true, Bool.not_false, Bool.false_eq_true, Nat.zero_add, Nat.add_zero, forall_const, Int.reduceLT, Int.reduceLE, Int.reduceNeg, Int.reduceToNat, Int.toNat_natCast, and_self, isP, h]
  | _ => rfl
theorem isP_form {b n : Int} {t : T} (h : isP b n t = true) : ∃ x y k : Int, t = .tuple [.int x, .int y, .int k] ∧ (0 ≤ x ∧ x < b) ∧ (0 ≤ y ∧ y < b) ∧ 0 ≤ k ∧ k < n := by
  unfold isP at h
  split at h
  · rename_i x y k
    rw [Bool.and_eq_true, Bool.and_eq_true] at h
    obtain ⟨h1, h2, h3⟩ := h
    cases x <;> simp only [isI, Bool.false_eq_true] at h1
    cases y <;> simp only [isI, Bool.false_eq_true] at h2
    cases k <;> simp only [isI, Bool.false_eq_true] at h3
    exact ⟨_, _, _, rfl, of_decide_eq_true h1, of_decide_eq_true h2, of_decide_eq_true h3⟩
  · cases h
/-- places of parts -/
def pl : T → T
  | .tuple (x :: y :: _) => .tuple [x, y]
  | t => t
theorem places_x (ts : List T) (hl : ts.length ≤ sizeLine) (h : ∀ t ∈ ts, ∃ x y k, t = .tuple [x, y, k]) : x1_places_of [.v (.tuple ts), .un] = .ok (.b (.l (ts.map pl))) [.v (.tuple ts), .un] := by
  refine comp_map pl ts [] [.v (.tuple ts), .un] (by simpa using hl) fun t ht => ?_
  obtain ⟨x, y, k, rfl⟩ := h t ht
  exact ⟨_, rfl, _, rfl, _, _, rfl, _, rfl, rfl⟩
theorem places_ok (ts : List T) (hl : ts.length ≤ sizeLine) (h : ∀ t ∈ ts, ∃ x y k, t = .tuple [x, y, k]) : m_places_of [.v (.tuple ts)] = .ok (.b (.l (ts.map pl))) [.v (.tuple ts)] := by
  simp only [m_places_of, b_places_of, places_x ts hl h, eMLenE, eRep, eDLen, eNNew, eNLen, eListRng, gMax1, gSum, eMIn, eMInE, sMPut, eMNew, eMDict1, eMLen, eListZip, Option.isSome_none, Option.isSome_some, eMut, gAppend, gInsert, eRev, eIndex, eLenSet, gInt, gLen, gTuple, gList, gAbs, gMax2, gMin2, gDivmod, gEq_int, runFn, sSeq, sIf, sSet, sSetIx, sRet, sRetN, sNil, sDrop, sAsg, sFor, sPar, sNever, setO, retO, setOs, presc, eVar, eK, eTwo, v2, eFn, eDisp, eTup, eLst, eCall, eCallR, eCallK, pick, toSl, toSls, sIdx, wb, bk, esc, escs, vals, aNil, aCons, tb, Ev.tNot, Ev.tAnd, Ev.tOr, gGt, gLt, gGe, gLe, gSub, gMod, gDiv, gPow, gAdd, gMul, gInt, mulOk, g1, g2, fInt, fLen, fTuple, fList, fAbs, eAnd, eOr, eNot, eIf, eNeg, eIsi, gII, gIx, gIsN, gN, gT, gsNil, gsCons, isLent_eq, lentO, lentS_v, lentS_un, lentS_f, lentS_t, lentS_z, finE, okArg, Out.bind, Od.val, slVal, Bx.tr, Bx.t, isN, L2.ixN, L2.atI, isInt, isBool, isTuple, isList, isStr, isDict, isTL, Nat.zero_le, id_eq, eq_self, Pu.c0, Pu.c1, Pu.c2, Pu.c3, Pu.c4, Pu.c5, Pu.c6, Pu.c7, Pu.c8, Pu.c9, Pu.s1, Pu.s2, Pu.s3, Pu.s4, Pu.s5, Pu.s6, Pu.s7, Pu.s8, Pu.s9, Int.reduceEq, Nat.reduceMul, Int.ofNat_eq_natCast, wipeE, restE, exists_eq_left', Option.some.injEq, Out.ok.injEq, Prod.mk.injEq, Option.bind_some, Option.bind_none, Option.bind_eq_bind, List.getElem?_cons_zero, List.getElem?_cons_succ, List.getElem?_nil, List.set_cons_zero, List.set_cons_succ, List.set_nil, List.length_cons, List.length_nil, List.replicate_succ, List.replicate_zero, List.cons_append, List.nil_append, List.append_nil, List.all_cons, List.all_nil, Bool.and_true, Bool.true_and, Bool.and_false, Bool.false_and, if_true, if_false, ite_true, ite_false, List.nodup_cons, List.nodup_nil, List.not_mem_nil, List.mem_cons, not_false_eq_true, and_true, true_and, reduceIte, Nat.reduceAdd, Nat.reduceSub, Nat.reduceEqDiff, Nat.reduceLT, Nat.reduceLeDiff, Option.map_some, Option.map_none, Option.getD_some, reduceCtorEq, or_self, or_false, false_or, not_true_eq_false, decide_true, decide_false, Bool.not_true, Bool.not_false, Bool.false_eq_true, Nat.zero_add, Nat.add_zero, forall_const, Int.reduceLT, Int.reduceLE, Int.reduceNeg, Int.reduceToNat, Int.toNat_natCast, and_self]
theorem kind_x (b n : Int) (ts : List T) (hl : ts.length ≤ sizeLine) : x1__is_kind [.v (.int b), .v (.int n), .v (.tuple ts), .un] = .ok (.b (.l ((ts.map (isP b n)).map .bool))) [.v (.int b), .v (.int n), .v (.tuple ts), .un] := by
  rw [List.map_map]
  refine comp_map _ ts [] [.v (.int b), .v (.int n), .v (.tuple ts), .un] (by simpa using hl) fun t ht => ?_
  refine ⟨_, rfl, _, rfl, .r (.bool (isP b n t)), [.v (.int b), .v (.int n), .v (.tuple ts), .v t], ?_, _, rfl, rfl⟩
  simp only [is_part_ok, eMLenE, eRep, eDLen, eNNew, eNLen, eListRng, gMax1, gSum, eMIn, eMInE, sMPut, eMNew, eMDict1, eMLen, eListZip, Option.isSome_none, Option.isSome_some, eMut, gAppend, gInsert, eRev, eIndex, eLenSet, gInt, gLen, gTuple, gList, gAbs, gMax2, gMin2, gDivmod, gEq_int, runFn, sSeq, sIf, sSet, sSetIx, sRet, sRetN, sNil, sDrop, sAsg, sFor, sPar, sNever, setO, retO, setOs, presc, eVar, eK, eTwo, v2, eFn, eDisp, eTup, eLst, eCall, eCallR, eCallK, pick, toSl, toSls, sIdx, wb, bk, esc, escs, vals, aNil, aCons, tb, Ev.tNot, Ev.tAnd, Ev.tOr, gGt, gLt, gGe, gLe, gSub, gMod, gDiv, gPow, gAdd, gMul, gInt, mulOk, g1, g2, fInt, fLen, fTuple, fList, fAbs, eAnd, eOr, eNot, eIf, eNeg, eIsi, gII, gIx, gIsN, gN, gT, gsNil, gsCons, isLent_eq, lentO, lentS_v, lentS_un, lentS_f, lentS_t, lentS_z, finE, okArg, Out.bind, Od.val, slVal, Bx.tr, Bx.t, isN, L2.ixN, L2.atI, isInt, isBool, isTuple, isList, isStr, isDict, isTL, Nat.zero_le, id_eq, eq_self, Pu.c0, Pu.c1, Pu.c2, Pu.c3, Pu.c4, Pu.c5, Pu.c6, Pu.c7, Pu.c8, Pu.c9, Pu.s1, Pu.s2, Pu.s3, Pu.s4, Pu.s5, Pu.s6, Pu.s7, Pu.s8, Pu.s9, Int.reduceEq, Nat.reduceMul, Int.ofNat_eq_natCast, wipeE, restE, exists_eq_left', Option.some.injEq, Out.ok.injEq, Prod.mk.injEq, Option.bind_some, Option.bind_none, Option.bind_eq_bind, List.getElem?_cons_zero, List.getElem?_cons_succ, List.getElem?_nil, List.set_cons_zero, List.set_cons_succ, List.set_nil, List.length_cons, List.length_nil, List.replicate_succ, List.replicate_zero, List.cons_append, List.nil_append, List.append_nil, List.all_cons, List.all_nil, Bool.and_true, Bool.true_and, Bool.and_false, Bool.false_and, if_true, if_false, ite_true, ite_false, List.nodup_cons, List.nodup_nil, List.not_mem_nil, List.mem_cons, not_false_eq_true, and_true, true_and, reduceIte, Nat.reduceAdd, Nat.reduceSub, Nat.reduceEqDiff, Nat.reduceLT, Nat.reduceLeDiff, Option.map_some, Option.map_none, Option.getD_some, reduceCtorEq, or_self, or_false, false_or, not_true_eq_false, decide_true, decide_false, Bool.not_true, Bool.not_false, Bool.false_eq_true, Nat.zero_add, Nat.add_zero, forall_const, Int.reduceLT, Int.reduceLE, Int.reduceNeg, Int.reduceToNat, Int.toNat_natCast, and_self, wipeE]
def i3 : T → List Int
  | .tuple (.int x :: .int y :: _) => [x, y]
  | _ => []
theorem tups_places {b n : Int} : ∀ {ts : List T}, (∀ t ∈ ts, isP b n t = true) → tupsOf (ts.map pl) = some (ts.map i3)
  | [], _ => rfl
  | t :: ts, h => by
    obtain ⟨x, y, k, rfl, _⟩ := isP_form (h t List.mem_cons_self)
    have ih := tups_places fun t ht => h t (List.mem_cons_of_mem _ ht)
    show (match intsOf [.int x, .int y], tupsOf (ts.map pl) with | some a, some b => some (a :: b) | _, _ => none) = _
    rw [ih]
    rfl
/-- a kind -/
def isKd (b n : Int) : T → Bool
  | .tuple ts => decide ((ts.length : Int) = b * b) && ((ts.map (isP b n)).all id && decide (((dd (ts.map i3)).length : Int) = b * b))
  | _ => false
theorem is_kind_ok (b n : Int) (t : T) (hb : b = 2 ∨ b = 3) : m__is_kind [.v (.int b), .v (.int n), .v t] = .ok (.r (.bool (isKd b n t))) [.v (.int b), .v (.int n), .v t] := by
  have hm : b.natAbs.log2 + b.natAbs.log2 < 1000000 := by rcases hb with rfl | rfl <;> decide
  cases t with
  | tuple ts =>
    by_cases h1 : (ts.length : Int) = b * b
    · have h2 : ts.length < 64 := by rcases hb with rfl | rfl <;> omega
      have h3 : ts.length ≤ sizeLine := by unfold sizeLine; omega
      cases h4 : (ts.map (isP b n)).all id with
      | false => simp only [m__is_kind, b__is_kind, kind_x b n ts h3, eMLenE, eRep, eDLen, eNNew, eNLen, eListRng, gMax1, gSum, eMIn, eMInE, sMPut, eMNew, eMDict1, eMLen, eListZip, Option.isSome_none, Option.isSome_some, eMut, gAppend, gInsert, eRev, eIndex, eLenSet, gInt, gLen, gTuple, gList, gAbs, gMax2, gMin2, gDivmod, gEq_int, runFn, sSeq, sIf, sSet, sSetIx, sRet, sRetN, sNil, sDrop, sAsg, sFor, sPar, sNever, setO, retO, setOs, presc, eVar, eK, eTwo, v2, eFn, eDisp, eTup, eLst, eCall, eCallR, eCallK, pick, toSl, toSls, sIdx, wb, bk, esc, escs, vals, aNil, aCons, tb, Ev.tNot, Ev.tAnd, Ev.tOr, gGt, gLt, gGe, gLe, gSub, gMod, gDiv, gPow, gAdd, gMul, gInt, mulOk, g1, g2, fInt, fLen, fTuple, fList, fAbs, eAnd, eOr, eNot, eIf, eNeg, eIsi, gII, gIx, gIsN, gN, gT, gsNil, gsCons, isLent_eq, lentO, lentS_v, lentS_un, lentS_f, lentS_t, lentS_z, finE, okArg, Out.bind, Od.val, slVal, Bx.tr, Bx.t, isN, L2.ixN, L2.atI, isInt, isBool, isTuple, isList, isStr, isDict, isTL, Nat.zero_le, id_eq, eq_self, Pu.c0, Pu.c1, Pu.c2, Pu.c3, Pu.c4, Pu.c5, Pu.c6, Pu.c7, Pu.c8, Pu.c9, Pu.s1, Pu.s2, Pu.s3, Pu.s4, Pu.s5, Pu.s6, Pu.s7, Pu.s8, Pu.s9, Int.reduceEq, Nat.reduceMul, Int.ofNat_eq_natCast, wipeE, restE, exists_eq_left', Option.some.injEq, Out.ok.injEq, Prod.mk.injEq, Option.bind_some, Option.bind_none, Option.bind_eq_bind, List.getElem?_cons_zero, List.getElem?_cons_succ, List.getElem?_nil, List.set_cons_zero, List.set_cons_succ, List.set_nil, List.length_cons, List.length_nil, List.replicate_succ, List.replicate_zero, List.cons_append, List.nil_append, List.append_nil, List.all_cons, List.all_nil, Bool.and_true, Bool.true_and, Bool.and_false, Bool.false_and, if_true, if_false, ite_true, ite_false, List.nodup_cons, List.nodup_nil, List.not_mem_nil, List.mem_cons, not_false_eq_true, and_true, true_and, reduceIte, Nat.reduceAdd, Nat.reduceSub, Nat.reduceEqDiff, Nat.reduceLT, Nat.reduceLeDiff, Option.map_some, Option.map_none, Option.getD_some, reduceCtorEq, or_self, or_false, false_or, not_true_eq_false, decide_true, decide_false, Bool.not_true, Bool.not_false, Bool.false_eq_true, Nat.zero_add, Nat.add_zero, forall_const, Int.reduceLT, Int.reduceLE, Int.reduceNeg, Int.reduceToNat, Int.toNat_natCast, and_self, isKd, h1, h4, gAll_bools, hm]
      | true =>
        have h5 : ∀ t ∈ ts, isP b n t = true := fun t ht => by
          have := List.all_eq_true.mp h4 (isP b n t) (List.mem_map_of_mem ht)
          exact this
        have h6 := places_ok ts h3 fun t ht => by
          obtain ⟨x, y, k, rfl, _⟩ := isP_form (h5 t ht)
          exact ⟨_, _, _, rfl⟩
        have h7 := tups_places h5
        simp only [m__is_kind, b__is_kind, kind_x b n ts h3, eMLenE, eRep, eDLen, eNNew, eNLen, eListRng, gMax1, gSum, eMIn, eMInE, sMPut, eMNew, eMDict1, eMLen, eListZip, Option.isSome_none, Option.isSome_some, eMut, gAppend, gInsert, eRev, eIndex, eLenSet, gInt, gLen, gTuple, gList, gAbs, gMax2, gMin2, gDivmod, gEq_int, runFn, sSeq, sIf, sSet, sSetIx, sRet, sRetN, sNil, sDrop, sAsg, sFor, sPar, sNever, setO, retO, setOs, presc, eVar, eK, eTwo, v2, eFn, eDisp, eTup, eLst, eCall, eCallR, eCallK, pick, toSl, toSls, sIdx, wb, bk, esc, escs, vals, aNil, aCons, tb, Ev.tNot, Ev.tAnd, Ev.tOr, gGt, gLt, gGe, gLe, gSub, gMod, gDiv, gPow, gAdd, gMul, gInt, mulOk, g1, g2, fInt, fLen, fTuple, fList, fAbs, eAnd, eOr, eNot, eIf, eNeg, eIsi, gII, gIx, gIsN, gN, gT, gsNil, gsCons, isLent_eq, lentO, lentS_v, lentS_un, lentS_f, lentS_t, lentS_z, finE, okArg, Out.bind, Od.val, slVal, Bx.tr, Bx.t, isN, L2.ixN, L2.atI, isInt, isBool, isTuple, isList, isStr, isDict, isTL, Nat.zero_le, id_eq, eq_self, Pu.c0, Pu.c1, Pu.c2, Pu.c3, Pu.c4, Pu.c5, Pu.c6, Pu.c7, Pu.c8, Pu.c9, Pu.s1, Pu.s2, Pu.s3, Pu.s4, Pu.s5, Pu.s6, Pu.s7, Pu.s8, Pu.s9, Int.reduceEq, Nat.reduceMul, Int.ofNat_eq_natCast, wipeE, restE, exists_eq_left', Option.some.injEq, Out.ok.injEq, Prod.mk.injEq, Option.bind_some, Option.bind_none, Option.bind_eq_bind, List.getElem?_cons_zero, List.getElem?_cons_succ, List.getElem?_nil, List.set_cons_zero, List.set_cons_succ, List.set_nil, List.length_cons, List.length_nil, List.replicate_succ, List.replicate_zero, List.cons_append, List.nil_append, List.append_nil, List.all_cons, List.all_nil, Bool.and_true, Bool.true_and, Bool.and_false, Bool.false_and, if_true, if_false, ite_true, ite_false, List.nodup_cons, List.nodup_nil, List.not_mem_nil, List.mem_cons, not_false_eq_true, and_true, true_and, reduceIte, Nat.reduceAdd, Nat.reduceSub, Nat.reduceEqDiff, Nat.reduceLT, Nat.reduceLeDiff, Option.map_some, Option.map_none, Option.getD_some, reduceCtorEq, or_self, or_false, false_or, not_true_eq_false, decide_true, decide_false, Bool.not_true, Bool.not_false, Bool.false_eq_true, Nat.zero_add, Nat.add_zero, forall_const, Int.reduceLT, Int.reduceLE, Int.reduceNeg, Int.reduceToNat, Int.toNat_natCast, and_self, isKd, h1, h4, gAll_bools, hm, eLenSet, h6, h7, List.length_map, h2, id]
    · simp only [m__is_kind, b__is_kind, eMLenE, eRep, eDLen, eNNew, eNLen, eListRng, gMax1, gSum, eMIn, eMInE, sMPut, eMNew, eMDict1, eMLen, eListZip, Option.isSome_none, Option.isSome_some, eMut, gAppend, gInsert, eRev, eIndex, eLenSet, gInt, gLen, gTuple, gList, gAbs, gMax2, gMin2, gDivmod, gEq_int, runFn, sSeq, sIf, sSet, sSetIx, sRet, sRetN, sNil, sDrop, sAsg, sFor, sPar, sNever, setO, retO, setOs, presc, eVar, eK, eTwo, v2, eFn, eDisp, eTup, eLst, eCall, eCallR, eCallK, pick, toSl, toSls, sIdx, wb, bk, esc, escs, vals, aNil, aCons, tb, Ev.tNot, Ev.tAnd, Ev.tOr, gGt, gLt, gGe, gLe, gSub, gMod, gDiv, gPow, gAdd, gMul, gInt, mulOk, g1, g2, fInt, fLen, fTuple, fList, fAbs, eAnd, eOr, eNot, eIf, eNeg, eIsi, gII, gIx, gIsN, gN, gT, gsNil, gsCons, isLent_eq, lentO, lentS_v, lentS_un, lentS_f, lentS_t, lentS_z, finE, okArg, Out.bind, Od.val, slVal, Bx.tr, Bx.t, isN, L2.ixN, L2.atI, isInt, isBool, isTuple, isList, isStr, isDict, isTL, Nat.zero_le, id_eq, eq_self, Pu.c0, Pu.c1, Pu.c2, Pu.c3, Pu.c4, Pu.c5, Pu.c6, Pu.c7, Pu.c8, Pu.c9, Pu.s1, Pu.s2, Pu.s3, Pu.s4, Pu.s5, Pu.s6, Pu.s7, Pu.s8, Pu.s9, Int.reduceEq, Nat.reduceMul, Int.ofNat_eq_natCast, wipeE, restE, exists_eq_left', Option.some.injEq, Out.ok.injEq, Prod.mk.injEq, Option.bind_some, Option.bind_none, Option.bind_eq_bind, List.getElem?_cons_zero, List.getElem?_cons_succ, List.getElem?_nil, List.set_cons_zero, List.set_cons_succ, List.set_nil, List.length_cons, List.length_nil, List.replicate_succ, List.replicate_zero, List.cons_append, List.nil_append, List.append_nil, List.all_cons, List.all_nil, Bool.and_true, Bool.true_and, Bool.and_false, Bool.false_and, if_true, if_false, ite_true, ite_false, List.nodup_cons, List.nodup_nil, List.not_mem_nil, List.mem_cons, not_false_eq_true, and_true, true_and, reduceIte, Nat.reduceAdd, Nat.reduceSub, Nat.reduceEqDiff, Nat.reduceLT, Nat.reduceLeDiff, Option.map_some, Option.map_none, Option.getD_some, reduceCtorEq, or_self, or_false, false_or, not_true_eq_false, decide_true, decide_false, Bool.not_true, Bool.not_false, Bool.false_eq_true, Nat.zero_add, Nat.add_zero, forall_const, Int.reduceLT, Int.reduceLE, Int.reduceNeg, Int.reduceToNat, Int.toNat_natCast, and_self, isKd, h1, hm]
  | _ => rfl
theorem gIn2 (k : Bool → Bool) (i j b : Int) : gIn k (.int b) (.tuple [.int i, .int j]) = some (.r (.bool (k (decide (i = b) || decide (j = b))))) := by
  show some (Od.r (.bool (k (decide (i = b) || (decide (j = b) || false))))) = _
  rw [Bool.or_false]
theorem book_x (t : T) (b : Int) (hb : b = 2 ∨ b = 3) (ts : List T) (hl : ts.length ≤ sizeLine) : x1_is_book [.v t, .v (.int b), .v (.tuple ts), .un] = .ok (.b (.l ((ts.map (isKd b ts.length)).map .bool))) [.v t, .v (.int b), .v (.tuple ts), .un] := by
  rw [List.map_map]
  refine comp_map _ ts [] [.v t, .v (.int b), .v (.tuple ts), .un] (by simpa using hl) fun u ht => ?_
  refine ⟨_, rfl, _, rfl, .r (.bool (isKd b ts.length u)), [.v t, .v (.int b), .v (.tuple ts), .v u], ?_, _, rfl, rfl⟩
  simp only [is_kind_ok b _ _ hb, eMLenE, eRep, eDLen, eNNew, eNLen, eListRng, gMax1, gSum, eMIn, eMInE, sMPut, eMNew, eMDict1, eMLen, eListZip, Option.isSome_none, Option.isSome_some, eMut, gAppend, gInsert, eRev, eIndex, eLenSet, gInt, gLen, gTuple, gList, gAbs, gMax2, gMin2, gDivmod, gEq_int, runFn, sSeq, sIf, sSet, sSetIx, sRet, sRetN, sNil, sDrop, sAsg, sFor, sPar, sNever, setO, retO, setOs, presc, eVar, eK, eTwo, v2, eFn, eDisp, eTup, eLst, eCall, eCallR, eCallK, pick, toSl, toSls, sIdx, wb, bk, esc, escs, vals, aNil, aCons, tb, Ev.tNot, Ev.tAnd, Ev.tOr, gGt, gLt, gGe, gLe, gSub, gMod, gDiv, gPow, gAdd, gMul, gInt, mulOk, g1, g2, fInt, fLen, fTuple, fList, fAbs, eAnd, eOr, eNot, eIf, eNeg, eIsi, gII, gIx, gIsN, gN, gT, gsNil, gsCons, isLent_eq, lentO, lentS_v, lentS_un, lentS_f, lentS_t, lentS_z, finE, okArg, Out.bind, Od.val, slVal, Bx.tr, Bx.t, isN, L2.ixN, L2.atI, isInt, isBool, isTuple, isList, isStr, isDict, isTL, Nat.zero_le, id_eq, eq_self, Pu.c0, Pu.c1, Pu.c2, Pu.c3, Pu.c4, Pu.c5, Pu.c6, Pu.c7, Pu.c8, Pu.c9, Pu.s1, Pu.s2, Pu.s3, Pu.s4, Pu.s5, Pu.s6, Pu.s7, Pu.s8, Pu.s9, Int.reduceEq, Nat.reduceMul, Int.ofNat_eq_natCast, wipeE, restE, exists_eq_left', Option.some.injEq, Out.ok.injEq, Prod.mk.injEq, Option.bind_some, Option.bind_none, Option.bind_eq_bind, List.getElem?_cons_zero, List.getElem?_cons_succ, List.getElem?_nil, List.set_cons_zero, List.set_cons_succ, List.set_nil, List.length_cons, List.length_nil, List.replicate_succ, List.replicate_zero, List.cons_append, List.nil_append, List.append_nil, List.all_cons, List.all_nil, Bool.and_true, Bool.true_and, Bool.and_false, Bool.false_and, if_true, if_false, ite_true, ite_false, List.nodup_cons, List.nodup_nil, List.not_mem_nil, List.mem_cons, not_false_eq_true, and_true, true_and, reduceIte, Nat.reduceAdd, Nat.reduceSub, Nat.reduceEqDiff, Nat.reduceLT, Nat.reduceLeDiff, Option.map_some, Option.map_none, Option.getD_some, reduceCtorEq, or_self, or_false, false_or, not_true_eq_false, decide_true, decide_false, Bool.not_true, Bool.not_false, Bool.false_eq_true, Nat.zero_add, Nat.add_zero, forall_const, Int.reduceLT, Int.reduceLE, Int.reduceNeg, Int.reduceToNat, Int.toNat_natCast, and_self, wipeE]
/-- a book -/
def isBk : T → Bool
  | .tuple [.int b, .tuple ks] => (decide (2 = b) || decide (3 = b)) && (decide (0 < ks.length) && (ks.map (isKd b ks.length)).all id)
  | _ => false
/-- how many kinds -/
def fewK : T → Bool
  | .tuple [_, .tuple ks] => decide (ks.length ≤ sizeLine)
  | _ => true
theorem is_book_ok (t : T) (hf : fewK t = true) : m_is_book [.v t] = .ok (.r (.bool (isBk t))) [.v t] := by
  cases t with
  | tuple ts =>
    match ts with
    | [] => rfl
    | [x] => cases x <;> rfl
    | x :: y :: z :: ts =>
      have h : decide (((ts.length + 1 + 1 + 1 : Nat) : Int) = 2) = false := by simp; omega
      cases x <;> simp only [m_is_book, b_is_book, eMLenE, eRep, eDLen, eNNew, eNLen, eListRng, gMax1, gSum, eMIn, eMInE, sMPut, eMNew, eMDict1, eMLen, eListZip, Option.isSome_none, Option.isSome_some, eMut, gAppend, gInsert, eRev, eIndex, eLenSet, gInt, gLen, gTuple, gList, gAbs, gMax2, gMin2, gDivmod, gEq_int, runFn, sSeq, sIf, sSet, sSetIx, sRet, sRetN, sNil, sDrop, sAsg, sFor, sPar, sNever, setO, retO, setOs, presc, eVar, eK, eTwo, v2, eFn, eDisp, eTup, eLst, eCall, eCallR, eCallK, pick, toSl, toSls, sIdx, wb, bk, esc, escs, vals, aNil, aCons, tb, Ev.tNot, Ev.tAnd, Ev.tOr, gGt, gLt, gGe, gLe, gSub, gMod, gDiv, gPow, gAdd, gMul, gInt, mulOk, g1, g2, fInt, fLen, fTuple, fList, fAbs, eAnd, eOr, eNot, eIf, eNeg, eIsi, gII, gIx, gIsN, gN, gT, gsNil, gsCons, isLent_eq, lentO, lentS_v, lentS_un, lentS_f, lentS_t, lentS_z, finE, okArg, Out.bind, Od.val, slVal, Bx.tr, Bx.t, isN, L2.ixN, L2.atI, isInt, isBool, isTuple, isList, isStr, isDict, isTL, Nat.zero_le, id_eq, eq_self, Pu.c0, Pu.c1, Pu.c2, Pu.c3, Pu.c4, Pu.c5, Pu.c6, Pu.c7, Pu.c8, Pu.c9, Pu.s1, Pu.s2, Pu.s3, Pu.s4, Pu.s5, Pu.s6, Pu.s7, Pu.s8, Pu.s9, Int.reduceEq, Nat.reduceMul, Int.ofNat_eq_natCast, wipeE, restE, exists_eq_left', Option.some.injEq, Out.ok.injEq, Prod.mk.injEq, Option.bind_some, Option.bind_none, Option.bind_eq_bind, List.getElem?_cons_zero, List.getElem?_cons_succ, List.getElem?_nil, List.set_cons_zero, List.set_cons_succ, List.set_nil, List.length_cons, List.length_nil, List.replicate_succ, List.replicate_zero, List.cons_append, List.nil_append, List.append_nil, List.all_cons, List.all_nil, Bool.and_true, Bool.true_and, Bool.and_false, Bool.false_and, if_true, if_false, ite_true, ite_false, List.nodup_cons, List.nodup_nil, List.not_mem_nil, List.mem_cons, not_false_eq_true, and_true, true_and, reduceIte, Nat.reduceAdd, Nat.reduceSub, Nat.reduceEqDiff, Nat.reduceLT, Nat.reduceLeDiff, Option.map_some, Option.map_none, Option.getD_some, reduceCtorEq, or_self, or_false, false_or, not_true_eq_false, decide_true, decide_false, Bool.not_true, Bool.not_false, Bool.false_eq_true, Nat.zero_add, Nat.add_zero, forall_const, Int.reduceLT, Int.reduceLE, Int.reduceNeg, Int.reduceToNat, Int.toNat_natCast, and_self, isBk, h]
    | [bt, kt] =>
      cases bt with
      | int b =>
        cases h2 : (decide (2 = b) || decide (3 = b)) with
        | false => cases kt <;> simp only [m_is_book, b_is_book, is_whole_ok, isW, gIn2, eMLenE, eRep, eDLen, eNNew, eNLen, eListRng, gMax1, gSum, eMIn, eMInE, sMPut, eMNew, eMDict1, eMLen, eListZip, Option.isSome_none, Option.isSome_some, eMut, gAppend, gInsert, eRev, eIndex, eLenSet, gInt, gLen, gTuple, gList, gAbs, gMax2, gMin2, gDivmod, gEq_int, runFn, sSeq, sIf, sSet, sSetIx, sRet, sRetN, sNil, sDrop, sAsg, sFor, sPar, sNever, setO, retO, setOs, presc, eVar, eK, eTwo, v2, eFn, eDisp, eTup, eLst, eCall, eCallR, eCallK, pick, toSl, toSls, sIdx, wb, bk, esc, escs, vals, aNil, aCons, tb, Ev.tNot, Ev.tAnd, Ev.tOr, gGt, gLt, gGe, gLe, gSub, gMod, gDiv, gPow, gAdd, gMul, gInt, mulOk, g1, g2, fInt, fLen, fTuple, fList, fAbs, eAnd, eOr, eNot, eIf, eNeg, eIsi, gII, gIx, gIsN, gN, gT, gsNil, gsCons, isLent_eq, lentO, lentS_v, lentS_un, lentS_f, lentS_t, lentS_z, finE, okArg, Out.bind, Od.val, slVal, Bx.tr, Bx.t, isN, L2.ixN, L2.atI, isInt, isBool, isTuple, isList, isStr, isDict, isTL, Nat.zero_le, id_eq, eq_self, Pu.c0, Pu.c1, Pu.c2, Pu.c3, Pu.c4, Pu.c5, Pu.c6, Pu.c7, Pu.c8, Pu.c9, Pu.s1, Pu.s2, Pu.s3, Pu.s4, Pu.s5, Pu.s6, Pu.s7, Pu.s8, Pu.s9, Int.reduceEq, Nat.reduceMul, Int.ofNat_eq_natCast, wipeE, restE, exists_eq_left', Option.some.injEq, Out.ok.injEq, Prod.mk.injEq, Option.bind_some, Option.bind_none, Option.bind_eq_bind, List.getElem?_cons_zero, List.getElem?_cons_succ, List.getElem?_nil, List.set_cons_zero, List.set_cons_succ, List.set_nil, List.length_cons, List.length_nil, List.replicate_succ, List.replicate_zero, List.cons_append, List.nil_append, List.append_nil, List.all_cons, List.all_nil, Bool.and_true, Bool.true_and, Bool.and_false, Bool.false_and, if_true, if_false, ite_true, ite_false, List.nodup_cons, List.nodup_nil, List.not_mem_nil, List.mem_cons, not_false_eq_true, and_true, true_and, reduceIte, Nat.reduceAdd, Nat.reduceSub, Nat.reduceEqDiff, Nat.reduceLT, Nat.reduceLeDiff, Option.map_some, Option.map_none, Option.getD_some, reduceCtorEq, or_self, or_false, false_or, not_true_eq_false, decide_true, decide_false, Bool.not_true, Bool.not_false, Bool.false_eq_true, Nat.zero_add, Nat.add_zero, forall_const, Int.reduceLT, Int.reduceLE, Int.reduceNeg, Int.reduceToNat, Int.toNat_natCast, and_self, isBk, h2]
        | true =>
          have hb : b = 2 ∨ b = 3 := by
            rw [Bool.or_eq_true] at h2
            rcases h2 with h | h
            · exact .inl (of_decide_eq_true h).symm
            · exact .inr (of_decide_eq_true h).symm
          cases kt with
          | tuple ks =>
            cases ks with
            | nil => simp only [m_is_book, b_is_book, is_whole_ok, isW, gIn2, eMLenE, eRep, eDLen, eNNew, eNLen, eListRng, gMax1, gSum, eMIn, eMInE, sMPut, eMNew, eMDict1, eMLen, eListZip, Option.isSome_none, Option.isSome_some, eMut, gAppend, gInsert, eRev, eIndex, eLenSet, gInt, gLen, gTuple, gList, gAbs, gMax2, gMin2, gDivmod, gEq_int, runFn, sSeq, sIf, sSet, sSetIx, sRet, sRetN, sNil, sDrop, sAsg, sFor, sPar, sNever, setO, retO, setOs, presc, eVar, eK, eTwo, v2, eFn, eDisp, eTup, eLst, eCall, eCallR, eCallK, pick, toSl, toSls, sIdx, wb, bk, esc, escs, vals, aNil, aCons, tb, Ev.tNot, Ev.tAnd, Ev.tOr, gGt, gLt, gGe, gLe, gSub, gMod, gDiv, gPow, gAdd, gMul, gInt, mulOk, g1, g2, fInt, fLen, fTuple, fList, fAbs, eAnd, eOr, eNot, eIf, eNeg, eIsi, gII, gIx, gIsN, gN, gT, gsNil, gsCons, isLent_eq, lentO, lentS_v, lentS_un, lentS_f, lentS_t, lentS_z, finE, okArg, Out.bind, Od.val, slVal, Bx.tr, Bx.t, isN, L2.ixN, L2.atI, isInt, isBool, isTuple, isList, isStr, isDict, isTL, Nat.zero_le, id_eq, eq_self, Pu.c0, Pu.c1, Pu.c2, Pu.c3, Pu.c4, Pu.c5, Pu.c6, Pu.c7, Pu.c8, Pu.c9, Pu.s1, Pu.s2, Pu.s3, Pu.s4, Pu.s5, Pu.s6, Pu.s7, Pu.s8, Pu.s9, Int.reduceEq, Nat.reduceMul, Int.ofNat_eq_natCast, wipeE, restE, exists_eq_left', Option.some.injEq, Out.ok.injEq, Prod.mk.injEq, Option.bind_some, Option.bind_none, Option.bind_eq_bind, List.getElem?_cons_zero, List.getElem?_cons_succ, List.getElem?_nil, List.set_cons_zero, List.set_cons_succ, List.set_nil, List.length_cons, List.length_nil, List.replicate_succ, List.replicate_zero, List.cons_append, List.nil_append, List.append_nil, List.all_cons, List.all_nil, Bool.and_true, Bool.true_and, Bool.and_false, Bool.false_and, if_true, if_false, ite_true, ite_false, List.nodup_cons, List.nodup_nil, List.not_mem_nil, List.mem_cons, not_false_eq_true, and_true, true_and, reduceIte, Nat.reduceAdd, Nat.reduceSub, Nat.reduceEqDiff, Nat.reduceLT, Nat.reduceLeDiff, Option.map_some, Option.map_none, Option.getD_some, reduceCtorEq, or_self, or_false, false_or, not_true_eq_false, decide_true, decide_false, Bool.not_true, Bool.not_false, Bool.false_eq_true, Nat.zero_add, Nat.add_zero, forall_const, Int.reduceLT, Int.reduceLE, Int.reduceNeg, Int.reduceToNat, Int.toNat_natCast, and_self, isBk, h2]
            | cons k ks =>
              have hl : (k :: ks).length ≤ sizeLine := of_decide_eq_true hf
              have h3 := book_x (.tuple [.int b, .tuple (k :: ks)]) b hb (k :: ks) hl
              have h4 : decide (((ks.length + 1 : Nat) : Int) = 0) = false := by simp; omega
              have h5 : 0 < ks.length + 1 := by omega
              simp only [m_is_book, b_is_book, is_whole_ok, isW, gIn2, eMLenE, eRep, eDLen, eNNew, eNLen, eListRng, gMax1, gSum, eMIn, eMInE, sMPut, eMNew, eMDict1, eMLen, eListZip, Option.isSome_none, Option.isSome_some, eMut, gAppend, gInsert, eRev, eIndex, eLenSet, gInt, gLen, gTuple, gList, gAbs, gMax2, gMin2, gDivmod, gEq_int, runFn, sSeq, sIf, sSet, sSetIx, sRet, sRetN, sNil, sDrop, sAsg, sFor, sPar, sNever, setO, retO, setOs, presc, eVar, eK, eTwo, v2, eFn, eDisp, eTup, eLst, eCall, eCallR, eCallK, pick, toSl, toSls, sIdx, wb, bk, esc, escs, vals, aNil, aCons, tb, Ev.tNot, Ev.tAnd, Ev.tOr, gGt, gLt, gGe, gLe, gSub, gMod, gDiv, gPow, gAdd, gMul, gInt, mulOk, g1, g2, fInt, fLen, fTuple, fList, fAbs, eAnd, eOr, eNot, eIf, eNeg, eIsi, gII, gIx, gIsN, gN, gT, gsNil, gsCons, isLent_eq, lentO, lentS_v, lentS_un, lentS_f, lentS_t, lentS_z, finE, okArg, Out.bind, Od.val, slVal, Bx.tr, Bx.t, isN, L2.ixN, L2.atI, isInt, isBool, isTuple, isList, isStr, isDict, isTL, Nat.zero_le, id_eq, eq_self, Pu.c0, Pu.c1, Pu.c2, Pu.c3, Pu.c4, Pu.c5, Pu.c6, Pu.c7, Pu.c8, Pu.c9, Pu.s1, Pu.s2, Pu.s3, Pu.s4, Pu.s5, Pu.s6, Pu.s7, Pu.s8, Pu.s9, Int.reduceEq, Nat.reduceMul, Int.ofNat_eq_natCast, wipeE, restE, exists_eq_left', Option.some.injEq, Out.ok.injEq, Prod.mk.injEq, Option.bind_some, Option.bind_none, Option.bind_eq_bind, List.getElem?_cons_zero, List.getElem?_cons_succ, List.getElem?_nil, List.set_cons_zero, List.set_cons_succ, List.set_nil, List.length_cons, List.length_nil, List.replicate_succ, List.replicate_zero, List.cons_append, List.nil_append, List.append_nil, List.all_cons, List.all_nil, Bool.and_true, Bool.true_and, Bool.and_false, Bool.false_and, if_true, if_false, ite_true, ite_false, List.nodup_cons, List.nodup_nil, List.not_mem_nil, List.mem_cons, not_false_eq_true, and_true, true_and, reduceIte, Nat.reduceAdd, Nat.reduceSub, Nat.reduceEqDiff, Nat.reduceLT, Nat.reduceLeDiff, Option.map_some, Option.map_none, Option.getD_some, reduceCtorEq, or_self, or_false, false_or, not_true_eq_false, decide_true, decide_false, Bool.not_true, Bool.not_false, Bool.false_eq_true, Nat.zero_add, Nat.add_zero, forall_const, Int.reduceLT, Int.reduceLE, Int.reduceNeg, Int.reduceToNat, Int.toNat_natCast, and_self, isBk, h2, h3, gAll_bools, h4, h5]
          | _ => simp only [m_is_book, b_is_book, is_whole_ok, isW, gIn2, eMLenE, eRep, eDLen, eNNew, eNLen, eListRng, gMax1, gSum, eMIn, eMInE, sMPut, eMNew, eMDict1, eMLen, eListZip, Option.isSome_none, Option.isSome_some, eMut, gAppend, gInsert, eRev, eIndex, eLenSet, gInt, gLen, gTuple, gList, gAbs, gMax2, gMin2, gDivmod, gEq_int, runFn, sSeq, sIf, sSet, sSetIx, sRet, sRetN, sNil, sDrop, sAsg, sFor, sPar, sNever, setO, retO, setOs, presc, eVar, eK, eTwo, v2, eFn, eDisp, eTup, eLst, eCall, eCallR, eCallK, pick, toSl, toSls, sIdx, wb, bk, esc, escs, vals, aNil, aCons, tb, Ev.tNot, Ev.tAnd, Ev.tOr, gGt, gLt, gGe, gLe, gSub, gMod, gDiv, gPow, gAdd, gMul, gInt, mulOk, g1, g2, fInt, fLen, fTuple, fList, fAbs, eAnd, eOr, eNot, eIf, eNeg, eIsi, gII, gIx, gIsN, gN, gT, gsNil, gsCons, isLent_eq, lentO, lentS_v, lentS_un, lentS_f, lentS_t, lentS_z, finE, okArg, Out.bind, Od.val, slVal, Bx.tr, Bx.t, isN, L2.ixN, L2.atI, isInt, isBool, isTuple, isList, isStr, isDict, isTL, Nat.zero_le, id_eq, eq_self, Pu.c0, Pu.c1, Pu.c2, Pu.c3, Pu.c4, Pu.c5, Pu.c6, Pu.c7, Pu.c8, Pu.c9, Pu.s1, Pu.s2, Pu.s3, Pu.s4, Pu.s5, Pu.s6, Pu.s7, Pu.s8, Pu.s9, Int.reduceEq, Nat.reduceMul, Int.ofNat_eq_natCast, wipeE, restE, exists_eq_left', Option.some.injEq, Out.ok.injEq, Prod.mk.injEq, Option.bind_some, Option.bind_none, Option.bind_eq_bind, List.getElem?_cons_zero, List.getElem?_cons_succ, List.getElem?_nil, List.set_cons_zero, List.set_cons_succ, List.set_nil, List.length_cons, List.length_nil, List.replicate_succ, List.replicate_zero, List.cons_append, List.nil_append, List.append_nil, List.all_cons, List.all_nil, Bool.and_true, Bool.true_and, Bool.and_false, Bool.false_and, if_true, if_false, ite_true, ite_false, List.nodup_cons, List.nodup_nil, List.not_mem_nil, List.mem_cons, not_false_eq_true, and_true, true_and, reduceIte, Nat.reduceAdd, Nat.reduceSub, Nat.reduceEqDiff, Nat.reduceLT, Nat.reduceLeDiff, Option.map_some, Option.map_none, Option.getD_some, reduceCtorEq, or_self, or_false, false_or, not_true_eq_false, decide_true, decide_false, Bool.not_true, Bool.not_false, Bool.false_eq_true, Nat.zero_add, Nat.add_zero, forall_const, Int.reduceLT, Int.reduceLE, Int.reduceNeg, Int.reduceToNat, Int.toNat_natCast, and_self, isBk, h2]
      | _ => cases kt <;> simp only [m_is_book, b_is_book, is_whole_ok, isW, gIn2, eMLenE, eRep, eDLen, eNNew, eNLen, eListRng, gMax1, gSum, eMIn, eMInE, sMPut, eMNew, eMDict1, eMLen, eListZip, Option.isSome_none, Option.isSome_some, eMut, gAppend, gInsert, eRev, eIndex, eLenSet, gInt, gLen, gTuple, gList, gAbs, gMax2, gMin2, gDivmod, gEq_int, runFn, sSeq, sIf, sSet, sSetIx, sRet, sRetN, sNil, sDrop, sAsg, sFor, sPar, sNever, setO, retO, setOs, presc, eVar, eK, eTwo, v2, eFn, eDisp, eTup, eLst, eCall, eCallR, eCallK, pick, toSl, toSls, sIdx, wb, bk, esc, escs, vals, aNil, aCons, tb, Ev.tNot, Ev.tAnd, Ev.tOr, gGt, gLt, gGe, gLe, gSub, gMod, gDiv, gPow, gAdd, gMul, gInt, mulOk, g1, g2, fInt, fLen, fTuple, fList, fAbs, eAnd, eOr, eNot, eIf, eNeg, eIsi, gII, gIx, gIsN, gN, gT, gsNil, gsCons, isLent_eq, lentO, lentS_v, lentS_un, lentS_f, lentS_t, lentS_z, finE, okArg, Out.bind, Od.val, slVal, Bx.tr, Bx.t, isN, L2.ixN, L2.atI, isInt, isBool, isTuple, isList, isStr, isDict, isTL, Nat.zero_le, id_eq, eq_self, Pu.c0, Pu.c1, Pu.c2, Pu.c3, Pu.c4, Pu.c5, Pu.c6, Pu.c7, Pu.c8, Pu.c9, Pu.s1, Pu.s2, Pu.s3, Pu.s4, Pu.s5, Pu.s6, Pu.s7, Pu.s8, Pu.s9, Int.reduceEq, Nat.reduceMul, Int.ofNat_eq_natCast, wipeE, restE, exists_eq_left', Option.some.injEq, Out.ok.injEq, Prod.mk.injEq, Option.bind_some, Option.bind_none, Option.bind_eq_bind, List.getElem?_cons_zero, List.getElem?_cons_succ, List.getElem?_nil, List.set_cons_zero, List.set_cons_succ, List.set_nil, List.length_cons, List.length_nil, List.replicate_succ, List.replicate_zero, List.cons_append, List.nil_append, List.append_nil, List.all_cons, List.all_nil, Bool.and_true, Bool.true_and, Bool.and_false, Bool.false_and, if_true, if_false, ite_true, ite_false, List.nodup_cons, List.nodup_nil, List.not_mem_nil, List.mem_cons, not_false_eq_true, and_true, true_and, reduceIte, Nat.reduceAdd, Nat.reduceSub, Nat.reduceEqDiff, Nat.reduceLT, Nat.reduceLeDiff, Option.map_some, Option.map_none, Option.getD_some, reduceCtorEq, or_self, or_false, false_or, not_true_eq_false, decide_true, decide_false, Bool.not_true, Bool.not_false, Bool.false_eq_true, Nat.zero_add, Nat.add_zero, forall_const, Int.reduceLT, Int.reduceLE, Int.reduceNeg, Int.reduceToNat, Int.toNat_natCast, and_self, isBk]
  | _ => rfl
/-- a cell in a posture -/
def pz1 (w : Int) (c : Int × Int) : Int × Int := (w - 1 - c.2, c.1)
def pz (w : Int) (way mir : Nat) (c : Int × Int) : Int × Int :=
  let d := (match way with | 0 => c | 1 => pz1 w c | 2 => pz1 w (pz1 w c) | _ => pz1 w (pz1 w (pz1 w c)))
  match mir with | 0 => d | _ => (d.2, d.1)
def cT (c : Int × Int) : T := .tuple [.int c.1, .int c.2]
theorem log2_small {i : Int} {k : Nat} (h : i.natAbs < 2 ^ k) (hk : 0 < k) : i.natAbs.log2 < k := by
  rcases Nat.eq_zero_or_pos i.natAbs with z | z
  · rw [z]; exact hk
  · exact (Nat.log2_lt (by omega)).mpr h
theorem pow_small {b : Int} (h0 : 0 ≤ b) (h1 : b ≤ 16) (k : Nat) (hk : k ≤ 200) : (b ^ k).natAbs.log2 < 801 := by
  refine log2_small ?_ (by omega)
  rw [Int.natAbs_pow]
  have : b.natAbs ^ k ≤ 16 ^ k := Nat.pow_le_pow_left (by omega) k
  have h2 : (16 : Nat) ^ k = 2 ^ (4 * k) := by rw [Nat.pow_mul]
  have h3 : 2 ^ (4 * k) < 2 ^ 801 := Nat.pow_lt_pow_right (by decide) (by omega)
  rw [h2] at this
  exact Nat.lt_of_le_of_lt this h3
def ptT (p : Pt) : T := .tuple [.int p.1, .int p.2.1, .int (p.2.2 : Int)]
def kT (ps : List Pt) : T := .tuple (ps.map ptT)
def bkT (B : Nat) (ks : List (List Pt)) : T := .tuple [.int (B : Int), .tuple (ks.map kT)]
abbrev nT (n : Nat) : T := .int (n : Int)
theorem get_ks {ks : List (List Pt)} {k : Nat} {ps : List Pt} (h : ks[k]? = some ps) : gIx (.tuple (ks.map kT)) (.int (k : Int)) = some (.r (kT ps)) := by
  have hk : k < ks.length := (List.getElem?_eq_some_iff.mp h).1
  obtain ⟨_, e⟩ := List.getElem?_eq_some_iff.mp h
  simp [gIx, L2.atI, L2.ixN, hk, List.getElem?_map, e]
theorem get_ps {ps : List Pt} {k : Nat} {p : Pt} (h : ps[k]? = some p) : gIx (kT ps) (.int (k : Int)) = some (.r (ptT p)) := by
  have hk : k < ps.length := (List.getElem?_eq_some_iff.mp h).1
  obtain ⟨_, e⟩ := List.getElem?_eq_some_iff.mp h
  simp [kT, gIx, L2.atI, L2.ixN, hk, List.getElem?_map, e]
theorem int_small {i : Int} {k : Nat} (h0 : 0 ≤ i) (h : i < 2 ^ k) (hk : 0 < k) : i.natAbs.log2 < k := by
  refine log2_small ?_ hk
  have e : (i.natAbs : Int) = i := Int.natAbs_of_nonneg h0
  have : (i.natAbs : Int) < ((2 ^ k : Nat) : Int) := by rw [e]; push_cast; exact h
  exact_mod_cast this
theorem run_bound {B : Nat} {ks : List (List Pt)} (g : Good B ks) : ∀ (ds : List Nat) (s : S3) (m : Nat), s.1 < ks.length → (∀ x ∈ ds, x < B * B) → 0 ≤ s.2.1 → s.2.1 < (B : Int) ^ m → 0 ≤ s.2.2 → s.2.2 < (B : Int) ^ m →
    (0 ≤ (run B ks s ds).2.1 ∧ (run B ks s ds).2.1 < (B : Int) ^ (m + ds.length)) ∧ (0 ≤ (run B ks s ds).2.2 ∧ (run B ks s ds).2.2 < (B : Int) ^ (m + ds.length))
  | [], s, m, _, _, a, b, c, d => ⟨⟨a, b⟩, c, d⟩
  | j :: ds, s, m, h, hd, a, b, c, d => by
    obtain ⟨⟨p1, p2⟩, ⟨p3, p4⟩, p5⟩ := g.prng h (hd j List.mem_cons_self)
    have st : ∀ x p : Int, 0 ≤ x → x < (B : Int) ^ m → 0 ≤ p → p < (B : Int) → 0 ≤ x * B + p ∧ x * B + p < (B : Int) ^ (m + 1) := by
      intro x p h1 h2 h3 h4
      have hB : (0 : Int) ≤ B := by omega
      refine ⟨Int.add_nonneg (Int.mul_nonneg h1 hB) h3, ?_⟩
      rw [Int.pow_succ]
      have h5 : (x + 1) * (B : Int) ≤ (B : Int) ^ m * B := Int.mul_le_mul_of_nonneg_right (by omega) hB
      rw [Int.add_mul, Int.one_mul] at h5
      omega
    have := run_bound g ds (stp B ks s j) (m + 1) p5 (fun x hx => hd x (List.mem_cons_of_mem _ hx)) (st _ _ a b p1 p2).1 (st _ _ a b p1 p2).2 (st _ _ c d p3 p4).1 (st _ _ c d p3 p4).2
    rw [run_cons, List.length_cons, show m + (ds.length + 1) = m + 1 + ds.length by omega]
    exact this
theorem pow_lt_two {B : Nat} (h : B = 2 ∨ B = 3) (n : Nat) : (B : Int) ^ n ≤ 2 ^ (2 * n) := by
  have h1 : B ^ n ≤ 2 ^ (2 * n) := by
    rw [Nat.pow_mul]
    exact Nat.pow_le_pow_left (by rcases h with h | h <;> omega) n
  exact_mod_cast h1
/-- the places so far are small -/
theorem run_small {B : Nat} {ks : List (List Pt)} (g : Good B ks) (ds : List Nat) (k : Nat) (hk : k < ks.length) (hd : ∀ x ∈ ds, x < B * B) (hl : ds.length ≤ 300) :
    (run B ks (k, 0, 0) ds).2.1.natAbs.log2 + (B : Int).natAbs.log2 < 1000000 ∧ (run B ks (k, 0, 0) ds).2.2.natAbs.log2 + (B : Int).natAbs.log2 < 1000000 := by
  have hb := run_bound g ds (k, 0, 0) 0 hk hd (Int.le_refl _) (by show (0 : Int) < (B : Int) ^ 0; rw [Int.pow_zero]; decide) (Int.le_refl _) (by show (0 : Int) < (B : Int) ^ 0; rw [Int.pow_zero]; decide)
  have h2 : (B : Int).natAbs.log2 < 10 := log2_small (by rcases g.hb with h | h <;> omega) (by decide)
  have h3 : (B : Int) ^ (0 + ds.length) ≤ 2 ^ 601 := Int.le_trans (pow_lt_two g.hb _) (by have h4 : (2 : Nat) ^ (2 * (0 + ds.length)) ≤ 2 ^ 601 := Nat.pow_le_pow_right (by decide) (by omega); exact_mod_cast h4)
  have a1 := int_small (k := 601) hb.1.1 (Int.lt_of_lt_of_le hb.1.2 h3) (by omega)
  have a2 := int_small (k := 601) hb.2.1 (Int.lt_of_lt_of_le hb.2.2 h3) (by omega)
  omega
theorem dd_nodup {α : Type} [DecidableEq α] : ∀ {xs : List α}, xs.Nodup → dd xs = xs
  | [], _ => rfl
  | x :: xs, h => by rw [dd, if_neg (List.nodup_cons.mp h).1, dd_nodup (List.nodup_cons.mp h).2]
theorem good_kd {B : Nat} {ks : List (List Pt)} (g : Good B ks) {ps : List Pt} (h : ps ∈ ks) : isKd (B : Int) (ks.length : Int) (kT ps) = true := by
  have h1 := g.len ps h
  have h2 := g.nod ps h
  have h3 := g.rng ps h
  have e1 : ((ps.map ptT).map i3) = (ps.map fun p => (p.1, p.2.1)).map fun c => [c.1, c.2] := by
    rw [List.map_map, List.map_map]; rfl
  have e2 : ((ps.map ptT).map i3).Nodup := by
    rw [e1]
    refine List.Pairwise.map _ (fun a b hab z => hab ?_) h2
    have z1 : a.1 = b.1 := by injection z
    have z2 : a.2 = b.2 := by injection z with _ z; injection z
    exact Prod.ext z1 z2
  show (decide (((ps.map ptT).length : Int) = (B : Int) * (B : Int)) && (((ps.map ptT).map (isP (B : Int) (ks.length : Int))).all id && decide (((dd ((ps.map ptT).map i3)).length : Int) = (B : Int) * (B : Int)))) = true
  simp only [dd_nodup e2, List.length_map, h1, Int.natCast_mul, decide_true, Bool.true_and, Bool.and_true, List.all_eq_true]
  intro b hb
  rw [List.map_map] at hb
  obtain ⟨p, hp, rfl⟩ := List.mem_map.mp hb
  obtain ⟨⟨q1, q2⟩, ⟨q3, q4⟩, q5⟩ := h3 p hp
  show (isI (B : Int) (.int p.1) && (isI (B : Int) (.int p.2.1) && isI (ks.length : Int) (.int (p.2.2 : Int)))) = true
  simp only [isI, Bool.and_eq_true, decide_eq_true_eq]
  omega
theorem good_bk {B : Nat} {ks : List (List Pt)} (g : Good B ks) : isBk (bkT B ks) = true := by
  show ((decide ((2 : Int) = (B : Int)) || decide ((3 : Int) = (B : Int))) && (decide (0 < (ks.map kT).length) && ((ks.map kT).map (isKd (B : Int) ((ks.map kT).length : Int))).all id)) = true
  rw [List.length_map]
  have h1 : (decide ((2 : Int) = (B : Int)) || decide ((3 : Int) = (B : Int))) = true := by
    rcases g.hb with h | h <;> subst h <;> rfl
  rw [h1, decide_eq_true g.pos, Bool.true_and, Bool.true_and, List.all_eq_true]
  intro b hb
  rw [List.map_map] at hb
  obtain ⟨ps, hp, rfl⟩ := List.mem_map.mp hb
  exact good_kd g hp
theorem good_few {B : Nat} {ks : List (List Pt)} (g : Good B ks) : fewK (bkT B ks) = true := by
  show decide ((ks.map kT).length ≤ sizeLine) = true
  have := g.few
  rw [List.length_map]
  refine decide_eq_true ?_
  unfold sizeLine; omega
structure PlOk (B : Nat) (ps : List (Int × Int)) : Prop where
  len : ps.length = B * B
  nod : ps.Nodup
  rng : ∀ c ∈ ps, (0 ≤ c.1 ∧ c.1 < (B : Int)) ∧ (0 ≤ c.2 ∧ c.2 < (B : Int))
theorem PlOk.perm {B : Nat} {ps qs : List (Int × Int)} (h : PlOk B ps) (p : qs.Perm ps) : PlOk B qs :=
  ⟨p.length_eq.trans h.len, p.nodup_iff.mpr h.nod, fun c hc => h.rng c (p.mem_iff.mp hc)⟩
inductive Pl : Nat → T → Prop
  | int (n : Nat) (i : Int) : Pl n (.int i)
  | tup {n : Nat} {xs : List T} : (∀ x ∈ xs, Pl n x) → xs.length ≤ 100000 → Pl (n + 1) (.tuple xs)
  | lst {n : Nat} {xs : List T} : (∀ x ∈ xs, Pl n x) → xs.length ≤ 100000 → Pl (n + 1) (.list xs)
theorem layAll {xs : List T} (h : ∀ x ∈ xs, PyData.canLay0 x = true) : PyData.canLayAll0 xs = true := by
  induction xs with
  | nil => rfl
  | cons x xs ih => rw [PyData.canLayAll0, h x List.mem_cons_self, ih fun y hy => h y (List.mem_cons_of_mem _ hy)]; rfl
theorem depAll {n : Nat} {xs : List T} (h : ∀ x ∈ xs, PyData.depth x ≤ n) : PyData.depthAll xs ≤ n := by
  induction xs with
  | nil => exact Nat.zero_le _
  | cons x xs ih => rw [PyData.depthAll]; exact Nat.max_le.mpr ⟨h x List.mem_cons_self, ih fun y hy => h y (List.mem_cons_of_mem _ hy)⟩
theorem Pl.lay {n : Nat} {t : T} (h : Pl n t) : PyData.canLay0 t = true ∧ PyData.depth t ≤ n := by
  induction h with
  | int n i => exact ⟨rfl, Nat.zero_le _⟩
  | tup h hl ih => exact ⟨by rw [PyData.canLay0]; exact layAll fun x hx => (ih x hx).1, by rw [PyData.depth]; exact Nat.succ_le_succ (depAll fun x hx => (ih x hx).2)⟩
  | lst h hl ih => exact ⟨by rw [PyData.canLay0]; exact layAll fun x hx => (ih x hx).1, by rw [PyData.depth]; exact Nat.succ_le_succ (depAll fun x hx => (ih x hx).2)⟩
theorem Pl.shaped {n : Nat} {t : T} (h : Pl n t) (hn : n ≤ 64) : SeqAt.shaped t = true := by
  unfold SeqAt.shaped
  rw [h.lay.1, Bool.true_and]
  exact decide_eq_true (Nat.le_trans h.lay.2 hn)
theorem ix_list (xs : List T) (k : Nat) (x : T) (h : xs[k]? = some x) : gIx (.list xs) (.int (k : Int)) = some (.r x) := by
  obtain ⟨hk, e⟩ := List.getElem?_eq_some_iff.mp h
  simp [gIx, L2.atI, L2.ixN, hk, e]
theorem ix_tup (xs : List T) (k : Nat) (x : T) (h : xs[k]? = some x) : gIx (.tuple xs) (.int (k : Int)) = some (.r x) := by
  obtain ⟨hk, e⟩ := List.getElem?_eq_some_iff.mp h
  simp [gIx, L2.atI, L2.ixN, hk, e]
structure RowOk (B n : Nat) (ps : List Pt) : Prop where
  len : ps.length = B * B
  rng : ∀ p ∈ ps, (0 ≤ p.1 ∧ p.1 < (B : Int)) ∧ (0 ≤ p.2.1 ∧ p.2.1 < (B : Int)) ∧ p.2.2 < n
  nod : (ps.map fun p => (p.1, p.2.1)).Nodup
theorem row_of {B n : Nat} {cs : List (Int × Int)} {ps : List Pt} (h : PlOk B cs) (e : (ps.map fun p => (p.1, p.2.1)) = cs) (hn : ∀ p ∈ ps, p.2.2 < n) : RowOk B n ps := by
  refine ⟨?_, fun p hp => ?_, by rw [e]; exact h.nod⟩
  · rw [← h.len, ← e, List.length_map]
  · have := h.rng (p.1, p.2.1) (by rw [← e]; exact List.mem_map_of_mem (f := fun p : Pt => (p.1, p.2.1)) hp)
    exact ⟨this.1, this.2, hn p hp⟩
theorem good_of {B : Nat} {ks : List (List Pt)} (hb : B = 2 ∨ B = 3) (h0 : 0 < ks.length) (h1 : ks.length ≤ 20) (h : ∀ ps ∈ ks, RowOk B ks.length ps) : Good B ks :=
  ⟨hb, h0, h1, fun ps hp => (h ps hp).len, fun ps hp => (h ps hp).rng, fun ps hp => (h ps hp).nod⟩
theorem all_refl {xs : List T} (h : ∀ x ∈ xs, PyData.eqv x x = true) : PyData.eqvAll xs xs = true := by
  induction xs with
  | nil => rfl
  | cons x xs ih => rw [PyData.eqvAll, h x List.mem_cons_self, ih fun y hy => h y (List.mem_cons_of_mem _ hy)]; rfl
theorem Pl.eqv {n : Nat} {t : T} (h : Pl n t) : PyData.eqv t t = true := by
  induction h with
  | int n i => rw [PyData.eqv]; simp
  | tup h hl ih => rw [PyData.eqv]; exact all_refl ih
  | lst h hl ih => rw [PyData.eqv]; exact all_refl ih
set_option linter.all false
set_option maxRecDepth 100000
set_option maxHeartbeats 4000000
open PySem PySem.Spec Ev Pu Mt Wp
theorem pw_st (y : SemS) (tB tN t1 tz : T) (l3 : Sl) (h : y [.v tB, .v tN, .v t1, .un] = .ok .nx [.v tB, .v tN, .v tz, l3]) : runFn 4 (sSeq (sSet 2 (eK t1)) (sSeq y (sRet (eVar 2)))) [.v tB, .v tN] = .ok (.r tz) [.v tB, .v tN] := by
  simp only [h, eMLenE, eRep, eDLen, eNNew, eNLen, eListRng, gMax1, gSum, eMIn, eMInE, sMPut, eMNew, eMDict1, eMLen, eListZip, Option.isSome_none, Option.isSome_some, eMut, gAppend, gInsert, eRev, eIndex, eLenSet, gInt, gLen, gTuple, gList, gAbs, gMax2, gMin2, gDivmod, gEq_int, runFn, sSeq, sIf, sSet, sSetIx, sRet, sRetN, sNil, sDrop, sAsg, sFor, sPar, sNever, setO, retO, setOs, presc, eVar, eK, eTwo, v2, eFn, eDisp, eTup, eLst, eCall, eCallR, eCallK, pick, toSl, toSls, sIdx, wb, bk, esc, escs, vals, aNil, aCons, tb, Ev.tNot, Ev.tAnd, Ev.tOr, gGt, gLt, gGe, gLe, gSub, gMod, gDiv, gPow, gAdd, gMul, gInt, mulOk, g1, g2, fInt, fLen, fTuple, fList, fAbs, eAnd, eOr, eNot, eIf, eNeg, eIsi, gII, gIx, gIsN, gN, gT, gsNil, gsCons, isLent_eq, lentO, lentS_v, lentS_un, lentS_f, lentS_t, lentS_z, finE, okArg, Out.bind, Od.val, slVal, Bx.tr, Bx.t, isN, L2.ixN, L2.atI, isInt, isBool, isTuple, isList, isStr, isDict, isTL, Nat.zero_le, id_eq, eq_self, Pu.c0, Pu.c1, Pu.c2, Pu.c3, Pu.c4, Pu.c5, Pu.c6, Pu.c7, Pu.c8, Pu.c9, Pu.s1, Pu.s2, Pu.s3, Pu.s4, Pu.s5, Pu.s6, Pu.s7, Pu.s8, Pu.s9, Int.reduceEq, Nat.reduceMul, Int.ofNat_eq_natCast, wipeE, restE, exists_eq_left', Option.some.injEq, Out.ok.injEq, Prod.mk.injEq, Option.bind_some, Option.bind_none, Option.bind_eq_bind, List.getElem?_cons_zero, List.getElem?_cons_succ, List.getElem?_nil, List.set_cons_zero, List.set_cons_succ, List.set_nil, List.length_cons, List.length_nil, List.replicate_succ, List.replicate_zero, List.cons_append, List.nil_append, List.append_nil, List.all_cons, List.all_nil, Bool.and_true, Bool.true_and, Bool.and_false, Bool.false_and, if_true, if_false, ite_true, ite_false, List.nodup_cons, List.nodup_nil, List.not_mem_nil, List.mem_cons, not_false_eq_true, and_true, true_and, reduceIte, Nat.reduceAdd, Nat.reduceSub, Nat.reduceEqDiff, Nat.reduceLT, Nat.reduceLeDiff, Option.map_some, Option.map_none, Option.getD_some, reduceCtorEq, or_self, or_false, false_or, not_true_eq_false, decide_true, decide_false, Bool.not_true, Bool.not_false, Bool.false_eq_true, Nat.zero_add, Nat.add_zero, forall_const, Int.reduceLT, Int.reduceLE, Int.reduceNeg, Int.reduceToNat, Int.toNat_natCast, and_self]
theorem power_ok (b : Int) (n : Nat) (h0 : 0 ≤ b) (h1 : b ≤ 16) (hn : n ≤ 200) : m_power [.v (.int b), .v (.int (n : Int))] = .ok (.r (.int (b ^ n))) [.v (.int b), .v (.int (n : Int))] := by
  have hb : b.natAbs.log2 < 5 := log2_small (by omega) (by omega)
  obtain ⟨e', h, l3, a3, rfl⟩ := for_on (g := gN 3) (b := y1_power) (fun (k : Nat) => PyData.int (0 + (k : Int))) (fun don e => ∃ l3, lentS l3 = false ∧ e = [.v (.int b), .v (.int (n : Int)), .v (.int (b ^ don.length)), l3]) 200 (List.range n) [] [.v (.int b), .v (.int (n : Int)), .v (.int (b ^ 0)), .un] ⟨_, rfl, rfl⟩ (by simpa using hn) fun k _ don e hd ⟨l3, a3, he⟩ => by
    subst he
    have h2 := pow_small h0 h1 don.length (by omega)
    have h3 : (b ^ don.length).natAbs.log2 + b.natAbs.log2 < 1000000 := by omega
    rw [List.length_append, List.length_singleton, Int.pow_succ]
    generalize b ^ don.length = z at h3 ⊢
    generalize don.length = dl
    refine ⟨[.v (.int b), .v (.int (n : Int)), .v (.int z), .v (.int (0 + (k : Int)))], by simp only [a3, eMLenE, eRep, eDLen, eNNew, eNLen, eListRng, gMax1, gSum, eMIn, eMInE, sMPut, eMNew, eMDict1, eMLen, eListZip, Option.isSome_none, Option.isSome_some, eMut, gAppend, gInsert, eRev, eIndex, eLenSet, gInt, gLen, gTuple, gList, gAbs, gMax2, gMin2, gDivmod, gEq_int, runFn, sSeq, sIf, sSet, sSetIx, sRet, sRetN, sNil, sDrop, sAsg, sFor, sPar, sNever, setO, retO, setOs, presc, eVar, eK, eTwo, v2, eFn, eDisp, eTup, eLst, eCall, eCallR, eCallK, pick, toSl, toSls, sIdx, wb, bk, esc, escs, vals, aNil, aCons, tb, Ev.tNot, Ev.tAnd, Ev.tOr, gGt, gLt, gGe, gLe, gSub, gMod, gDiv, gPow, gAdd, gMul, gInt, mulOk, g1, g2, fInt, fLen, fTuple, fList, fAbs, eAnd, eOr, eNot, eIf, eNeg, eIsi, gII, gIx, gIsN, gN, gT, gsNil, gsCons, isLent_eq, lentO, lentS_v, lentS_un, lentS_f, lentS_t, lentS_z, finE, okArg, Out.bind, Od.val, slVal, Bx.tr, Bx.t, isN, L2.ixN, L2.atI, isInt, isBool, isTuple, isList, isStr, isDict, isTL, Nat.zero_le, id_eq, eq_self, Pu.c0, Pu.c1, Pu.c2, Pu.c3, Pu.c4, Pu.c5, Pu.c6, Pu.c7, Pu.c8, Pu.c9, Pu.s1, Pu.s2, Pu.s3, Pu.s4, Pu.s5, Pu.s6, Pu.s7, Pu.s8, Pu.s9, Int.reduceEq, Nat.reduceMul, Int.ofNat_eq_natCast, wipeE, restE, exists_eq_left', Option.some.injEq, Out.ok.injEq, Prod.mk.injEq, Option.bind_some, Option.bind_none, Option.bind_eq_bind, List.getElem?_cons_zero, List.getElem?_cons_succ, List.getElem?_nil, List.set_cons_zero, List.set_cons_succ, List.set_nil, List.length_cons, List.length_nil, List.replicate_succ, List.replicate_zero, List.cons_append, List.nil_append, List.append_nil, List.all_cons, List.all_nil, Bool.and_true, Bool.true_and, Bool.and_false, Bool.false_and, if_true, if_false, ite_true, ite_false, List.nodup_cons, List.nodup_nil, List.not_mem_nil, List.mem_cons, not_false_eq_true, and_true, true_and, reduceIte, Nat.reduceAdd, Nat.reduceSub, Nat.reduceEqDiff, Nat.reduceLT, Nat.reduceLeDiff, Option.map_some, Option.map_none, Option.getD_some, reduceCtorEq, or_self, or_false, false_or, not_true_eq_false, decide_true, decide_false, Bool.not_true, Bool.not_false, Bool.false_eq_true, Nat.zero_add, Nat.add_zero, forall_const, Int.reduceLT, Int.reduceLE, Int.reduceNeg, Int.reduceToNat, Int.toNat_natCast, and_self], [.v (.int b), .v (.int (n : Int)), .v (.int (z * b)), .v (.int (0 + (k : Int)))], .inl ?_, _, rfl, rfl⟩
    unfold y1_power
    simp only [h3, eMLenE, eRep, eDLen, eNNew, eNLen, eListRng, gMax1, gSum, eMIn, eMInE, sMPut, eMNew, eMDict1, eMLen, eListZip, Option.isSome_none, Option.isSome_some, eMut, gAppend, gInsert, eRev, eIndex, eLenSet, gInt, gLen, gTuple, gList, gAbs, gMax2, gMin2, gDivmod, gEq_int, runFn, sSeq, sIf, sSet, sSetIx, sRet, sRetN, sNil, sDrop, sAsg, sFor, sPar, sNever, setO, retO, setOs, presc, eVar, eK, eTwo, v2, eFn, eDisp, eTup, eLst, eCall, eCallR, eCallK, pick, toSl, toSls, sIdx, wb, bk, esc, escs, vals, aNil, aCons, tb, Ev.tNot, Ev.tAnd, Ev.tOr, gGt, gLt, gGe, gLe, gSub, gMod, gDiv, gPow, gAdd, gMul, gInt, mulOk, g1, g2, fInt, fLen, fTuple, fList, fAbs, eAnd, eOr, eNot, eIf, eNeg, eIsi, gII, gIx, gIsN, gN, gT, gsNil, gsCons, isLent_eq, lentO, lentS_v, lentS_un, lentS_f, lentS_t, lentS_z, finE, okArg, Out.bind, Od.val, slVal, Bx.tr, Bx.t, isN, L2.ixN, L2.atI, isInt, isBool, isTuple, isList, isStr, isDict, isTL, Nat.zero_le, id_eq, eq_self, Pu.c0, Pu.c1, Pu.c2, Pu.c3, Pu.c4, Pu.c5, Pu.c6, Pu.c7, Pu.c8, Pu.c9, Pu.s1, Pu.s2, Pu.s3, Pu.s4, Pu.s5, Pu.s6, Pu.s7, Pu.s8, Pu.s9, Int.reduceEq, Nat.reduceMul, Int.ofNat_eq_natCast, wipeE, restE, exists_eq_left', Option.some.injEq, Out.ok.injEq, Prod.mk.injEq, Option.bind_some, Option.bind_none, Option.bind_eq_bind, List.getElem?_cons_zero, List.getElem?_cons_succ, List.getElem?_nil, List.set_cons_zero, List.set_cons_succ, List.set_nil, List.length_cons, List.length_nil, List.replicate_succ, List.replicate_zero, List.cons_append, List.nil_append, List.append_nil, List.all_cons, List.all_nil, Bool.and_true, Bool.true_and, Bool.and_false, Bool.false_and, if_true, if_false, ite_true, ite_false, List.nodup_cons, List.nodup_nil, List.not_mem_nil, List.mem_cons, not_false_eq_true, and_true, true_and, reduceIte, Nat.reduceAdd, Nat.reduceSub, Nat.reduceEqDiff, Nat.reduceLT, Nat.reduceLeDiff, Option.map_some, Option.map_none, Option.getD_some, reduceCtorEq, or_self, or_false, false_or, not_true_eq_false, decide_true, decide_false, Bool.not_true, Bool.not_false, Bool.false_eq_true, Nat.zero_add, Nat.add_zero, forall_const, Int.reduceLT, Int.reduceLE, Int.reduceNeg, Int.reduceToNat, Int.toNat_natCast, and_self]
  rw [List.nil_append, List.length_range, Int.pow_zero] at h
  have hl : l1_power [.v (.int b), .v (.int (n : Int)), .v (.int 1), .un] = .ok .nx [.v (.int b), .v (.int (n : Int)), .v (.int (b ^ n)), l3] := by
    have hi := iR1_nat (m := aCons (eVar 1) aNil) (e := [.v (.int b), .v (.int (n : Int)), .v (.int 1), .un]) (e1 := [.v (.int b), .v (.int (n : Int)), .v (.int 1), .un]) (rs := [.r (.int (n : Int))]) (n := n) rfl rfl (by omega)
    unfold l1_power
    rw [sFor_eq hi]
    exact h
  exact pw_st l1_power _ _ _ _ _ hl
/-- the digits of a number, the last first -/
def dgl (n b : Int) (k : Nat) : List Int := (List.range k).map fun j => n / b ^ j % b
theorem dgl_succ (n b : Int) (k : Nat) : dgl n b (k + 1) = dgl n b k ++ [n / b ^ k % b] := by
  unfold dgl; rw [List.range_succ, List.map_append, List.map_cons, List.map_nil]
theorem dd_div (n b : Int) (k : Nat) (h0 : 0 < b) : n / b ^ k / b = n / (b ^ k * b) := by
  rw [Int.ediv_ediv_of_nonneg (Int.pow_nonneg (by omega))]
theorem dg_st (y : SemS) (tB tN tK tZ : T) (acc : List T) (l4 l5 : Sl) (h : y [.v tN, .v tB, .v tK, .ow false (.l []), .un, .un] = .ok .nx [.v tZ, .v tB, .v tK, .ow false (.l acc), l4, l5]) : runFn 6 (sSeq (sSet 3 (eLst aNil)) (sSeq y (sRet (eRev (eVar 3))))) [.v tN, .v tB, .v tK] = .ok (.b (.l acc.reverse)) [.v tN, .v tB, .v tK] := by
  simp only [h, eMLenE, eRep, eDLen, eNNew, eNLen, eListRng, gMax1, gSum, eMIn, eMInE, sMPut, eMNew, eMDict1, eMLen, eListZip, Option.isSome_none, Option.isSome_some, eMut, gAppend, gInsert, eRev, eIndex, eLenSet, gInt, gLen, gTuple, gList, gAbs, gMax2, gMin2, gDivmod, gEq_int, runFn, sSeq, sIf, sSet, sSetIx, sRet, sRetN, sNil, sDrop, sAsg, sFor, sPar, sNever, setO, retO, setOs, presc, eVar, eK, eTwo, v2, eFn, eDisp, eTup, eLst, eCall, eCallR, eCallK, pick, toSl, toSls, sIdx, wb, bk, esc, escs, vals, aNil, aCons, tb, Ev.tNot, Ev.tAnd, Ev.tOr, gGt, gLt, gGe, gLe, gSub, gMod, gDiv, gPow, gAdd, gMul, gInt, mulOk, g1, g2, fInt, fLen, fTuple, fList, fAbs, eAnd, eOr, eNot, eIf, eNeg, eIsi, gII, gIx, gIsN, gN, gT, gsNil, gsCons, isLent_eq, lentO, lentS_v, lentS_un, lentS_f, lentS_t, lentS_z, finE, okArg, Out.bind, Od.val, slVal, Bx.tr, Bx.t, isN, L2.ixN, L2.atI, isInt, isBool, isTuple, isList, isStr, isDict, isTL, Nat.zero_le, id_eq, eq_self, Pu.c0, Pu.c1, Pu.c2, Pu.c3, Pu.c4, Pu.c5, Pu.c6, Pu.c7, Pu.c8, Pu.c9, Pu.s1, Pu.s2, Pu.s3, Pu.s4, Pu.s5, Pu.s6, Pu.s7, Pu.s8, Pu.s9, Int.reduceEq, Nat.reduceMul, Int.ofNat_eq_natCast, wipeE, restE, exists_eq_left', Option.some.injEq, Out.ok.injEq, Prod.mk.injEq, Option.bind_some, Option.bind_none, Option.bind_eq_bind, List.getElem?_cons_zero, List.getElem?_cons_succ, List.getElem?_nil, List.set_cons_zero, List.set_cons_succ, List.set_nil, List.length_cons, List.length_nil, List.replicate_succ, List.replicate_zero, List.cons_append, List.nil_append, List.append_nil, List.all_cons, List.all_nil, Bool.and_true, Bool.true_and, Bool.and_false, Bool.false_and, if_true, if_false, ite_true, ite_false, List.nodup_cons, List.nodup_nil, List.not_mem_nil, List.mem_cons, not_false_eq_true, and_true, true_and, reduceIte, Nat.reduceAdd, Nat.reduceSub, Nat.reduceEqDiff, Nat.reduceLT, Nat.reduceLeDiff, Option.map_some, Option.map_none, Option.getD_some, reduceCtorEq, or_self, or_false, false_or, not_true_eq_false, decide_true, decide_false, Bool.not_true, Bool.not_false, Bool.false_eq_true, Nat.zero_add, Nat.add_zero, forall_const, Int.reduceLT, Int.reduceLE, Int.reduceNeg, Int.reduceToNat, Int.toNat_natCast, and_self]
theorem digits_ok (n b : Int) (k : Nat) (h0 : 0 < b) (h1 : b ≤ 16) (hk : k ≤ 200) : m_digits_of [.v (.int n), .v (.int b), .v (.int (k : Int))] = .ok (.b (.l ((dgl n b k).map .int).reverse)) [.v (.int n), .v (.int b), .v (.int (k : Int))] := by
  obtain ⟨e', h, l4, l5, ⟨a4, a5⟩, rfl⟩ := for_on (g := gN 4) (b := y1_digits_of) (fun (k : Nat) => PyData.int (0 + (k : Int))) (fun don e => ∃ l4 l5, (lentS l4 = false ∧ lentS l5 = false) ∧ e = [.v (.int (n / b ^ don.length)), .v (.int b), .v (.int (k : Int)), .ow false (.l ((dgl n b don.length).map .int)), l4, l5]) 200 (List.range k) [] [.v (.int n), .v (.int b), .v (.int (k : Int)), .ow false (.l []), .un, .un] ⟨_, _, ⟨rfl, rfl⟩, by rw [List.length_nil, Int.pow_zero, Int.ediv_one]; rfl⟩ (by simpa using hk) fun j _ don e hd ⟨l4, l5, ⟨a4, a5⟩, he⟩ => by
    subst he
    have hc : ((dgl n b don.length).map PyData.int).length < sizeLine := by simp only [dgl, List.length_map, List.length_range]; unfold sizeLine; omega
    have hq : 0 < b ∧ b < 1073741824 := by omega
    rw [List.length_append, List.length_singleton, dgl_succ, Int.pow_succ, ← dd_div n b don.length h0, List.map_append, List.map_cons, List.map_nil]
    generalize (dgl n b don.length).map PyData.int = acc at hc ⊢
    generalize n / b ^ don.length = z
    refine ⟨[.v (.int z), .v (.int b), .v (.int (k : Int)), .ow false (.l acc), .v (.int (0 + (j : Int))), l5], by simp only [a4, eMLenE, eRep, eDLen, eNNew, eNLen, eListRng, gMax1, gSum, eMIn, eMInE, sMPut, eMNew, eMDict1, eMLen, eListZip, Option.isSome_none, Option.isSome_some, eMut, gAppend, gInsert, eRev, eIndex, eLenSet, gInt, gLen, gTuple, gList, gAbs, gMax2, gMin2, gDivmod, gEq_int, runFn, sSeq, sIf, sSet, sSetIx, sRet, sRetN, sNil, sDrop, sAsg, sFor, sPar, sNever, setO, retO, setOs, presc, eVar, eK, eTwo, v2, eFn, eDisp, eTup, eLst, eCall, eCallR, eCallK, pick, toSl, toSls, sIdx, wb, bk, esc, escs, vals, aNil, aCons, tb, Ev.tNot, Ev.tAnd, Ev.tOr, gGt, gLt, gGe, gLe, gSub, gMod, gDiv, gPow, gAdd, gMul, gInt, mulOk, g1, g2, fInt, fLen, fTuple, fList, fAbs, eAnd, eOr, eNot, eIf, eNeg, eIsi, gII, gIx, gIsN, gN, gT, gsNil, gsCons, isLent_eq, lentO, lentS_v, lentS_un, lentS_f, lentS_t, lentS_z, finE, okArg, Out.bind, Od.val, slVal, Bx.tr, Bx.t, isN, L2.ixN, L2.atI, isInt, isBool, isTuple, isList, isStr, isDict, isTL, Nat.zero_le, id_eq, eq_self, Pu.c0, Pu.c1, Pu.c2, Pu.c3, Pu.c4, Pu.c5, Pu.c6, Pu.c7, Pu.c8, Pu.c9, Pu.s1, Pu.s2, Pu.s3, Pu.s4, Pu.s5, Pu.s6, Pu.s7, Pu.s8, Pu.s9, Int.reduceEq, Nat.reduceMul, Int.ofNat_eq_natCast, wipeE, restE, exists_eq_left', Option.some.injEq, Out.ok.injEq, Prod.mk.injEq, Option.bind_some, Option.bind_none, Option.bind_eq_bind, List.getElem?_cons_zero, List.getElem?_cons_succ, List.getElem?_nil, List.set_cons_zero, List.set_cons_succ, List.set_nil, List.length_cons, List.length_nil, List.replicate_succ, List.replicate_zero, List.cons_append, List.nil_append, List.append_nil, List.all_cons, List.all_nil, Bool.and_true, Bool.true_and, Bool.and_false, Bool.false_and, if_true, if_false, ite_true, ite_false, List.nodup_cons, List.nodup_nil, List.not_mem_nil, List.mem_cons, not_false_eq_true, and_true, true_and, reduceIte, Nat.reduceAdd, Nat.reduceSub, Nat.reduceEqDiff, Nat.reduceLT, Nat.reduceLeDiff, Option.map_some, Option.map_none, Option.getD_some, reduceCtorEq, or_self, or_false, false_or, not_true_eq_false, decide_true, decide_false, Bool.not_true, Bool.not_false, Bool.false_eq_true, Nat.zero_add, Nat.add_zero, forall_const, Int.reduceLT, Int.reduceLE, Int.reduceNeg, Int.reduceToNat, Int.toNat_natCast, and_self], [.v (.int (z / b)), .v (.int b), .v (.int (k : Int)), .ow false (.l (acc ++ [.int (z % b)])), .v (.int (0 + (j : Int))), .v (.int (z % b))], .inl ?_, _, _, ⟨rfl, rfl⟩, rfl⟩
    unfold y1_digits_of
    simp only [hc, hq, a5, eMLenE, eRep, eDLen, eNNew, eNLen, eListRng, gMax1, gSum, eMIn, eMInE, sMPut, eMNew, eMDict1, eMLen, eListZip, Option.isSome_none, Option.isSome_some, eMut, gAppend, gInsert, eRev, eIndex, eLenSet, gInt, gLen, gTuple, gList, gAbs, gMax2, gMin2, gDivmod, gEq_int, runFn, sSeq, sIf, sSet, sSetIx, sRet, sRetN, sNil, sDrop, sAsg, sFor, sPar, sNever, setO, retO, setOs, presc, eVar, eK, eTwo, v2, eFn, eDisp, eTup, eLst, eCall, eCallR, eCallK, pick, toSl, toSls, sIdx, wb, bk, esc, escs, vals, aNil, aCons, tb, Ev.tNot, Ev.tAnd, Ev.tOr, gGt, gLt, gGe, gLe, gSub, gMod, gDiv, gPow, gAdd, gMul, gInt, mulOk, g1, g2, fInt, fLen, fTuple, fList, fAbs, eAnd, eOr, eNot, eIf, eNeg, eIsi, gII, gIx, gIsN, gN, gT, gsNil, gsCons, isLent_eq, lentO, lentS_v, lentS_un, lentS_f, lentS_t, lentS_z, finE, okArg, Out.bind, Od.val, slVal, Bx.tr, Bx.t, isN, L2.ixN, L2.atI, isInt, isBool, isTuple, isList, isStr, isDict, isTL, Nat.zero_le, id_eq, eq_self, Pu.c0, Pu.c1, Pu.c2, Pu.c3, Pu.c4, Pu.c5, Pu.c6, Pu.c7, Pu.c8, Pu.c9, Pu.s1, Pu.s2, Pu.s3, Pu.s4, Pu.s5, Pu.s6, Pu.s7, Pu.s8, Pu.s9, Int.reduceEq, Nat.reduceMul, Int.ofNat_eq_natCast, wipeE, restE, exists_eq_left', Option.some.injEq, Out.ok.injEq, Prod.mk.injEq, Option.bind_some, Option.bind_none, Option.bind_eq_bind, List.getElem?_cons_zero, List.getElem?_cons_succ, List.getElem?_nil, List.set_cons_zero, List.set_cons_succ, List.set_nil, List.length_cons, List.length_nil, List.replicate_succ, List.replicate_zero, List.cons_append, List.nil_append, List.append_nil, List.all_cons, List.all_nil, Bool.and_true, Bool.true_and, Bool.and_false, Bool.false_and, if_true, if_false, ite_true, ite_false, List.nodup_cons, List.nodup_nil, List.not_mem_nil, List.mem_cons, not_false_eq_true, and_true, true_and, reduceIte, Nat.reduceAdd, Nat.reduceSub, Nat.reduceEqDiff, Nat.reduceLT, Nat.reduceLeDiff, Option.map_some, Option.map_none, Option.getD_some, reduceCtorEq, or_self, or_false, false_or, not_true_eq_false, decide_true, decide_false, Bool.not_true, Bool.not_false, Bool.false_eq_true, Nat.zero_add, Nat.add_zero, forall_const, Int.reduceLT, Int.reduceLE, Int.reduceNeg, Int.reduceToNat, Int.toNat_natCast, and_self]
  rw [List.nil_append, List.length_range] at h
  have hl : l1_digits_of [.v (.int n), .v (.int b), .v (.int (k : Int)), .ow false (.l []), .un, .un] = .ok .nx [.v (.int (n / b ^ k)), .v (.int b), .v (.int (k : Int)), .ow false (.l ((dgl n b k).map .int)), l4, l5] := by
    have hi := iR1_nat (m := aCons (eVar 2) aNil) (e := [.v (.int n), .v (.int b), .v (.int (k : Int)), .ow false (.l []), .un, .un]) (e1 := [.v (.int n), .v (.int b), .v (.int (k : Int)), .ow false (.l []), .un, .un]) (rs := [.r (.int (k : Int))]) (n := k) rfl rfl (by omega)
    unfold l1_digits_of
    rw [sFor_eq hi]
    exact h
  exact dg_st l1_digits_of _ _ _ _ _ _ _ hl
theorem ck_y (t0 t2 t3 kds row : T) (b k x y dig px py pk : Int) (l9 l10 : Sl) (a9 : lentS l9 = false) (a10 : lentS l10 = false)
    (h1 : gIx kds (.int k) = some (.r row)) (h2 : gIx row (.int dig) = some (.r (.tuple [.int px, .int py, .int pk]))) (hx : x.natAbs.log2 + b.natAbs.log2 < 1000000) (hy : y.natAbs.log2 + b.natAbs.log2 < 1000000) :
    y1_cell_in_kind [.v t0, .v (.int k), .v t2, .v t3, .v (.int b), .v kds, .v (.int x), .v (.int y), .v (.int dig), l9, l10] = .ok .nx [.v t0, .v (.int pk), .v t2, .v t3, .v (.int b), .v kds, .v (.int (x * b + px)), .v (.int (y * b + py)), .v (.int dig), .v (.int px), .v (.int py)] := by
  unfold y1_cell_in_kind
  simp only [h1, h2, hx, hy, a9, a10, eMLenE, eRep, eDLen, eNNew, eNLen, eListRng, gMax1, gSum, eMIn, eMInE, sMPut, eMNew, eMDict1, eMLen, eListZip, Option.isSome_none, Option.isSome_some, eMut, gAppend, gInsert, eRev, eIndex, eLenSet, gInt, gLen, gTuple, gList, gAbs, gMax2, gMin2, gDivmod, gEq_int, runFn, sSeq, sIf, sSet, sSetIx, sRet, sRetN, sNil, sDrop, sAsg, sFor, sPar, sNever, setO, retO, setOs, presc, eVar, eK, eTwo, v2, eFn, eDisp, eTup, eLst, eCall, eCallR, eCallK, pick, toSl, toSls, sIdx, wb, bk, esc, escs, vals, aNil, aCons, tb, Ev.tNot, Ev.tAnd, Ev.tOr, gGt, gLt, gGe, gLe, gSub, gMod, gDiv, gPow, gAdd, gMul, gInt, mulOk, g1, g2, fInt, fLen, fTuple, fList, fAbs, eAnd, eOr, eNot, eIf, eNeg, eIsi, gII, gIsN, gN, gT, gsNil, gsCons, isLent_eq, lentO, lentS_v, lentS_un, lentS_f, lentS_t, lentS_z, finE, okArg, Out.bind, Od.val, slVal, Bx.tr, Bx.t, isN, L2.ixN, L2.atI, isInt, isBool, isTuple, isList, isStr, isDict, isTL, Nat.zero_le, id_eq, eq_self, Pu.c0, Pu.c1, Pu.c2, Pu.c3, Pu.c4, Pu.c5, Pu.c6, Pu.c7, Pu.c8, Pu.c9, Pu.s1, Pu.s2, Pu.s3, Pu.s4, Pu.s5, Pu.s6, Pu.s7, Pu.s8, Pu.s9, Int.reduceEq, Nat.reduceMul, Int.ofNat_eq_natCast, wipeE, restE, exists_eq_left', Option.some.injEq, Out.ok.injEq, Prod.mk.injEq, Option.bind_some, Option.bind_none, Option.bind_eq_bind, List.getElem?_cons_zero, List.getElem?_cons_succ, List.getElem?_nil, List.set_cons_zero, List.set_cons_succ, List.set_nil, List.length_cons, List.length_nil, List.replicate_succ, List.replicate_zero, List.cons_append, List.nil_append, List.append_nil, List.all_cons, List.all_nil, Bool.and_true, Bool.true_and, Bool.and_false, Bool.false_and, if_true, if_false, ite_true, ite_false, List.nodup_cons, List.nodup_nil, List.not_mem_nil, List.mem_cons, not_false_eq_true, and_true, true_and, reduceIte, Nat.reduceAdd, Nat.reduceSub, Nat.reduceEqDiff, Nat.reduceLT, Nat.reduceLeDiff, Option.map_some, Option.map_none, Option.getD_some, reduceCtorEq, or_self, or_false, false_or, not_true_eq_false, decide_true, decide_false, Bool.not_true, Bool.not_false, Bool.false_eq_true, Nat.zero_add, Nat.add_zero, forall_const, Int.reduceLT, Int.reduceLE, Int.reduceNeg, Int.reduceToNat, Int.toNat_natCast, and_self]
theorem dgl_digs (n N : Nat) : ∀ d, ((dgl (n : Int) (N : Int) d).map PyData.int).reverse = (digs N n d).map nT
  | 0 => rfl
  | d + 1 => by
    rw [dgl_succ, List.map_append, List.reverse_append, dgl_digs n N d, digs]
    simp [nT]
theorem ck_st (y : SemS) (t0 t1 t2 t3 tb_ tk_ : T) (x z : Int) (l1 l8 l9 l10 : Sl)
    (h0 : t0 = .tuple [tb_, tk_])
    (h : y [.v t0, .v t1, .v t2, .v t3, .v tb_, .v tk_, .v (.int 0), .v (.int 0), .un, .un, .un] = .ok .nx [.v t0, l1, .v t2, .v t3, .v tb_, .v tk_, .v (.int x), .v (.int z), l8, l9, l10]) :
    runFn 11 (sSeq (sAsg (gT 2 (gsCons (gN 4) (gsCons (gN 5) gsNil))) (eVar 0)) (sSeq (sSet 6 (eK (.int 0))) (sSeq (sSet 7 (eK (.int 0))) (sSeq y (sRet (eTup (aCons (eVar 6) (aCons (eVar 7) aNil)))))))) [.v t0, .v t1, .v t2, .v t3] = .ok (.r (.tuple [.int x, .int z])) [.v t0, .v t1, .v t2, .v t3] := by
  subst h0
  simp only [h, eMLenE, eRep, eDLen, eNNew, eNLen, eListRng, gMax1, gSum, eMIn, eMInE, sMPut, eMNew, eMDict1, eMLen, eListZip, Option.isSome_none, Option.isSome_some, eMut, gAppend, gInsert, eRev, eIndex, eLenSet, gInt, gLen, gTuple, gList, gAbs, gMax2, gMin2, gDivmod, gEq_int, runFn, sSeq, sIf, sSet, sSetIx, sRet, sRetN, sNil, sDrop, sAsg, sFor, sPar, sNever, setO, retO, setOs, presc, eVar, eK, eTwo, v2, eFn, eDisp, eTup, eLst, eCall, eCallR, eCallK, pick, toSl, toSls, sIdx, wb, bk, esc, escs, vals, aNil, aCons, tb, Ev.tNot, Ev.tAnd, Ev.tOr, gGt, gLt, gGe, gLe, gSub, gMod, gDiv, gPow, gAdd, gMul, gInt, mulOk, g1, g2, fInt, fLen, fTuple, fList, fAbs, eAnd, eOr, eNot, eIf, eNeg, eIsi, gII, gIx, gIsN, gN, gT, gsNil, gsCons, isLent_eq, lentO, lentS_v, lentS_un, lentS_f, lentS_t, lentS_z, finE, okArg, Out.bind, Od.val, slVal, Bx.tr, Bx.t, isN, L2.ixN, L2.atI, isInt, isBool, isTuple, isList, isStr, isDict, isTL, Nat.zero_le, id_eq, eq_self, Pu.c0, Pu.c1, Pu.c2, Pu.c3, Pu.c4, Pu.c5, Pu.c6, Pu.c7, Pu.c8, Pu.c9, Pu.s1, Pu.s2, Pu.s3, Pu.s4, Pu.s5, Pu.s6, Pu.s7, Pu.s8, Pu.s9, Int.reduceEq, Nat.reduceMul, Int.ofNat_eq_natCast, wipeE, restE, exists_eq_left', Option.some.injEq, Out.ok.injEq, Prod.mk.injEq, Option.bind_some, Option.bind_none, Option.bind_eq_bind, List.getElem?_cons_zero, List.getElem?_cons_succ, List.getElem?_nil, List.set_cons_zero, List.set_cons_succ, List.set_nil, List.length_cons, List.length_nil, List.replicate_succ, List.replicate_zero, List.cons_append, List.nil_append, List.append_nil, List.all_cons, List.all_nil, Bool.and_true, Bool.true_and, Bool.and_false, Bool.false_and, if_true, if_false, ite_true, ite_false, List.nodup_cons, List.nodup_nil, List.not_mem_nil, List.mem_cons, not_false_eq_true, and_true, true_and, reduceIte, Nat.reduceAdd, Nat.reduceSub, Nat.reduceEqDiff, Nat.reduceLT, Nat.reduceLeDiff, Option.map_some, Option.map_none, Option.getD_some, reduceCtorEq, or_self, or_false, false_or, not_true_eq_false, decide_true, decide_false, Bool.not_true, Bool.not_false, Bool.false_eq_true, Nat.zero_add, Nat.add_zero, forall_const, Int.reduceLT, Int.reduceLE, Int.reduceNeg, Int.reduceToNat, Int.toNat_natCast, and_self]
theorem ci_st (m : FSem) (ts : List T) (t0 t1 t2 t3 b tk_ tx ty : T) (bb : Int) (hb : b = .int bb) (hm : bb.natAbs.log2 + bb.natAbs.log2 < 1000000) (h : m [.v t3, .v (.int (bb * bb)), .v t2] = .ok (.b (.l ts)) [.v t3, .v (.int (bb * bb)), .v t2]) :
    iOf (eCall 3 m (aCons (eVar 3) (aCons (eOp2 gMul (eVar 4) (eVar 4)) (aCons (eVar 2) aNil)))) [.v t0, .v t1, .v t2, .v t3, .v b, .v tk_, .v tx, .v ty, .un, .un, .un] = .ok ts [.v t0, .v t1, .v t2, .v t3, .v b, .v tk_, .v tx, .v ty, .un, .un, .un] := by
  subst hb
  simp only [iOf, hm, h, eMLenE, eRep, eDLen, eNNew, eNLen, eListRng, gMax1, gSum, eMIn, eMInE, sMPut, eMNew, eMDict1, eMLen, eListZip, Option.isSome_none, Option.isSome_some, eMut, gAppend, gInsert, eRev, eIndex, eLenSet, gInt, gLen, gTuple, gList, gAbs, gMax2, gMin2, gDivmod, gEq_int, runFn, sSeq, sIf, sSet, sSetIx, sRet, sRetN, sNil, sDrop, sAsg, sFor, sPar, sNever, setO, retO, setOs, presc, eVar, eK, eTwo, v2, eFn, eDisp, eTup, eLst, eCall, eCallR, eCallK, pick, toSl, toSls, sIdx, wb, bk, esc, escs, vals, aNil, aCons, tb, Ev.tNot, Ev.tAnd, Ev.tOr, gGt, gLt, gGe, gLe, gSub, gMod, gDiv, gPow, gAdd, gMul, gInt, mulOk, g1, g2, fInt, fLen, fTuple, fList, fAbs, eAnd, eOr, eNot, eIf, eNeg, eIsi, gII, gIx, gIsN, gN, gT, gsNil, gsCons, isLent_eq, lentO, lentS_v, lentS_un, lentS_f, lentS_t, lentS_z, finE, okArg, Out.bind, Od.val, slVal, Bx.tr, Bx.t, isN, L2.ixN, L2.atI, isInt, isBool, isTuple, isList, isStr, isDict, isTL, Nat.zero_le, id_eq, eq_self, Pu.c0, Pu.c1, Pu.c2, Pu.c3, Pu.c4, Pu.c5, Pu.c6, Pu.c7, Pu.c8, Pu.c9, Pu.s1, Pu.s2, Pu.s3, Pu.s4, Pu.s5, Pu.s6, Pu.s7, Pu.s8, Pu.s9, Int.reduceEq, Nat.reduceMul, Int.ofNat_eq_natCast, wipeE, restE, exists_eq_left', Option.some.injEq, Out.ok.injEq, Prod.mk.injEq, Option.bind_some, Option.bind_none, Option.bind_eq_bind, List.getElem?_cons_zero, List.getElem?_cons_succ, List.getElem?_nil, List.set_cons_zero, List.set_cons_succ, List.set_nil, List.length_cons, List.length_nil, List.replicate_succ, List.replicate_zero, List.cons_append, List.nil_append, List.append_nil, List.all_cons, List.all_nil, Bool.and_true, Bool.true_and, Bool.and_false, Bool.false_and, if_true, if_false, ite_true, ite_false, List.nodup_cons, List.nodup_nil, List.not_mem_nil, List.mem_cons, not_false_eq_true, and_true, true_and, reduceIte, Nat.reduceAdd, Nat.reduceSub, Nat.reduceEqDiff, Nat.reduceLT, Nat.reduceLeDiff, Option.map_some, Option.map_none, Option.getD_some, reduceCtorEq, or_self, or_false, false_or, not_true_eq_false, decide_true, decide_false, Bool.not_true, Bool.not_false, Bool.false_eq_true, Nat.zero_add, Nat.add_zero, forall_const, Int.reduceLT, Int.reduceLE, Int.reduceNeg, Int.reduceToNat, Int.toNat_natCast, and_self]
theorem cell_in_kind_ok {B : Nat} {ks : List (List Pt)} (g : Good B ks) {k : Nat} (hk : k < ks.length) (d n : Nat) (hd : d ≤ 200) :
    m_cell_in_kind [.v (bkT B ks), .v (nT k), .v (nT d), .v (nT n)] = .ok (.r (cT (cellF B ks k d n))) [.v (bkT B ks), .v (nT k), .v (nT d), .v (nT n)] := by
  have hB : 2 ≤ B ∧ B ≤ 3 := by rcases g.hb with h | h <;> omega
  have hN : 0 < B * B ∧ B * B ≤ 16 := by rcases g.hb with h | h <;> subst h <;> decide
  have hmm : (B : Int).natAbs.log2 + (B : Int).natAbs.log2 < 1000000 := by
    have : (B : Int).natAbs.log2 < 10 := log2_small (by omega) (by decide)
    omega
  have hdg := digits_ok (n : Int) ((B * B : Nat) : Int) d (by omega) (by omega) hd
  rw [dgl_digs] at hdg
  have hlt := digs_lt n hN.1 d
  have hlen := digs_len (B * B) n d
  obtain ⟨e', h, l8, l9, l10, ⟨a8, a9, a10⟩, hds, rfl⟩ := for_on (g := gN 8) (b := y1_cell_in_kind) nT (fun don e => ∃ l8 l9 l10, (lentS l8 = false ∧ lentS l9 = false ∧ lentS l10 = false) ∧ (∀ x ∈ don, x < B * B) ∧ e = [.v (bkT B ks), .v (nT (run B ks (k, 0, 0) don).1), .v (nT d), .v (nT n), .v (.int (B : Int)), .v (.tuple (ks.map kT)), .v (.int (run B ks (k, 0, 0) don).2.1), .v (.int (run B ks (k, 0, 0) don).2.2), l8, l9, l10]) 200 (digs (B * B) n d) []
      [.v (bkT B ks), .v (nT k), .v (nT d), .v (nT n), .v (.int (B : Int)), .v (.tuple (ks.map kT)), .v (.int 0), .v (.int 0), .un, .un, .un] ⟨_, _, _, ⟨rfl, rfl, rfl⟩, (fun x hx => by cases hx), rfl⟩ (by rw [hlen]; simpa using hd) fun j hj don e hdl ⟨l8, l9, l10, ⟨a8, a9, a10⟩, hdon, he⟩ => by
    subst he
    have kk := run_kind g don (k, 0, 0) hk hdon
    obtain ⟨ps, q1, q2, _⟩ := g.at_ kk (hlt j hj)
    have sm := run_small g don k hk hdon (by omega)
    have r1 : run B ks (k, 0, 0) (don ++ [j]) = stp B ks (run B ks (k, 0, 0) don) j := by rw [run_app]; rfl
    have i1 := get_ks q1
    have i2 := get_ps q2
    have st := ck_y (bkT B ks) (nT d) (nT n) (.tuple (ks.map kT)) (kT ps) (B : Int) ((run B ks (k, 0, 0) don).1 : Int) (run B ks (k, 0, 0) don).2.1 (run B ks (k, 0, 0) don).2.2 (j : Int) _ _ _ l9 l10 a9 a10 i1 i2 sm.1 sm.2
    refine ⟨[.v (bkT B ks), .v (nT (run B ks (k, 0, 0) don).1), .v (nT d), .v (nT n), .v (.int (B : Int)), .v (.tuple (ks.map kT)), .v (.int (run B ks (k, 0, 0) don).2.1), .v (.int (run B ks (k, 0, 0) don).2.2), .v (nT j), l9, l10], by simp only [a8, eMLenE, eRep, eDLen, eNNew, eNLen, eListRng, gMax1, gSum, eMIn, eMInE, sMPut, eMNew, eMDict1, eMLen, eListZip, Option.isSome_none, Option.isSome_some, eMut, gAppend, gInsert, eRev, eIndex, eLenSet, gInt, gLen, gTuple, gList, gAbs, gMax2, gMin2, gDivmod, gEq_int, runFn, sSeq, sIf, sSet, sSetIx, sRet, sRetN, sNil, sDrop, sAsg, sFor, sPar, sNever, setO, retO, setOs, presc, eVar, eK, eTwo, v2, eFn, eDisp, eTup, eLst, eCall, eCallR, eCallK, pick, toSl, toSls, sIdx, wb, bk, esc, escs, vals, aNil, aCons, tb, Ev.tNot, Ev.tAnd, Ev.tOr, gGt, gLt, gGe, gLe, gSub, gMod, gDiv, gPow, gAdd, gMul, gInt, mulOk, g1, g2, fInt, fLen, fTuple, fList, fAbs, eAnd, eOr, eNot, eIf, eNeg, eIsi, gII, gIx, gIsN, gN, gT, gsNil, gsCons, isLent_eq, lentO, lentS_v, lentS_un, lentS_f, lentS_t, lentS_z, finE, okArg, Out.bind, Od.val, slVal, Bx.tr, Bx.t, isN, L2.ixN, L2.atI, isInt, isBool, isTuple, isList, isStr, isDict, isTL, Nat.zero_le, id_eq, eq_self, Pu.c0, Pu.c1, Pu.c2, Pu.c3, Pu.c4, Pu.c5, Pu.c6, Pu.c7, Pu.c8, Pu.c9, Pu.s1, Pu.s2, Pu.s3, Pu.s4, Pu.s5, Pu.s6, Pu.s7, Pu.s8, Pu.s9, Int.reduceEq, Nat.reduceMul, Int.ofNat_eq_natCast, wipeE, restE, exists_eq_left', Option.some.injEq, Out.ok.injEq, Prod.mk.injEq, Option.bind_some, Option.bind_none, Option.bind_eq_bind, List.getElem?_cons_zero, List.getElem?_cons_succ, List.getElem?_nil, List.set_cons_zero, List.set_cons_succ, List.set_nil, List.length_cons, List.length_nil, List.replicate_succ, List.replicate_zero, List.cons_append, List.nil_append, List.append_nil, List.all_cons, List.all_nil, Bool.and_true, Bool.true_and, Bool.and_false, Bool.false_and, if_true, if_false, ite_true, ite_false, List.nodup_cons, List.nodup_nil, List.not_mem_nil, List.mem_cons, not_false_eq_true, and_true, true_and, reduceIte, Nat.reduceAdd, Nat.reduceSub, Nat.reduceEqDiff, Nat.reduceLT, Nat.reduceLeDiff, Option.map_some, Option.map_none, Option.getD_some, reduceCtorEq, or_self, or_false, false_or, not_true_eq_false, decide_true, decide_false, Bool.not_true, Bool.not_false, Bool.false_eq_true, Nat.zero_add, Nat.add_zero, forall_const, Int.reduceLT, Int.reduceLE, Int.reduceNeg, Int.reduceToNat, Int.toNat_natCast, and_self], _, .inl st, .v (nT j), .v (.int (Mt.part ks (run B ks (k, 0, 0) don).1 j).1), .v (.int (Mt.part ks (run B ks (k, 0, 0) don).1 j).2.1), ⟨rfl, rfl, rfl⟩, fun x hx => ?_, ?_⟩
    · rcases List.mem_append.mp hx with hx | hx
      · exact hdon x hx
      · rw [List.mem_singleton.mp hx]; exact hlt j hj
    · rw [r1]; rfl
  have hl : l1_cell_in_kind [.v (bkT B ks), .v (nT k), .v (nT d), .v (nT n), .v (.int (B : Int)), .v (.tuple (ks.map kT)), .v (.int 0), .v (.int 0), .un, .un, .un] = forS (gN 8) y1_cell_in_kind ((digs (B * B) n d).map nT) [.v (bkT B ks), .v (nT k), .v (nT d), .v (nT n), .v (.int (B : Int)), .v (.tuple (ks.map kT)), .v (.int 0), .v (.int 0), .un, .un, .un] := by
    unfold l1_cell_in_kind
    rw [sFor_eq (ci_st m_digits_of _ (bkT B ks) (nT k) (nT d) (nT n) _ (.tuple (ks.map kT)) (.int 0) (.int 0) (B : Int) rfl hmm (by rw [← Int.natCast_mul]; exact hdg))]
  have hl := hl.trans h
  exact ck_st l1_cell_in_kind _ _ _ _ _ _ _ _ _ _ _ _ rfl hl

set_option linter.all false
set_option maxRecDepth 100000
set_option maxHeartbeats 4000000
open PySem PySem.Spec Ev Pu Mt Wp
local macro_rules | `(tactic| decreasing_trivial_pre_omega) => `(tactic| (first | ((with_reducible apply Wp.kelt); (focus (rfl; done))) | fail))
local macro_rules | `(tactic| decreasing_trivial_pre_omega) => `(tactic| (first | ((with_reducible apply Wp.kaug); (focus (rfl; done)); (focus ((first | with_reducible assumption | with_reducible exact Wp.gEq_e _ _ | with_reducible exact Wp.gEq_n _ _ | with_reducible exact Wp.gEq_i _ _ _ | exact Wp.gAppend_ok (by assumption) | exact Wp.gIx_l (by assumption) | exact Wp.gIx_t (by assumption) | exact Wp.gStr_ok (by assumption) | exact Ev.gLenS_ok (by assumption) | exact Wp.gAdd_ss (by assumption) | exact Ev.gMulX_ok (by assumption) | exact Wp.gAdd_tt (by assumption) | exact Wp.gAdd_ll (by assumption) | exact Wp.gMul_ok (by assumption) | exact Wp.gMod_ok (by assumption) | exact Wp.gDiv_ok (by assumption) (by assumption) | rfl | assumption | exact Ev.gPowW_ok (by assumption)); done)); (focus (exact (by first | rfl | exact Wp.isLent_of rfl (by assumption)); done))) | fail))
local macro_rules | `(tactic| decreasing_trivial_pre_omega) => `(tactic| (first | ((with_reducible apply Wp.w_aug); (focus (rfl; done))) | fail))
local macro_rules | `(tactic| decreasing_trivial_pre_omega) => `(tactic| (first | ((with_reducible apply Wp.kenu); (focus (rfl; done))) | fail))
local macro_rules | `(tactic| decreasing_trivial_pre_omega) => `(tactic| (first | ((with_reducible apply Wp.kzip2_t); (focus (rfl; done))) | fail))
local macro_rules | `(tactic| decreasing_trivial_pre_omega) => `(tactic| (first | ((with_reducible apply Wp.kzip2_l); (focus (rfl; done))) | fail))
local macro_rules | `(tactic| decreasing_trivial_pre_omega) => `(tactic| (first | ((with_reducible apply Wp.w_izipV_r); (focus (rfl; done)); (focus (rfl; done)); (focus (rfl; done)); (focus (rfl; done))) | fail))
local macro_rules | `(tactic| decreasing_trivial_pre_omega) => `(tactic| (first | ((with_reducible apply Wp.w_izipV_l); (focus (rfl; done)); (focus (rfl; done)); (focus (rfl; done)); (focus (rfl; done))) | fail))
local macro_rules | `(tactic| decreasing_trivial_pre_omega) => `(tactic| (first | ((with_reducible apply Wp.w_inmG); (focus (rfl; done)); (focus (rfl; done))) | fail))
local macro_rules | `(tactic| decreasing_trivial_pre_omega) => `(tactic| (first | ((with_reducible apply Wp.kzip); (focus (rfl; done))) | fail))
local macro_rules | `(tactic| decreasing_trivial_pre_omega) => `(tactic| (first | ((with_reducible apply Wp.kr2w); (focus (rfl; done))) | fail))
local macro_rules | `(tactic| decreasing_trivial_pre_omega) => `(tactic| (first | ((with_reducible apply Wp.kputD); (focus (rfl; done)); (focus (rfl; done)); (focus (rfl; done)); (focus (assumption; done))) | fail))
local macro_rules | `(tactic| decreasing_trivial_pre_omega) => `(tactic| (first | ((with_reducible apply Wp.kputL); (focus (rfl; done)); (focus (rfl; done)); (focus ((first | rfl | assumption | exact Wp.ixN_nat (by assumption)); done))) | fail))
local macro_rules | `(tactic| decreasing_trivial_pre_omega) => `(tactic| (first | ((with_reducible apply Wp.putS_d); (focus (rfl; done))) | fail))
local macro_rules | `(tactic| decreasing_trivial_pre_omega) => `(tactic| (first | ((with_reducible apply Wp.putS_l); (focus (rfl; done))) | fail))
local macro_rules | `(tactic| decreasing_trivial_pre_omega) => `(tactic| (first | ((with_reducible apply Wp.kputS); (focus (rfl; done)); (focus (rfl; done)); (focus (rfl; done))) | fail))
local macro_rules | `(tactic| decreasing_trivial_pre_omega) => `(tactic| (first | ((with_reducible apply Wp.kdictp); (focus (rfl; done)); (focus (assumption; done))) | fail))
local macro_rules | `(tactic| decreasing_trivial_pre_omega) => `(tactic| (first | ((with_reducible apply Wp.ksetix2); (focus (rfl; done)); (focus (rfl; done)); (focus (rfl; done)); (focus ((first | rfl | assumption | exact Wp.ixN_nat (by assumption)); done))) | fail))
local macro_rules | `(tactic| decreasing_trivial_pre_omega) => `(tactic| (first | ((with_reducible apply Wp.ksetix1); (focus (rfl; done))) | fail))
local macro_rules | `(tactic| decreasing_trivial_pre_omega) => `(tactic| (first | ((with_reducible apply Wp.kdput2); (focus (rfl; done)); (focus (rfl; done)); (focus (rfl; done)); (focus (rfl; done)); (focus (assumption; done))) | fail))
local macro_rules | `(tactic| decreasing_trivial_pre_omega) => `(tactic| (first | ((with_reducible apply Wp.kdput1); (focus (rfl; done))) | fail))
local macro_rules | `(tactic| decreasing_trivial_pre_omega) => `(tactic| (first | ((with_reducible apply Wp.kdget); (focus (rfl; done)); (focus (rfl; done)); (focus (rfl; done)); (focus (assumption; done))) | fail))
local macro_rules | `(tactic| decreasing_trivial_pre_omega) => `(tactic| (first | ((with_reducible apply Wp.w_dget); (focus (rfl; done))) | fail))
local macro_rules | `(tactic| decreasing_trivial_pre_omega) => `(tactic| (first | ((with_reducible apply Wp.kmd2); (focus (rfl; done)); (focus (rfl; done))) | fail))
local macro_rules | `(tactic| decreasing_trivial_pre_omega) => `(tactic| (first | ((with_reducible apply Wp.kmput2); (focus (rfl; done)); (focus (rfl; done)); (focus (rfl; done)); (focus (rfl; done)); (focus (assumption; done))) | fail))
local macro_rules | `(tactic| decreasing_trivial_pre_omega) => `(tactic| (first | ((with_reducible apply Wp.kmput1); (focus (rfl; done))) | fail))
local macro_rules | `(tactic| decreasing_trivial_pre_omega) => `(tactic| (first | ((with_reducible apply Wp.kmin); (focus (rfl; done)); (focus (rfl; done)); (focus (rfl; done)); (focus (assumption; done))) | fail))
local macro_rules | `(tactic| decreasing_trivial_pre_omega) => `(tactic| (first | ((with_reducible apply Wp.kmget); (focus (rfl; done)); (focus (rfl; done)); (focus (rfl; done)); (focus (assumption; done))) | fail))
local macro_rules | `(tactic| decreasing_trivial_pre_omega) => `(tactic| (first | ((with_reducible apply Wp.w_mget); (focus (rfl; done))) | fail))
local macro_rules | `(tactic| decreasing_trivial_pre_omega) => `(tactic| (first | ((with_reducible apply Wp.ksl2_t); (focus (rfl; done))) | fail))
local macro_rules | `(tactic| decreasing_trivial_pre_omega) => `(tactic| (first | ((with_reducible apply Wp.ksl2_l); (focus (rfl; done))) | fail))
local macro_rules | `(tactic| decreasing_trivial_pre_omega) => `(tactic| (first | ((with_reducible apply Wp.kjs); (focus (assumption; done))) | fail))
local macro_rules | `(tactic| decreasing_trivial_pre_omega) => `(tactic| (first | ((with_reducible apply Wp.kfmt_i); (focus (rfl; done)); (focus (assumption; done))) | fail))
local macro_rules | `(tactic| decreasing_trivial_pre_omega) => `(tactic| (first | ((with_reducible apply Wp.kfmt_s); (focus (rfl; done)); (focus (assumption; done))) | fail))
local macro_rules | `(tactic| decreasing_trivial_pre_omega) => `(tactic| (first | ((with_reducible apply Wp.kjoin2); (focus (rfl; done)); (focus (assumption; done)); (focus (assumption; done))) | fail))
local macro_rules | `(tactic| decreasing_trivial_pre_omega) => `(tactic| (first | ((with_reducible apply Wp.kindex1_); (focus (rfl; done))) | fail))
local macro_rules | `(tactic| decreasing_trivial_pre_omega) => `(tactic| (first | ((with_reducible apply Wp.krev_t); (focus (rfl; done))) | fail))
local macro_rules | `(tactic| decreasing_trivial_pre_omega) => `(tactic| (first | ((with_reducible apply Wp.krev_l); (focus (rfl; done))) | fail))
local macro_rules | `(tactic| decreasing_trivial_pre_omega) => `(tactic| (first | ((with_reducible apply Wp.kof_t); (focus (rfl; done))) | fail))
local macro_rules | `(tactic| decreasing_trivial_pre_omega) => `(tactic| (first | ((with_reducible apply Wp.kof_l); (focus (rfl; done))) | fail))
local macro_rules | `(tactic| decreasing_trivial_pre_omega) => `(tactic| (first | ((with_reducible apply Wp.kpso); (focus (rfl; done))) | fail))
local macro_rules | `(tactic| decreasing_trivial_pre_omega) => `(tactic| (first | ((with_reducible apply Wp.kisi); (focus (rfl; done))) | fail))
local macro_rules | `(tactic| decreasing_trivial_pre_omega) => `(tactic| (first | ((with_reducible apply Wp.kneg); (focus (rfl; done))) | fail))
local macro_rules | `(tactic| decreasing_trivial_pre_omega) => `(tactic| (first | ((with_reducible apply Wp.ktb_s); (focus (rfl; done))) | fail))
local macro_rules | `(tactic| decreasing_trivial_pre_omega) => `(tactic| (first | ((with_reducible apply Wp.kore_f); (focus (rfl; done))) | fail))
local macro_rules | `(tactic| decreasing_trivial_pre_omega) => `(tactic| (first | ((with_reducible apply Wp.kore_t); (focus (rfl; done))) | fail))
local macro_rules | `(tactic| decreasing_trivial_pre_omega) => `(tactic| (first | ((with_reducible apply Wp.kande_f); (focus (rfl; done))) | fail))
local macro_rules | `(tactic| decreasing_trivial_pre_omega) => `(tactic| (first | ((with_reducible apply Wp.kande_t); (focus (rfl; done))) | fail))
local macro_rules | `(tactic| decreasing_trivial_pre_omega) => `(tactic| (first | ((with_reducible apply Wp.kor_f); (focus (rfl; done))) | fail))
local macro_rules | `(tactic| decreasing_trivial_pre_omega) => `(tactic| (first | ((with_reducible apply Wp.kor_t); (focus (rfl; done))) | fail))
local macro_rules | `(tactic| decreasing_trivial_pre_omega) => `(tactic| (first | ((with_reducible apply Wp.kand_f); (focus (rfl; done))) | fail))
local macro_rules | `(tactic| decreasing_trivial_pre_omega) => `(tactic| (first | ((with_reducible apply Wp.kand_t); (focus (rfl; done))) | fail))
local macro_rules | `(tactic| decreasing_trivial_pre_omega) => `(tactic| (first | ((with_reducible apply Wp.kife_f); (focus (rfl; done))) | fail))
local macro_rules | `(tactic| decreasing_trivial_pre_omega) => `(tactic| (first | ((with_reducible apply Wp.kife_t); (focus (rfl; done))) | fail))
local macro_rules | `(tactic| decreasing_trivial_pre_omega) => `(tactic| (first | ((with_reducible apply Wp.kif_f); (focus (assumption; done))) | fail))
local macro_rules | `(tactic| decreasing_trivial_pre_omega) => `(tactic| (first | ((with_reducible apply Wp.kif_t); (focus (assumption; done))) | fail))
local macro_rules | `(tactic| decreasing_trivial_pre_omega) => `(tactic| (first | ((with_reducible apply Wp.kif_f); (focus (rfl; done))) | fail))
local macro_rules | `(tactic| decreasing_trivial_pre_omega) => `(tactic| (first | ((with_reducible apply Wp.kif_t); (focus (rfl; done))) | fail))
local macro_rules | `(tactic| decreasing_trivial_pre_omega) => `(tactic| (first | ((with_reducible apply Wp.kmut2); (focus (rfl; done)); (focus (rfl; done)); (focus ((first | with_reducible assumption | with_reducible exact Wp.gEq_e _ _ | with_reducible exact Wp.gEq_n _ _ | with_reducible exact Wp.gEq_i _ _ _ | exact Wp.gAppend_ok (by assumption) | exact Wp.gIx_l (by assumption) | exact Wp.gIx_t (by assumption) | exact Wp.gStr_ok (by assumption) | exact Ev.gLenS_ok (by assumption) | exact Wp.gAdd_ss (by assumption) | exact Ev.gMulX_ok (by assumption) | exact Wp.gAdd_tt (by assumption) | exact Wp.gAdd_ll (by assumption) | exact Wp.gMul_ok (by assumption) | exact Wp.gMod_ok (by assumption) | exact Wp.gDiv_ok (by assumption) (by assumption) | rfl | assumption | exact Ev.gPowW_ok (by assumption)); done))) | fail))
local macro_rules | `(tactic| decreasing_trivial_pre_omega) => `(tactic| (first | ((with_reducible apply Wp.w_mut); (focus (rfl; done))) | fail))
local macro_rules | `(tactic| decreasing_trivial_pre_omega) => `(tactic| (first | ((with_reducible apply Wp.kcallk); (focus (decide; done)); (focus (exact ⟨rfl, rfl⟩; done)); (focus (rfl; done)); (focus (exact of_decide_eq_true rfl; done))) | fail))
local macro_rules | `(tactic| decreasing_trivial_pre_omega) => `(tactic| (first | ((with_reducible apply Wp.kcall); (focus (rfl; done)); (focus (rfl; done)); (focus (exact of_decide_eq_true rfl; done))) | fail))
local macro_rules | `(tactic| decreasing_trivial_pre_omega) => `(tactic| (first | ((with_reducible apply Wp.kdisp_l); (focus (rfl; done)); (focus (rfl; done))) | fail))
local macro_rules | `(tactic| decreasing_trivial_pre_omega) => `(tactic| (first | ((with_reducible apply Wp.kdisp_t); (focus (rfl; done)); (focus (rfl; done))) | fail))
local macro_rules | `(tactic| decreasing_trivial_pre_omega) => `(tactic| (first | ((with_reducible apply Wp.kfng); (focus (rfl; done)); (focus ((first | with_reducible assumption | with_reducible exact Wp.gEq_e _ _ | with_reducible exact Wp.gEq_n _ _ | with_reducible exact Wp.gEq_i _ _ _ | exact Wp.gAppend_ok (by assumption) | exact Wp.gIx_l (by assumption) | exact Wp.gIx_t (by assumption) | exact Wp.gStr_ok (by assumption) | exact Ev.gLenS_ok (by assumption) | exact Wp.gAdd_ss (by assumption) | exact Ev.gMulX_ok (by assumption) | exact Wp.gAdd_tt (by assumption) | exact Wp.gAdd_ll (by assumption) | exact Wp.gMul_ok (by assumption) | exact Wp.gMod_ok (by assumption) | exact Wp.gDiv_ok (by assumption) (by assumption) | rfl | assumption | exact Ev.gPowW_ok (by assumption)); done))) | fail))
local macro_rules | `(tactic| decreasing_trivial_pre_omega) => `(tactic| (first | ((with_reducible apply Wp.ktwo2); (focus (rfl; done)); (focus (rfl; done)); (focus ((first | with_reducible assumption | with_reducible exact Wp.gEq_e _ _ | with_reducible exact Wp.gEq_n _ _ | with_reducible exact Wp.gEq_i _ _ _ | exact Wp.gAppend_ok (by assumption) | exact Wp.gIx_l (by assumption) | exact Wp.gIx_t (by assumption) | exact Wp.gStr_ok (by assumption) | exact Ev.gLenS_ok (by assumption) | exact Wp.gAdd_ss (by assumption) | exact Ev.gMulX_ok (by assumption) | exact Wp.gAdd_tt (by assumption) | exact Wp.gAdd_ll (by assumption) | exact Wp.gMul_ok (by assumption) | exact Wp.gMod_ok (by assumption) | exact Wp.gDiv_ok (by assumption) (by assumption) | rfl | assumption | exact Ev.gPowW_ok (by assumption)); done))) | fail))
local macro_rules | `(tactic| decreasing_trivial_pre_omega) => `(tactic| (first | ((with_reducible apply Wp.kpar); (focus (rfl; done)); (focus ((repeat (first | refine Wp.setOs_nil rfl | (apply Wp.setOs_r; (focus exact (by first | rfl | exact Wp.isLent_of rfl (by assumption)))) | (apply Wp.setOs_b; (focus exact (by first | rfl | exact Wp.isLent_of rfl (by assumption)))))); done))) | fail))
local macro_rules | `(tactic| decreasing_trivial_pre_omega) => `(tactic| (first | ((with_reducible apply Wp.kasg); (focus (rfl; done)); (focus ((first | rfl | (repeat' (first | refine Wp.gN_ok (by first | rfl | exact Wp.isLent_of rfl (by assumption)) rfl | refine Wp.gsNil_ok rfl | with_reducible apply Wp.gsCons_ok | apply Wp.gT_ok rfl))); done))) | fail))
local macro_rules | `(tactic| decreasing_trivial_pre_omega) => `(tactic| (first | ((with_reducible apply Wp.kret_so); (focus (rfl; done))) | fail))
local macro_rules | `(tactic| decreasing_trivial_pre_omega) => `(tactic| (first | ((with_reducible apply Wp.kset_s); (focus (exact (by first | rfl | exact Wp.isLent_of rfl (by assumption)); done)); (focus (rfl; done))) | fail))
local macro_rules | `(tactic| decreasing_trivial_pre_omega) => `(tactic| (first | ((with_reducible apply Wp.kset_b); (focus (exact (by first | rfl | exact Wp.isLent_of rfl (by assumption)); done))) | fail))
local macro_rules | `(tactic| decreasing_trivial_pre_omega) => `(tactic| (first | ((with_reducible apply Wp.kset_r); (focus (exact (by first | rfl | exact Wp.isLent_of rfl (by assumption)); done))) | fail))
local macro_rules | `(tactic| decreasing_trivial_pre_omega) => `(tactic| (first | ((with_reducible apply Wp.w_var_f); (focus (rfl; done))) | fail))
local macro_rules | `(tactic| decreasing_trivial_pre_omega) => `(tactic| (first | ((with_reducible apply Wp.w_var_o); (focus (rfl; done))) | fail))
local macro_rules | `(tactic| decreasing_trivial_pre_omega) => `(tactic| (first | ((with_reducible apply Wp.w_var_v); (focus (rfl; done))) | fail))
local macro_rules | `(tactic| decreasing_trivial_pre_omega) => `(tactic| (first | ((with_reducible apply Wp.kback_b_n); (focus (((try simp only [Ev.wb, Ev.bk, List.set_cons_zero, List.set_cons_succ, List.getElem?_cons_zero, List.getElem?_cons_succ, List.cons_append, List.nil_append, List.append_nil]); rfl); done))) | fail))
local macro_rules | `(tactic| decreasing_trivial_pre_omega) => `(tactic| (first | ((with_reducible apply Wp.kback_r_n); (focus (((try simp only [Ev.wb, Ev.bk, List.set_cons_zero, List.set_cons_succ, List.getElem?_cons_zero, List.getElem?_cons_succ, List.cons_append, List.nil_append, List.append_nil]); rfl); done))) | fail))
local macro_rules | `(tactic| decreasing_trivial_pre_omega) => `(tactic| (first | ((with_reducible apply Wp.kseq_nx_n); (focus (((try simp only [Ev.wb, Ev.bk, List.set_cons_zero, List.set_cons_succ, List.getElem?_cons_zero, List.getElem?_cons_succ, List.cons_append, List.nil_append, List.append_nil]); rfl); done))) | fail))
local macro_rules | `(tactic| decreasing_trivial_pre_omega) => `(tactic| (first | with_reducible apply Wp.kturn_bk | fail))
local macro_rules | `(tactic| decreasing_trivial_pre_omega) => `(tactic| (first | with_reducible apply Wp.kturn_rt | fail))
local macro_rules | `(tactic| decreasing_trivial_pre_omega) => `(tactic| (first | with_reducible apply Wp.kturn_ct | fail))
local macro_rules | `(tactic| decreasing_trivial_pre_omega) => `(tactic| (first | with_reducible apply Wp.kturn_nx | fail))
local macro_rules | `(tactic| decreasing_trivial_pre_omega) => `(tactic| (first | with_reducible apply Wp.kfun_nx | fail))
local macro_rules | `(tactic| decreasing_trivial_pre_omega) => `(tactic| (first | with_reducible apply Wp.kfun_rt | fail))
local macro_rules | `(tactic| decreasing_trivial_pre_omega) => `(tactic| (first | with_reducible apply Wp.ktb | fail))
local macro_rules | `(tactic| decreasing_trivial_pre_omega) => `(tactic| (first | with_reducible apply Wp.kret_b | fail))
local macro_rules | `(tactic| decreasing_trivial_pre_omega) => `(tactic| (first | with_reducible apply Wp.kret_r | fail))
local macro_rules | `(tactic| decreasing_trivial_pre_omega) => `(tactic| (first | with_reducible apply Wp.kseq_ct | fail))
local macro_rules | `(tactic| decreasing_trivial_pre_omega) => `(tactic| (first | with_reducible apply Wp.kseq_bk | fail))
local macro_rules | `(tactic| decreasing_trivial_pre_omega) => `(tactic| (first | with_reducible apply Wp.kseq_rt | fail))
local macro_rules | `(tactic| decreasing_trivial_pre_omega) => `(tactic| (first | with_reducible apply Wp.kcons1 | fail))
local macro_rules | `(tactic| decreasing_trivial_pre_omega) => `(tactic| (first | with_reducible apply Wp.ktwo1 | fail))
local macro_rules | `(tactic| decreasing_trivial_pre_omega) => `(tactic| (first | with_reducible apply Wp.ksl1 | fail))
local macro_rules | `(tactic| decreasing_trivial_pre_omega) => `(tactic| (first | with_reducible apply Wp.ksl_ | fail))
local macro_rules | `(tactic| decreasing_trivial_pre_omega) => `(tactic| (first | with_reducible apply Wp.kmd1 | fail))
local macro_rules | `(tactic| decreasing_trivial_pre_omega) => `(tactic| (first | with_reducible apply Wp.w_dput | fail))
local macro_rules | `(tactic| decreasing_trivial_pre_omega) => `(tactic| (first | with_reducible apply Wp.w_mput | fail))
local macro_rules | `(tactic| decreasing_trivial_pre_omega) => `(tactic| (first | with_reducible apply Wp.w_min | fail))
local macro_rules | `(tactic| decreasing_trivial_pre_omega) => `(tactic| (first | with_reducible apply Wp.w_mnew | fail))
local macro_rules | `(tactic| decreasing_trivial_pre_omega) => `(tactic| (first | with_reducible apply Wp.w_mdict1 | fail))
local macro_rules | `(tactic| decreasing_trivial_pre_omega) => `(tactic| (first | with_reducible apply Wp.krep1 | fail))
local macro_rules | `(tactic| decreasing_trivial_pre_omega) => `(tactic| (first | with_reducible apply Wp.w_rep | fail))
local macro_rules | `(tactic| decreasing_trivial_pre_omega) => `(tactic| (first | with_reducible apply Wp.w_true | fail))
local macro_rules | `(tactic| decreasing_trivial_pre_omega) => `(tactic| (first | with_reducible apply Wp.w_pno | fail))
local macro_rules | `(tactic| decreasing_trivial_pre_omega) => `(tactic| (first | with_reducible apply Wp.w_anil | fail))
local macro_rules | `(tactic| decreasing_trivial_pre_omega) => `(tactic| (first | with_reducible apply Wp.w_k | fail))
local macro_rules | `(tactic| decreasing_trivial_pre_omega) => `(tactic| (first | with_reducible apply Wp.w_retN | fail))
local macro_rules | `(tactic| decreasing_trivial_pre_omega) => `(tactic| (first | with_reducible apply Wp.w_cnt | fail))
local macro_rules | `(tactic| decreasing_trivial_pre_omega) => `(tactic| (first | with_reducible apply Wp.w_brk | fail))
local macro_rules | `(tactic| decreasing_trivial_pre_omega) => `(tactic| (first | with_reducible apply Wp.w_nil | fail))
local macro_rules | `(tactic| decreasing_trivial_pre_omega) => `(tactic| (first | with_reducible apply Wp.w_r2w | fail))
local macro_rules | `(tactic| decreasing_trivial_pre_omega) => `(tactic| (first | with_reducible apply Wp.putS_nil | fail))
local macro_rules | `(tactic| decreasing_trivial_pre_omega) => `(tactic| (first | with_reducible apply Wp.w_putS | fail))
local macro_rules | `(tactic| decreasing_trivial_pre_omega) => `(tactic| (first | with_reducible apply Wp.w_dictp | fail))
local macro_rules | `(tactic| decreasing_trivial_pre_omega) => `(tactic| (first | with_reducible apply Wp.w_js | fail))
local macro_rules | `(tactic| decreasing_trivial_pre_omega) => `(tactic| (first | with_reducible apply Wp.w_js_nil | fail))
local macro_rules | `(tactic| decreasing_trivial_pre_omega) => `(tactic| (first | with_reducible apply Wp.w_fmt | fail))
local macro_rules | `(tactic| decreasing_trivial_pre_omega) => `(tactic| (first | with_reducible apply Wp.kjoin1 | fail))
local macro_rules | `(tactic| decreasing_trivial_pre_omega) => `(tactic| (first | with_reducible apply Wp.w_join | fail))
local macro_rules | `(tactic| decreasing_trivial_pre_omega) => `(tactic| (first | with_reducible apply Wp.w_setix | fail))
local macro_rules | `(tactic| decreasing_trivial_pre_omega) => `(tactic| (first | with_reducible apply Wp.w_ienu | fail))
local macro_rules | `(tactic| decreasing_trivial_pre_omega) => `(tactic| (first | with_reducible apply Wp.w_izip2 | fail))
local macro_rules | `(tactic| decreasing_trivial_pre_omega) => `(tactic| (first | with_reducible apply Wp.w_izip | fail))
local macro_rules | `(tactic| decreasing_trivial_pre_omega) => `(tactic| (first | with_reducible apply Wp.w_compG | fail))
local macro_rules | `(tactic| decreasing_trivial_pre_omega) => `(tactic| (first | with_reducible apply Wp.w_comp | fail))
local macro_rules | `(tactic| decreasing_trivial_pre_omega) => `(tactic| (first | with_reducible apply Wp.w_r2 | fail))
local macro_rules | `(tactic| decreasing_trivial_pre_omega) => `(tactic| (first | with_reducible apply Wp.w_r1 | fail))
local macro_rules | `(tactic| decreasing_trivial_pre_omega) => `(tactic| (first | with_reducible apply Wp.w_iof | fail))
local macro_rules | `(tactic| decreasing_trivial_pre_omega) => `(tactic| (first | with_reducible apply Wp.w_for | fail))
local macro_rules | `(tactic| decreasing_trivial_pre_omega) => `(tactic| (first | with_reducible apply Wp.w_index | fail))
local macro_rules | `(tactic| decreasing_trivial_pre_omega) => `(tactic| (first | with_reducible apply Wp.w_rev | fail))
local macro_rules | `(tactic| decreasing_trivial_pre_omega) => `(tactic| (first | with_reducible apply Wp.w_pso | fail))
local macro_rules | `(tactic| decreasing_trivial_pre_omega) => `(tactic| (first | with_reducible apply Wp.w_sl | fail))
local macro_rules | `(tactic| decreasing_trivial_pre_omega) => `(tactic| (first | with_reducible apply Wp.w_isi | fail))
local macro_rules | `(tactic| decreasing_trivial_pre_omega) => `(tactic| (first | with_reducible apply Wp.w_neg | fail))
local macro_rules | `(tactic| decreasing_trivial_pre_omega) => `(tactic| (first | with_reducible apply Wp.w_tor | fail))
local macro_rules | `(tactic| decreasing_trivial_pre_omega) => `(tactic| (first | with_reducible apply Wp.w_tand | fail))
local macro_rules | `(tactic| decreasing_trivial_pre_omega) => `(tactic| (first | with_reducible apply Wp.w_tnot | fail))
local macro_rules | `(tactic| decreasing_trivial_pre_omega) => `(tactic| (first | with_reducible apply Wp.w_tb | fail))
local macro_rules | `(tactic| decreasing_trivial_pre_omega) => `(tactic| (first | with_reducible apply Wp.w_eif | fail))
local macro_rules | `(tactic| decreasing_trivial_pre_omega) => `(tactic| (first | with_reducible apply Wp.w_enot | fail))
local macro_rules | `(tactic| decreasing_trivial_pre_omega) => `(tactic| (first | with_reducible apply Wp.w_eor | fail))
local macro_rules | `(tactic| decreasing_trivial_pre_omega) => `(tactic| (first | with_reducible apply Wp.w_eand | fail))
local macro_rules | `(tactic| decreasing_trivial_pre_omega) => `(tactic| (first | with_reducible apply Wp.w_callk | fail))
local macro_rules | `(tactic| decreasing_trivial_pre_omega) => `(tactic| (first | with_reducible apply Wp.w_call | fail))
local macro_rules | `(tactic| decreasing_trivial_pre_omega) => `(tactic| (first | with_reducible apply Wp.w_lst | fail))
local macro_rules | `(tactic| decreasing_trivial_pre_omega) => `(tactic| (first | with_reducible apply Wp.w_tup | fail))
local macro_rules | `(tactic| decreasing_trivial_pre_omega) => `(tactic| (first | with_reducible apply Wp.w_fng | fail))
local macro_rules | `(tactic| decreasing_trivial_pre_omega) => `(tactic| (first | with_reducible apply Wp.w_acons | fail))
local macro_rules | `(tactic| decreasing_trivial_pre_omega) => `(tactic| (first | with_reducible apply Wp.w_op2 | fail))
local macro_rules | `(tactic| decreasing_trivial_pre_omega) => `(tactic| (first | with_reducible apply Wp.w_par | fail))
local macro_rules | `(tactic| decreasing_trivial_pre_omega) => `(tactic| (first | with_reducible apply Wp.w_asg | fail))
local macro_rules | `(tactic| decreasing_trivial_pre_omega) => `(tactic| (first | with_reducible apply Wp.w_ret | fail))
local macro_rules | `(tactic| decreasing_trivial_pre_omega) => `(tactic| (first | with_reducible apply Wp.w_set | fail))
local macro_rules | `(tactic| decreasing_trivial_pre_omega) => `(tactic| (first | with_reducible apply Wp.w_if | fail))
local macro_rules | `(tactic| decreasing_trivial_pre_omega) => `(tactic| (first | with_reducible apply Wp.w_drop | fail))
local macro_rules | `(tactic| decreasing_trivial_pre_omega) => `(tactic| (first | with_reducible apply Wp.w_seq | fail))
theorem mulOk_of {i j : Int} (a b : Nat) (h1 : i.natAbs.log2 < a) (h2 : j.natAbs.log2 < b) (h : a + b ≤ 1000000) : mulOk i j = true := by
  unfold mulOk
  exact decide_eq_true (by omega)
theorem toNat_lt {x : Int} {n : Nat} (h : 0 < n) : (x % (n : Int)).toNat < n ∧ ((x % (n : Int)).toNat : Int) = x % (n : Int) := by
  have h1 := Int.emod_nonneg x (show (n : Int) ≠ 0 by omega)
  have h2 := Int.emod_lt_of_pos x (show (0 : Int) < n by omega)
  omega
theorem log2_le_bits {i : Int} : i.natAbs.log2 ≤ Builtin.Int.intBits i := by
  unfold Builtin.Int.intBits
  split
  · rename_i h
    simp at h
    subst h
    decide
  · omega
structure Dk where
  a : Int
  m : Int
  c : Nat
  h : 0 ≤ m ∧ m < 2 ^ 100
def dkT (D : Dk) : List T := [.int D.a, .int D.m, .int (D.c : Int)]
def scT (ns : List Int) : T := .list (ns.map PyData.int)
theorem ix_sc (ns : List Int) (k : Nat) (h : k < ns.length) : gIx (scT ns) (nT k) = some (.r (.int ns[k])) :=
  gIx_l (by rw [List.getElem?_map, List.getElem?_eq_getElem h]; rfl)
theorem well_end (ns : List Int) (k : Nat) (hk : k < 1000) (x : Int) (hx : x.natAbs.log2 < 90000000) (Q : Od → En → Prop) (q : ∀ D : Dk, D.c = 0 → Q (.b (.l (dkT D))) [.v (scT ns), .v (nT k)]) :
    W ((sRet (eLst (aCons (eFn gMax2 (aCons (eK (.int 0)) (aCons (eOp2 gSub (eFn gAbs (aCons (eVar 2) aNil)) (eOp2 gPow (eK (.int 10)) (eK (.int 18)))) aNil))) (aCons (eOp2 gMod (eFn gInt (aCons (eOp2 gAdd (eOp2 gAdd (eOp2 gMulX (eVar 2) (eK (.int 86028157))) (eOp2 gMulX (eVar 1) (eK (.int 179424691)))) (eK (.int 7919))) aNil)) (eOp2 gAdd (eOp2 gPow (eK (.int 10)) (eK (.int 25))) (eK (.int 13)))) (aCons (eK (.int 0)) aNil))))) [.v (scT ns), .v (nT k), .v (.int x)]) (KFun [.v (scT ns), .v (nT k)] Q) := by
  have c3 : (86028157 : Int).natAbs.log2 < 64 := by decide
  have c4 : (179424691 : Int).natAbs.log2 < 64 := by decide
  have ck : ((k : Int)).natAbs.log2 < 64 := log2_small (by omega) (by decide)
  have m4 : ((k : Int)).natAbs.log2 + (179424691 : Int).natAbs.log2 < 100000000 := by omega
  have m3 : x.natAbs.log2 + (86028157 : Int).natAbs.log2 < 100000000 := by omega
  repeat' decreasing_trivial_pre_omega
  have b1 : (0 : Int) ≤ (x * 86028157 + (k : Int) * 179424691 + 7919) % ((10 : Int) ^ Int.toNat 25 + 13) ∧ (x * 86028157 + (k : Int) * 179424691 + 7919) % ((10 : Int) ^ Int.toNat 25 + 13) < 2 ^ 100 := by
    have h1 := Int.emod_nonneg (x * 86028157 + (k : Int) * 179424691 + 7919) (show ((10 : Int) ^ Int.toNat 25 + 13) ≠ 0 by decide)
    have h2 := Int.emod_lt_of_pos (x * 86028157 + (k : Int) * 179424691 + 7919) (show 0 < ((10 : Int) ^ Int.toNat 25 + 13) by decide)
    exact ⟨h1, Int.lt_trans h2 (by decide)⟩
  exact q ⟨_, _, 0, b1⟩ rfl
theorem well_w (ns : List Int) (hb : ∀ k ∈ ns, Builtin.Int.intBits k ≤ 1048576) (hn : ns.length ≤ 63) (k : Nat) (hk : k < 1000) : W (m__law_well [.v (scT ns), .v (nT k)]) fun r e => ∃ D : Dk, D.c = 0 ∧ r = .b (.l (dkT D)) ∧ e = [.v (scT ns), .v (nT k)] := by
  have ck : ((k : Int)).natAbs.log2 < 64 := log2_small (by omega) (by decide)
  unfold m__law_well
  (apply Wp.w_fun; (focus (rfl; done)); (focus (((try simp only [List.cons_append, List.nil_append, List.length_cons, List.length_nil, Nat.reduceAdd, Nat.reduceSub, Nat.zero_add, Nat.sub_zero, List.replicate_succ, List.replicate_zero, List.append_nil]); rfl); done)))
  unfold b__law_well
  refine w_seq ?_
  refine w_set ?_
  refine w_imp (P := fun r e => ∃ x : Int, x.natAbs.log2 < 90000000 ∧ r = .r (.int x) ∧ e = [.v (scT ns), .v (nT k), .un]) ?_ ?_
  · repeat' decreasing_trivial_pre_omega
    refine kife_d (fun h => ?_) fun h => ?_
    · rw [List.length_map] at h
      have hx := ix_sc ns k (by omega)
      have hbx := hb ns[k] (List.getElem_mem _)
      generalize ns[k] = x at hx hbx
      repeat' decreasing_trivial_pre_omega
      exact ⟨x, by have := log2_le_bits (i := x); omega, rfl, rfl⟩
    · have cl : (((ns.map PyData.int).length : Nat) : Int).natAbs.log2 < 64 := log2_small (by rw [List.length_map]; omega) (by decide)
      have c1 : (104723 : Int).natAbs.log2 < 64 := by decide
      have c2 : (15485863 : Int).natAbs.log2 < 64 := by decide
      have m1 : ((k : Int)).natAbs.log2 + (104723 : Int).natAbs.log2 < 100000000 := by omega
      have m2 : (((ns.map PyData.int).length : Nat) : Int).natAbs.log2 + (15485863 : Int).natAbs.log2 < 100000000 := by omega
      repeat' decreasing_trivial_pre_omega
      refine ⟨_, ?_, rfl, rfl⟩
      have : ((k : Int) * 104723 + ((ns.map PyData.int).length : Int) * 15485863).natAbs.log2 < 100 := log2_small (by rw [List.length_map]; omega) (by decide)
      omega
  · rintro _ _ ⟨x, hx, rfl, rfl⟩
    refine kset_r rfl (kseq_nx_n (e2 := [.v (scT ns), .v (nT k), .v (.int x)]) rfl ?_)
    refine well_end ns k hk x hx _ ?_
    exact fun D hD => ⟨D, hD, rfl, rfl⟩
theorem drw_w (D : Dk) (n : Nat) (h : 0 < n) (hn : n < 2 ^ 200) (hc : D.c < 10 ^ 9) :
    W (m__law_draw [.ow true (.l (dkT D)), .v (nT n)]) fun r e => ∃ (v : Nat) (D' : Dk), v < n ∧ D'.c ≤ D.c + 1 ∧ r = .r (nT v) ∧ e = [.ow true (.l (dkT D')), .v (nT n)] := by
  have hp : (0 : Int) < (n : Int) := by omega
  have hl : (n : Int).natAbs.log2 < 9000 := by
    have : (n : Int).natAbs.log2 < 200 := log2_small (by simpa using hn) (by decide)
    omega
  unfold m__law_draw
  (apply Wp.w_fun; (focus (rfl; done)); (focus (((try simp only [List.cons_append, List.nil_append, List.length_cons, List.length_nil, Nat.reduceAdd, Nat.reduceSub, Nat.zero_add, Nat.sub_zero, List.replicate_succ, List.replicate_zero, List.append_nil]); rfl); done)))
  unfold b__law_draw
  repeat' decreasing_trivial_pre_omega
  refine kif_d (fun ha => ?_) fun ha => ?_
  · repeat' decreasing_trivial_pre_omega
    obtain ⟨q1, q2⟩ := toNat_lt (x := D.a) h
    refine ⟨(D.a % (n : Int)).toNat, ⟨D.a / (n : Int), D.m, D.c, D.h⟩, q1, by simp, ?_, rfl⟩
    unfold nT
    rw [q2]
  · have m1 : mulOk 49979693 ((D.c : Int) + 1) = true := mulOk_of 64 64 (log2_small (by decide) (by decide)) (log2_small (by omega) (by decide)) (by decide)
    have hm := D.h
    have p1 : (0 : Int) ≤ 3 ∧ (3 : Int) ≤ 100 ∧ (D.m + 49979693 * ((D.c : Int) + 1)).natAbs.log2 < 1000000 := ⟨by decide, by decide, by
      have := log2_small (i := D.m + 49979693 * ((D.c : Int) + 1)) (k := 201) (by omega) (by decide)
      omega⟩
    repeat' decreasing_trivial_pre_omega
    have b1 : (0 : Int) ≤ (D.m + 49979693 * ((D.c : Int) + 1)) ^ Int.toNat 3 % ((10 : Int) ^ Int.toNat 29 + 319) ∧ (D.m + 49979693 * ((D.c : Int) + 1)) ^ Int.toNat 3 % ((10 : Int) ^ Int.toNat 29 + 319) < 2 ^ 100 := ⟨Int.emod_nonneg _ (by decide), Int.lt_trans (Int.emod_lt_of_pos _ (by decide)) (by decide)⟩
    generalize (D.m + 49979693 * ((D.c : Int) + 1)) ^ Int.toNat 3 % ((10 : Int) ^ Int.toNat 29 + 319) = x at b1
    have p2 : (0 : Int) ≤ 3 ∧ (3 : Int) ≤ 100 ∧ (x + 2038074751).natAbs.log2 < 1000000 := ⟨by decide, by decide, by
      have := log2_small (i := x + 2038074751) (k := 101) (by omega) (by decide)
      omega⟩
    have d6 : (0 : Int) < (10 : Int) ^ Int.toNat 6 := by decide
    have l6 : ((10 : Int) ^ Int.toNat 6).natAbs.log2 < 9000 := by decide
    repeat' decreasing_trivial_pre_omega
    obtain ⟨q1, q2⟩ := toNat_lt (x := (x + 2038074751) ^ Int.toNat 3 % ((10 : Int) ^ Int.toNat 33 + 33) / (10 : Int) ^ Int.toNat 6) h
    refine ⟨_, ⟨D.a, D.m, D.c + 1, D.h⟩, q1, Nat.le_refl _, ?_, rfl⟩
    unfold nT
    rw [q2]
theorem gPop_ok {ts : List T} {k : Nat} {x : T} (h : ts[k]? = some x) (hl : ts.length ≤ 100000) : gPop ts [.int (k : Int)] = some (ts.eraseIdx k, x) := by
  have hk := (List.getElem?_eq_some_iff.mp h).1
  unfold gPop
  have e : seqIndex? (k : Int) ts.length = some k := by
    unfold seqIndex?
    have h1 : ¬ (k : Int) < 0 := by omega
    simp only [h1, if_false]
    rw [if_pos (by simp; omega)]
    simp
  simp only [e, h]
  rw [if_pos ⟨by omega, by omega⟩]
theorem power_w (b : Nat) (h1 : b ≤ 16) (d : Nat) (hd : d ≤ 200) : m__law_power [.v (nT b), .v (nT d)] = .ok (.r (nT (b ^ d))) [.v (nT b), .v (nT d)] := by
  refine w_eq ?_
  unfold m__law_power
  (apply Wp.w_fun; (focus (rfl; done)); (focus (((try simp only [List.cons_append, List.nil_append, List.length_cons, List.length_nil, Nat.reduceAdd, Nat.reduceSub, Nat.zero_add, Nat.sub_zero, List.replicate_succ, List.replicate_zero, List.append_nil]); rfl); done)))
  unfold b__law_power l1__law_power
  repeat' decreasing_trivial_pre_omega
  refine kr1 (n := d) rfl (by omega) (for_below (fun k e => ∃ l3, lentS l3 = false ∧ e = [.v (nT b), .v (nT d), .v (nT (b ^ k)), l3]) ⟨.un, rfl, rfl⟩ ?_ ?_)
  · rintro k hk e ⟨l3, a3, rfl⟩
    refine ⟨_, gN_ok (by first | rfl | exact Wp.isLent_of rfl (by assumption)) rfl, ?_⟩
    unfold y1__law_power
    have m1 : mulOk ((b ^ k : Nat) : Int) (b : Int) = true := mulOk_of 801 64 (by
      have := pow_small (b := (b : Int)) (by omega) (by omega) k (by omega)
      rw [show ((b ^ k : Nat) : Int) = (b : Int) ^ k by simp]
      exact this) (log2_small (by omega) (by decide)) (by decide)
    repeat' decreasing_trivial_pre_omega
    refine ⟨.v (nT k), rfl, ?_⟩
    unfold nT
    rw [Nat.pow_succ]
    simp
  · rintro e ⟨l3, a3, rfl⟩
    repeat' decreasing_trivial_pre_omega
    exact ⟨rfl, rfl⟩
theorem w_listrng {m : SemE} {Q : Od → En → Prop} {e : En} {n : Nat} (h : W (m e) fun r e1 => r.val e1 = some (nT n) ∧ n ≤ 65536 ∧ Q (.b (.l ((List.range n).map nT))) e1) : W (eListRng m e) Q := by
  unfold eListRng
  refine w_bind (w_imp h fun r e1 ⟨h1, h2, q⟩ => ?_)
  refine ⟨_, _, ?_, q⟩
  rw [h1]
  simp only [nT]
  rw [if_pos ⟨by omega, by omega⟩, Int.toNat_natCast, below_is]
  rfl
theorem erase_map {α β : Type} (f : α → β) : ∀ (xs : List α) (k : Nat), (xs.map f).eraseIdx k = (xs.eraseIdx k).map f
  | [], k => by simp
  | x :: xs, 0 => rfl
  | x :: xs, k + 1 => by
    rw [List.map_cons, List.eraseIdx_cons_succ, List.eraseIdx_cons_succ, List.map_cons, erase_map f xs k]
theorem pop_perm {α : Type} : ∀ {ts : List α} {k : Nat} {x : α}, ts[k]? = some x → (x :: ts.eraseIdx k).Perm ts
  | [], k, x, h => by simp at h
  | t :: ts, 0, x, h => by
    simp at h; subst h; simp
  | t :: ts, k + 1, x, h => by
    rw [List.eraseIdx_cons_succ]
    exact (List.Perm.swap _ _ _).trans ((pop_perm (by simpa using h)).cons t)
theorem order_w (D : Dk) (n : Nat) (hn : n ≤ 100) (hc : D.c + n ≤ 10 ^ 9) : W (m__law_order [.ow true (.l (dkT D)), .v (nT n)]) fun r e => ∃ (D' : Dk) (ys : List Nat), D'.c ≤ D.c + n ∧ ys.Perm (List.range n) ∧ r = .b (.l (ys.map nT)) ∧ e = [.ow true (.l (dkT D')), .v (nT n)] := by
  unfold m__law_order
  (apply Wp.w_fun; (focus (rfl; done)); (focus (((try simp only [List.cons_append, List.nil_append, List.length_cons, List.length_nil, Nat.reduceAdd, Nat.reduceSub, Nat.zero_add, Nat.sub_zero, List.replicate_succ, List.replicate_zero, List.append_nil]); rfl); done)))
  unfold b__law_order l1__law_order
  repeat' decreasing_trivial_pre_omega
  refine w_listrng (n := n) (w_var_v rfl ⟨rfl, by omega, ?_⟩)
  repeat' decreasing_trivial_pre_omega
  refine kr1 (n := n) rfl (by omega) (for_below (fun k e => ∃ (D' : Dk) (rest found : List Nat) (l4 : Sl), lentS l4 = false ∧ D'.c ≤ D.c + k ∧ rest.length + k = n ∧ found.length = k ∧ (found ++ rest).Perm (List.range n) ∧ e = [.ow true (.l (dkT D')), .v (nT n), .ow false (.l (rest.map nT)), .ow false (.l (found.map nT)), l4]) ⟨D, List.range n, [], .un, rfl, by omega, by simp, rfl, List.Perm.refl _, rfl⟩ ?_ ?_)
  · rintro k hk e ⟨D', rest, found, l4, a4, h1, h2, h3, h4, rfl⟩
    refine ⟨_, gN_ok (by first | rfl | exact Wp.isLent_of rfl (by assumption)) rfl, ?_⟩
    unfold y1__law_order
    have hlen : (rest.map nT).length = rest.length := List.length_map _
    repeat' decreasing_trivial_pre_omega
    rw [hlen]
    refine w_imp (drw_w D' rest.length (by omega) (by omega) (by omega)) ?_
    rintro _ _ ⟨v, D2, hv, hc2, rfl, rfl⟩
    have hx : (rest.map nT)[v]? = some (nT rest[v]) := by rw [List.getElem?_map, List.getElem?_eq_getElem hv]; rfl
    have hp := gPop_ok hx (by omega)
    have ha : (found.map nT).length < sizeLine := by rw [List.length_map]; unfold sizeLine; omega
    have h6 := pop_perm (List.getElem?_eq_getElem hv)
    have e1 : (rest.map nT).eraseIdx v = (rest.eraseIdx v).map nT := erase_map _ _ _
    rw [e1] at hp
    generalize rest[v] = x at hp h6
    repeat' decreasing_trivial_pre_omega
    refine ⟨D2, rest.eraseIdx v, found ++ [x], .v (nT k), rfl, by omega, by rw [List.length_eraseIdx_of_lt hv]; omega, by rw [List.length_append, h3]; rfl, ?_, by rw [List.map_append]; rfl⟩
    rw [List.append_assoc]
    exact ((List.Perm.refl found).append h6).trans h4
  · rintro e ⟨D', rest, found, l4, a4, h1, h2, h3, h4, rfl⟩
    repeat' decreasing_trivial_pre_omega
    have hr : rest = [] := List.eq_nil_of_length_eq_zero (by omega)
    subst hr
    rw [List.append_nil] at h4
    exact ⟨D', found, by omega, h4, rfl, rfl⟩

set_option linter.all false
set_option maxRecDepth 100000
set_option maxHeartbeats 4000000
open PySem PySem.Spec Ev Pu Mt Wp
def gridP (B : Nat) : List (Int × Int) := (List.range (B * B)).map fun (k : Nat) => ((k : Int) % (B : Int), (k : Int) / (B : Int))
theorem B_is {B : Nat} (h : 1 ≤ B ∧ B ≤ 5) : B = 1 ∨ B = 2 ∨ B = 3 ∨ B = 4 ∨ B = 5 := by omega
theorem grid_ok {B : Nat} (h : 1 ≤ B ∧ B ≤ 5) : PlOk B (gridP B) := by
  rcases B_is h with rfl | rfl | rfl | rfl | rfl <;> exact ⟨by decide +kernel, by decide +kernel, by decide +kernel⟩
theorem B_small {B : Nat} (hB : 1 ≤ B ∧ B ≤ 5) : (0 : Int) < (B : Int) ∧ (B : Int).natAbs.log2 < 9000 ∧ mulOk (B : Int) (B : Int) = true ∧ B * B ≤ 25 := by
  rcases B_is hB with rfl | rfl | rfl | rfl | rfl <;> exact ⟨by decide, by decide, by decide, by decide⟩
theorem pl_perm {B : Nat} {cs ds : List (Int × Int)} (h : PlOk B cs) (p : ds.Perm cs) : PlOk B ds := ⟨by rw [p.length_eq]; exact h.len, p.nodup_iff.mpr h.nod, fun c hc => h.rng c (p.mem_iff.mp hc)⟩
theorem getD_map (ps : List (Int × Int)) : (List.range ps.length).map (fun k => ps.getD k (0, 0)) = ps := by
  apply List.ext_getElem?
  intro i
  by_cases hi : i < ps.length
  · rw [List.getElem?_map, List.getElem?_range hi, List.getElem?_eq_getElem hi]
    show some (ps.getD i (0, 0)) = _
    rw [List.getD_eq_getElem?_getD, List.getElem?_eq_getElem hi]; rfl
  · rw [List.getElem?_eq_none (by simp; omega), List.getElem?_eq_none (by omega)]
/-- every second row the other way round -/
def zagF (B : Nat) (c : Int × Int) : Int × Int := (if c.2 % 2 = 0 then c.1 else (B : Int) - 1 - c.1, c.2)
theorem zag_ok {B : Nat} {ps : List (Int × Int)} (h : PlOk B ps) : PlOk B (ps.map (zagF B)) := by
  have inj : ∀ a b, zagF B a = zagF B b → a = b := fun a b z => by
    obtain ⟨x, y⟩ := a
    obtain ⟨u, v⟩ := b
    simp only [zagF, Prod.mk.injEq] at z ⊢
    obtain ⟨z1, rfl⟩ := z
    refine ⟨?_, rfl⟩
    split at z1 <;> omega
  refine ⟨by rw [List.length_map]; exact h.len, List.Pairwise.map _ (fun a b hab z => hab (inj a b z)) h.nod, fun c hc => ?_⟩
  obtain ⟨d, hd, rfl⟩ := List.mem_map.mp hc
  have := h.rng d hd
  simp only [zagF]
  split <;> omega
def swpF (c : Int × Int) : Int × Int := (c.2, c.1)
theorem swp_ok {B : Nat} {ps : List (Int × Int)} (h : PlOk B ps) : PlOk B (ps.map swpF) := by
  have inj : ∀ a b, swpF a = swpF b → a = b := fun a b z => by
    obtain ⟨x, y⟩ := a
    obtain ⟨u, v⟩ := b
    simp only [swpF, Prod.mk.injEq] at z ⊢
    exact ⟨z.2, z.1⟩
  refine ⟨by rw [List.length_map]; exact h.len, List.Pairwise.map _ (fun a b hab z => hab (inj a b z)) h.nod, fun c hc => ?_⟩
  obtain ⟨d, hd, rfl⟩ := List.mem_map.mp hc
  have := h.rng d hd
  simp only [swpF]
  omega
theorem kind_end (D : Dk) (many : Nat) (hm : 0 < many) (hm2 : many < 2 ^ 60) (B : Nat) (hB : 1 ≤ B ∧ B ≤ 5) (ps : List (Int × Int)) (hp : PlOk B ps) (hc : D.c + 25 ≤ 10 ^ 9)
    (s3 s4 s5 s6 s7 s8 : Sl) (h3 : lentS s3 = false) (h5 : lentS s5 = false) (h6 : lentS s6 = false) (h7 : lentS s7 = false) (h8 : lentS s8 = false) (h4 : s4 = .v (.list (ps.map cT)) ∨ s4 = .ow false (.l (ps.map cT))) (D0 : Dk) (Q : Od → En → Prop)
    (q : ∀ (D' : Dk) (rs : List Pt), D'.c ≤ D.c + 25 → RowOk B many rs → Q (.r (kT rs)) [.ow true (.l (dkT D')), .v (nT B), .v (nT many)]) :
    W ((sRet (eFn gTuple (aCons x4__law_kind aNil))) [.ow true (.l (dkT D)), .v (nT B), .v (nT many), s3, s4, s5, s6, s7, s8]) (KFun [.ow true (.l (dkT D0)), .v (nT B), .v (nT many)] Q) := by
  have hl : ps.length ≤ 25 := by rw [hp.len]; exact (B_small hB).2.2.2
  rcases h4 with rfl | rfl
  all_goals
    unfold x4__law_kind
    repeat' decreasing_trivial_pre_omega
    refine comp_all cT ps (fun don acc e => ∃ (D' : Dk) (rs : List Pt), D'.c ≤ D.c + don.length ∧ rs.map (fun p => (p.1, p.2.1)) = don ∧ (∀ r ∈ rs, r.2.2 < many) ∧ acc = rs.map ptT ∧ e = [.ow true (.l (dkT D')), .v (nT B), .v (nT many), s3, _, s5, s6, s7, s8]) ⟨D, [], by simp, rfl, by simp, rfl, rfl⟩ (by unfold sizeLine; omega) ?_ ?_
    · rintro don c rest hx acc e ⟨D', rs, h1, h2, h3, rfl, rfl⟩
      have hdl : don.length < 25 := by
        have := congrArg List.length hx
        simp at this
        omega
      refine ⟨_, rfl, ?_⟩
      repeat' decreasing_trivial_pre_omega
      refine w_imp (drw_w D' many hm (by omega) (by omega)) ?_
      rintro _ _ ⟨v, D2, hv, hc2, rfl, rfl⟩
      repeat' decreasing_trivial_pre_omega
      refine ⟨D2, rs ++ [(c.1, c.2, v)], by rw [List.length_append, List.length_singleton]; omega, by rw [List.map_append, h2]; rfl, ?_, by rw [List.map_append]; rfl, rfl⟩
      intro r hr
      rcases List.mem_append.mp hr with hr | hr
      · exact h3 r hr
      · rw [List.mem_singleton.mp hr]; exact hv
    · rintro acc e ⟨D', rs, h1, h2, h3, rfl, rfl⟩
      repeat' decreasing_trivial_pre_omega
      exact q D' rs (by omega) (row_of hp h2 h3)
theorem kind_w (D : Dk) (many : Nat) (hm : 0 < many) (hm2 : many < 2 ^ 60) (B : Nat) (hB : 1 ≤ B ∧ B ≤ 5) (hc : D.c + 60 ≤ 10 ^ 9) :
    W (m__law_kind [.ow true (.l (dkT D)), .v (nT B), .v (nT many)]) fun r e => ∃ (D' : Dk) (rs : List Pt), D'.c ≤ D.c + 60 ∧ RowOk B many rs ∧ r = .r (kT rs) ∧ e = [.ow true (.l (dkT D')), .v (nT B), .v (nT many)] := by
  obtain ⟨b1, b2, b3, b4⟩ := B_small hB
  unfold m__law_kind
  (apply Wp.w_fun; (focus (rfl; done)); (focus (((try simp only [List.cons_append, List.nil_append, List.length_cons, List.length_nil, Nat.reduceAdd, Nat.reduceSub, Nat.zero_add, Nat.sub_zero, List.replicate_succ, List.replicate_zero, List.append_nil]); rfl); done)))
  unfold b__law_kind l1__law_kind
  repeat' decreasing_trivial_pre_omega
  refine w_imp (drw_w D 4 (by decide) (by decide) (by omega)) ?_
  rintro _ _ ⟨way, D1, hway, hc1, rfl, rfl⟩
  repeat' decreasing_trivial_pre_omega
  refine kr1_eq (B * B) rfl (by simp) (by omega) ?_
  refine for_below (fun k e => ∃ (ps : List (Int × Int)) (s5 : Sl), lentS s5 = false ∧ ps = (List.range k).map (fun (k : Nat) => ((k : Int) % (B : Int), (k : Int) / (B : Int))) ∧ e = [.ow true (.l (dkT D1)), .v (nT B), .v (nT many), .v (nT way), .ow false (.l (ps.map cT)), s5, .un, .un, .un]) ⟨[], .un, rfl, rfl, rfl⟩ ?_ ?_
  · rintro k hk e ⟨ps, s5, a5, h1, rfl⟩
    refine ⟨_, gN_ok (by first | rfl | exact Wp.isLent_of rfl (by assumption)) rfl, ?_⟩
    unfold y1__law_kind
    have ha : (ps.map cT).length < sizeLine := by rw [List.length_map, h1, List.length_map, List.length_range]; unfold sizeLine; omega
    repeat' decreasing_trivial_pre_omega
    refine ⟨ps ++ [((k : Int) % (B : Int), (k : Int) / (B : Int))], .v (nT k), rfl, by rw [h1, List.range_succ, List.map_append]; rfl, by rw [List.map_append]; rfl⟩
  · rintro e ⟨ps, s5, a5, h1, rfl⟩
    have hp : PlOk B ps := by rw [h1]; exact grid_ok hB
    clear h1
    have hlen := hp.len
    repeat' decreasing_trivial_pre_omega
    refine kif_d (fun hw => ?_) fun hw => ?_
    · unfold x1__law_kind
      repeat' decreasing_trivial_pre_omega
      rw [show (B : Int) * (B : Int) = ((B * B : Nat) : Int) by simp]
      refine w_imp (order_w D1 (B * B) (by omega) (by omega)) ?_
      rintro _ _ ⟨D2, ys, hc2, hy, rfl, rfl⟩
      have hyl := hy.length_eq
      rw [List.length_range] at hyl
      repeat' decreasing_trivial_pre_omega
      refine comp_map_w nT (fun y => cT (ps.getD y (0, 0))) ys (by unfold sizeLine; omega) (fun y hy' => ⟨_, rfl, ?_⟩) ?_
      · have hx : (ps.map cT)[y]? = some (cT (ps.getD y (0, 0))) := by
          have := List.mem_range.mp (hy.mem_iff.mp hy')
          rw [List.getElem?_map, List.getD_eq_getElem?_getD, List.getElem?_eq_getElem (by omega)]
          rfl
        repeat' decreasing_trivial_pre_omega
        exact ⟨rfl, rfl⟩
      · rw [show (ys.map fun y => cT (ps.getD y (0, 0))) = (ys.map fun y => ps.getD y (0, 0)).map cT by rw [List.map_map]; rfl]
        repeat' decreasing_trivial_pre_omega
        refine kif_f (decide_eq_false (by omega)) (w_nil (kseq_nx ?_))
        refine kind_end D2 many hm hm2 B hB (ys.map fun y => ps.getD y (0, 0)) ?_ (by omega) _ _ _ _ _ _ rfl (by first | exact a5 | rfl) rfl rfl rfl (.inr rfl) D _ ?_
        · refine pl_perm hp ?_
          have := hy.map fun y => ps.getD y (0, 0)
          rw [← hlen, getD_map] at this
          exact this
        · exact fun D' rs z1 z2 => ⟨D', rs, by omega, z2, rfl, rfl⟩
    · repeat' decreasing_trivial_pre_omega
      refine kif_d (fun hw2 => ?_) fun hw2 => ?_
      · unfold x2__law_kind
        repeat' decreasing_trivial_pre_omega
        refine comp_map_w cT (fun c => cT (zagF B c)) ps (by unfold sizeLine; omega) (fun c _ => ⟨_, rfl, ?_⟩) ?_
        · repeat' decreasing_trivial_pre_omega
          refine kife_d (fun z => ?_) fun z => ?_
          · repeat' decreasing_trivial_pre_omega
            refine ⟨?_, rfl⟩
            unfold zagF
            rw [if_pos z]
            rfl
          · repeat' decreasing_trivial_pre_omega
            refine ⟨?_, rfl⟩
            unfold zagF
            rw [if_neg z]
            rfl
        · rw [show (ps.map fun c => cT (zagF B c)) = (ps.map (zagF B)).map cT by rw [List.map_map]; rfl]
          have g1 := zag_ok hp
          have g2 : (ps.map (zagF B)).length ≤ 25 := by rw [List.length_map]; omega
          generalize ps.map (zagF B) = qs at g1 g2
          repeat' decreasing_trivial_pre_omega
          refine w_imp (drw_w D1 2 (by decide) (by decide) (by omega)) ?_
          rintro _ _ ⟨v, D2, hv, hc2, rfl, rfl⟩
          repeat' decreasing_trivial_pre_omega
          refine kife_d (fun z => ?_) fun z => ?_
          · unfold x3__law_kind
            repeat' decreasing_trivial_pre_omega
            refine comp_map_w cT (fun c => cT (swpF c)) qs (by unfold sizeLine; omega) (fun c _ => ⟨_, rfl, ?_⟩) ?_
            · repeat' decreasing_trivial_pre_omega
              exact ⟨rfl, rfl⟩
            · rw [show (qs.map fun c => cT (swpF c)) = (qs.map swpF).map cT by rw [List.map_map]; rfl]
              refine kset_b rfl (kseq_nx_n (e2 := [.ow true (.l (dkT D2)), .v (nT B), .v (nT many), .v (nT way), .ow false (.l ((qs.map swpF).map cT)), s5, .v (nT v), .un, .un]) rfl ?_)
              refine kind_end D2 many hm hm2 B hB (qs.map swpF) (swp_ok g1) (by omega) (.v (nT way)) (.ow false (.l ((qs.map swpF).map cT))) s5 (.v (nT v)) .un .un rfl a5 rfl rfl rfl (.inr rfl) D _ ?_
              exact fun D' rs z1 z2 => ⟨D', rs, by omega, z2, rfl, rfl⟩
          · refine w_var_o rfl ?_
            refine kset_s rfl rfl (kseq_nx_n (e2 := [.ow true (.l (dkT D2)), .v (nT B), .v (nT many), .v (nT way), .v (.list (qs.map cT)), s5, .v (nT v), .un, .un]) rfl ?_)
            refine kind_end D2 many hm hm2 B hB qs g1 (by omega) (.v (nT way)) (.v (.list (qs.map cT))) s5 (.v (nT v)) .un .un rfl a5 rfl rfl rfl (.inl rfl) D _ ?_
            exact fun D' rs z1 z2 => ⟨D', rs, by omega, z2, rfl, rfl⟩
      · refine (w_nil (kseq_nx ?_))
        refine kind_end D1 many hm hm2 B hB ps hp (by omega) _ _ _ _ _ _ rfl a5 rfl rfl rfl (.inr rfl) D _ ?_
        exact fun D' rs z1 z2 => ⟨D', rs, by omega, z2, rfl, rfl⟩
theorem book_w (D : Dk) (most : Nat) (h0 : 0 < most) (h1 : most ≤ 20) (hc : D.c + 1300 ≤ 10 ^ 9) :
    W (m__law_book [.ow true (.l (dkT D)), .v (nT most)]) fun r e => ∃ (D' : Dk) (B : Nat) (ks : List (List Pt)), D'.c ≤ D.c + 1300 ∧ Good B ks ∧ r = .r (bkT B ks) ∧ e = [.ow true (.l (dkT D')), .v (nT most)] := by
  unfold m__law_book
  (apply Wp.w_fun; (focus (rfl; done)); (focus (((try simp only [List.cons_append, List.nil_append, List.length_cons, List.length_nil, Nat.reduceAdd, Nat.reduceSub, Nat.zero_add, Nat.sub_zero, List.replicate_succ, List.replicate_zero, List.append_nil]); rfl); done)))
  unfold b__law_book
  repeat' decreasing_trivial_pre_omega
  refine w_imp (drw_w D 2 (by decide) (by decide) (by omega)) ?_
  rintro _ _ ⟨v, D1, hv, hc1, rfl, rfl⟩
  repeat' decreasing_trivial_pre_omega
  refine w_imp (drw_w D1 most h0 (by omega) (by omega)) ?_
  rintro _ _ ⟨w, D2, hw, hc2, rfl, rfl⟩
  repeat' decreasing_trivial_pre_omega
  unfold x1__law_book
  rw [show (2 : Int) + (v : Int) = ((2 + v : Nat) : Int) by simp, show (1 : Int) + (w : Int) = ((1 + w : Nat) : Int) by simp]
  have hB : 2 + v = 2 ∨ 2 + v = 3 := by omega
  generalize 2 + v = B at hB
  have hm : 0 < 1 + w ∧ 1 + w ≤ 20 := by omega
  generalize 1 + w = many at hm
  repeat' decreasing_trivial_pre_omega
  refine kr1 (n := many) rfl (by omega) ?_
  unfold below
  refine comp_all (fun (k : Nat) => PyData.int (k : Int)) (List.range many) (fun don acc e => ∃ (D' : Dk) (ks : List (List Pt)), D'.c ≤ D2.c + don.length * 60 ∧ ks.length = don.length ∧ (∀ rs ∈ ks, RowOk B many rs) ∧ acc = ks.map kT ∧ e = [.ow true (.l (dkT D')), .v (nT most), .v (nT B), .v (nT many), .un]) ⟨D2, [], by simp, rfl, by simp, rfl, rfl⟩ (by rw [List.length_range]; unfold sizeLine; omega) ?_ ?_
  · rintro don k rest hx acc e ⟨D', ks, h1, h2, h3, rfl, rfl⟩
    have hdl := (range_cut hx)
    have hdn : don.length = k := by rw [hdl.1, List.length_range]
    refine ⟨_, rfl, ?_⟩
    repeat' decreasing_trivial_pre_omega
    refine w_imp (kind_w D' many hm.1 (by omega) B (by omega) (by omega)) ?_
    rintro _ _ ⟨D3, rs, z1, z2, rfl, rfl⟩
    repeat' decreasing_trivial_pre_omega
    refine ⟨D3, ks ++ [rs], by rw [List.length_append, List.length_singleton]; omega, by rw [List.length_append, List.length_append, h2]; rfl, ?_, by rw [List.map_append]; rfl, rfl⟩
    · intro r hr
      rcases List.mem_append.mp hr with hr | hr
      · exact h3 r hr
      · rw [List.mem_singleton.mp hr]; exact z2
  · rintro acc e ⟨D', ks, h1, h2, h3, rfl, rfl⟩
    rw [List.length_range] at h1 h2
    repeat' decreasing_trivial_pre_omega
    exact ⟨D', B, ks, by omega, good_of hB (by omega) (by omega) (by rw [h2]; exact h3), rfl, rfl⟩


set_option linter.all false
set_option maxRecDepth 100000
set_option maxHeartbeats 4000000
open PySem PySem.Spec Ev Pu Mt Wp
theorem bsmall {B : Nat} (h : B = 2 ∨ B = 3) : (B : Int).natAbs.log2 + (B : Int).natAbs.log2 < 1000000 := by
  have : (B : Int).natAbs.log2 < 10 := log2_small (by rcases h with h | h <;> omega) (by decide)
  omega
theorem hm_st (m : FSem) (b : Int) (tk_ td r : T) (hm : b.natAbs.log2 + b.natAbs.log2 < 1000000) (h : m [.v (.int (b * b)), .v td] = .ok (.r r) [.v (.int (b * b)), .v td]) :
    runFn 2 (sRet (eCall 2 m (aCons (eOp2 gMul (eOp2 gIx (eVar 0) (eK (.int 0))) (eOp2 gIx (eVar 0) (eK (.int 0)))) (aCons (eVar 1) aNil)))) [.v (.tuple [.int b, tk_]), .v td] = .ok (.r r) [.v (.tuple [.int b, tk_]), .v td] := by
  simp only [hm, h, eMLenE, eRep, eDLen, eNNew, eNLen, eListRng, gMax1, gSum, eMIn, eMInE, sMPut, eMNew, eMDict1, eMLen, eListZip, Option.isSome_none, Option.isSome_some, eMut, gAppend, gInsert, eRev, eIndex, eLenSet, gInt, gLen, gTuple, gList, gAbs, gMax2, gMin2, gDivmod, gEq_int, runFn, sSeq, sIf, sSet, sSetIx, sRet, sRetN, sNil, sDrop, sAsg, sFor, sPar, sNever, setO, retO, setOs, presc, eVar, eK, eTwo, v2, eFn, eDisp, eTup, eLst, eCall, eCallR, eCallK, pick, toSl, toSls, sIdx, wb, bk, esc, escs, vals, aNil, aCons, tb, Ev.tNot, Ev.tAnd, Ev.tOr, gGt, gLt, gGe, gLe, gSub, gMod, gDiv, gPow, gAdd, gMul, gInt, mulOk, g1, g2, fInt, fLen, fTuple, fList, fAbs, eAnd, eOr, eNot, eIf, eNeg, eIsi, gII, gIx, gIsN, gN, gT, gsNil, gsCons, isLent_eq, lentO, lentS_v, lentS_un, lentS_f, lentS_t, lentS_z, finE, okArg, Out.bind, Od.val, slVal, Bx.tr, Bx.t, isN, L2.ixN, L2.atI, isInt, isBool, isTuple, isList, isStr, isDict, isTL, Nat.zero_le, id_eq, eq_self, Pu.c0, Pu.c1, Pu.c2, Pu.c3, Pu.c4, Pu.c5, Pu.c6, Pu.c7, Pu.c8, Pu.c9, Pu.s1, Pu.s2, Pu.s3, Pu.s4, Pu.s5, Pu.s6, Pu.s7, Pu.s8, Pu.s9, Int.reduceEq, Nat.reduceMul, Int.ofNat_eq_natCast, wipeE, restE, exists_eq_left', Option.some.injEq, Out.ok.injEq, Prod.mk.injEq, Option.bind_some, Option.bind_none, Option.bind_eq_bind, List.getElem?_cons_zero, List.getElem?_cons_succ, List.getElem?_nil, List.set_cons_zero, List.set_cons_succ, List.set_nil, List.length_cons, List.length_nil, List.replicate_succ, List.replicate_zero, List.cons_append, List.nil_append, List.append_nil, List.all_cons, List.all_nil, Bool.and_true, Bool.true_and, Bool.and_false, Bool.false_and, if_true, if_false, ite_true, ite_false, List.nodup_cons, List.nodup_nil, List.not_mem_nil, List.mem_cons, not_false_eq_true, and_true, true_and, reduceIte, Nat.reduceAdd, Nat.reduceSub, Nat.reduceEqDiff, Nat.reduceLT, Nat.reduceLeDiff, Option.map_some, Option.map_none, Option.getD_some, reduceCtorEq, or_self, or_false, false_or, not_true_eq_false, decide_true, decide_false, Bool.not_true, Bool.not_false, Bool.false_eq_true, Nat.zero_add, Nat.add_zero, forall_const, Int.reduceLT, Int.reduceLE, Int.reduceNeg, Int.reduceToNat, Int.toNat_natCast, and_self]
theorem hm_ok {B : Nat} {ks : List (List Pt)} (g : Good B ks) (d : Nat) (hd : d ≤ 200) : m_how_many_cells [.v (bkT B ks), .v (nT d)] = .ok (.r (nT ((B * B) ^ d))) [.v (bkT B ks), .v (nT d)] := by
  have hN : B * B ≤ 16 := by rcases g.hb with h | h <;> subst h <;> decide
  have h := power_ok ((B * B : Nat) : Int) d (by omega) (by omega) hd
  rw [← Int.natCast_pow, Int.natCast_mul] at h
  exact hm_st m_power (B : Int) (.tuple (ks.map kT)) (nT d) _ (bsmall g.hb) h
theorem chk_book {B : Nat} {ks : List (List Pt)} (g : Good B ks) : m_check_book [.v (bkT B ks)] = .ok (.r .none) [.v (bkT B ks)] := by
  have ib := is_book_ok (bkT B ks) (good_few g)
  rw [good_bk g] at ib
  refine w_eq ?_
  unfold m_check_book
  (apply Wp.w_fun; (focus (rfl; done)); (focus (((try simp only [List.cons_append, List.nil_append, List.length_cons, List.length_nil, Nat.reduceAdd, Nat.reduceSub, Nat.zero_add, Nat.sub_zero, List.replicate_succ, List.replicate_zero, List.append_nil]); rfl); done)))
  unfold b_check_book
  repeat' decreasing_trivial_pre_omega
  refine w_of ib ?_
  repeat' decreasing_trivial_pre_omega
  exact ⟨rfl, rfl⟩
theorem chk_depth (n : Nat) : m_check_depth [.v (nT n)] = .ok (.r .none) [.v (nT n)] := by
  have ib := is_count_ok (nT n)
  rw [show isC (nT n) = true from (decide_eq_true (by omega : (0 : Int) ≤ (n : Int)))] at ib
  refine w_eq ?_
  unfold m_check_depth
  (apply Wp.w_fun; (focus (rfl; done)); (focus (((try simp only [List.cons_append, List.nil_append, List.length_cons, List.length_nil, Nat.reduceAdd, Nat.reduceSub, Nat.zero_add, Nat.sub_zero, List.replicate_succ, List.replicate_zero, List.append_nil]); rfl); done)))
  unfold b_check_depth
  repeat' decreasing_trivial_pre_omega
  refine w_of ib ?_
  repeat' decreasing_trivial_pre_omega
  exact ⟨rfl, rfl⟩
theorem chk_book_x {t : T} (hf : fewK t = true) (h : isBk t = false) : Wx (m_check_book [.v t]) "InvalidBook" t fun e => e = [.v t] := by
  have ib := is_book_ok t hf
  rw [h] at ib
  unfold m_check_book
  refine wx_fun (e0 := [.v t]) rfl rfl ?_
  unfold b_check_book
  refine wx_if_t ?_
  repeat' decreasing_trivial_pre_omega
  refine w_of ib ?_
  clear ib
  repeat' decreasing_trivial_pre_omega
  refine ⟨rfl, wx_raise ?_⟩
  repeat' decreasing_trivial_pre_omega
  exact ⟨rfl, rfl⟩
theorem chk_depth_x {t : T} (h : isC t = false) : Wx (m_check_depth [.v t]) "InvalidDepth" t fun e => e = [.v t] := by
  have ib := is_count_ok t
  rw [h] at ib
  unfold m_check_depth
  refine wx_fun (e0 := [.v t]) rfl rfl ?_
  unfold b_check_depth
  refine wx_if_t ?_
  repeat' decreasing_trivial_pre_omega
  refine w_of ib ?_
  clear ib
  repeat' decreasing_trivial_pre_omega
  refine ⟨rfl, wx_raise ?_⟩
  repeat' decreasing_trivial_pre_omega
  exact ⟨rfl, rfl⟩
theorem wx_drop {m : SemE} {c : Str} {t : T} {Q : En → Prop} {e : En} (h : Wx (m e) c t Q) : Wx (sDrop m e) c t Q := wx_bind1 h
theorem whole_x1 {t u : T} (hf : fewK t = true) (h : isBk t = false) : Wx (m_whole [.v t, .v u]) "InvalidBook" t fun e => e = [.v t, .v u] := by
  have q := chk_book_x hf h
  unfold m_whole
  refine wx_fun (e0 := [.v t, .v u, .un]) rfl rfl ?_
  unfold b_whole
  refine wx_seq1 (wx_drop (wx_call ?_))
  repeat' decreasing_trivial_pre_omega
  refine xcall rfl rfl (of_decide_eq_true rfl) (wx_imp q ?_)
  rintro _ rfl
  rfl
theorem whole_x2 {B : Nat} {ks : List (List Pt)} (g : Good B ks) {u : T} (h : isC u = false) : Wx (m_whole [.v (bkT B ks), .v u]) "InvalidDepth" u fun e => e = [.v (bkT B ks), .v u] := by
  have q := chk_depth_x h
  have c := chk_book g
  unfold m_whole
  refine wx_fun (e0 := [.v (bkT B ks), .v u, .un]) rfl rfl ?_
  unfold b_whole
  refine wx_seq2 ?_
  repeat' decreasing_trivial_pre_omega
  refine w_of c ?_
  clear c
  repeat' decreasing_trivial_pre_omega
  refine ⟨rfl, wx_seq1 (wx_drop (wx_call ?_))⟩
  repeat' decreasing_trivial_pre_omega
  refine xcall rfl rfl (of_decide_eq_true rfl) (wx_imp q ?_)
  rintro _ rfl
  rfl
/-- the cells of a depth -/
def cells (B : Nat) (ks : List (List Pt)) (d : Nat) : List (Int × Int) := (List.range ((B * B) ^ d)).map fun n => cellF B ks 0 d n
theorem whole_w {B : Nat} {ks : List (List Pt)} (g : Good B ks) (d : Nat) (hd : d ≤ 200) (hs : (B * B) ^ d ≤ 100000) :
    m_whole [.v (bkT B ks), .v (nT d)] = .ok (.b (.l ((cells B ks d).map cT))) [.v (bkT B ks), .v (nT d)] := by
  have c1 := chk_book g
  have c2 := chk_depth d
  have c3 := hm_ok g d hd
  have c4 := fun n => cell_in_kind_ok g g.pos d n hd
  unfold cells
  rw [List.map_map]
  refine w_eq ?_
  unfold m_whole
  (apply Wp.w_fun; (focus (rfl; done)); (focus (((try simp only [List.cons_append, List.nil_append, List.length_cons, List.length_nil, Nat.reduceAdd, Nat.reduceSub, Nat.zero_add, Nat.sub_zero, List.replicate_succ, List.replicate_zero, List.append_nil]); rfl); done)))
  unfold b_whole
  repeat' decreasing_trivial_pre_omega
  refine w_of c1 ?_
  repeat' decreasing_trivial_pre_omega
  refine w_of c2 ?_
  repeat' decreasing_trivial_pre_omega
  unfold x1_whole
  repeat' decreasing_trivial_pre_omega
  refine w_of c3 ?_
  clear c1 c2 c3
  repeat' decreasing_trivial_pre_omega
  refine kr1 (n := (B * B) ^ d) rfl (by omega) ?_
  unfold below
  refine comp_map_w (fun (k : Nat) => PyData.int (k : Int)) (fun n => cT (cellF B ks 0 d n)) (List.range ((B * B) ^ d)) (by rw [List.length_range]; unfold sizeLine; omega) (fun n _ => ⟨_, rfl, ?_⟩) ?_
  · have c := c4 n
    clear c4
    repeat' decreasing_trivial_pre_omega
    refine w_of c ?_
    repeat' decreasing_trivial_pre_omega
    exact ⟨rfl, rfl⟩
  · repeat' decreasing_trivial_pre_omega
    exact ⟨rfl, rfl⟩
theorem cells_len (B : Nat) (ks : List (List Pt)) (d : Nat) : (cells B ks d).length = (B * B) ^ d := by unfold cells; rw [List.length_map, List.length_range]
theorem cells_rng {B : Nat} {ks : List (List Pt)} (g : Good B ks) (d : Nat) : ∀ c ∈ cells B ks d, (0 ≤ c.1 ∧ c.1 < ((B ^ d : Nat) : Int)) ∧ (0 ≤ c.2 ∧ c.2 < ((B ^ d : Nat) : Int)) := by
  intro c hc
  unfold cells at hc
  obtain ⟨n, _, rfl⟩ := List.mem_map.mp hc
  have hN : 0 < B * B := by rcases g.hb with h | h <;> subst h <;> decide
  have hb := run_bound g (digs (B * B) n d) (0, 0, 0) 0 g.pos (digs_lt n hN d) (Int.le_refl _) (by show (0 : Int) < (B : Int) ^ 0; rw [Int.pow_zero]; decide) (Int.le_refl _) (by show (0 : Int) < (B : Int) ^ 0; rw [Int.pow_zero]; decide)
  rw [digs_len, Nat.zero_add] at hb
  rw [Int.natCast_pow]
  exact hb

set_option linter.all false
set_option maxRecDepth 100000
set_option maxHeartbeats 4000000
open PySem PySem.Spec Ev Pu Mt Wp
/-! ### grids -/
def ShG (P : T → Prop) (n : Nat) (g : Gr) : Prop := g.length = n ∧ ∀ row ∈ g, row.length = n ∧ ∀ t ∈ row, P t
theorem shg_set {P : T → Prop} {n j k : Nat} {g : Gr} {row : List T} {t : T} (h : ShG P n g) (hr : g[j]? = some row) (ht : P t) : ShG P n (g.set j (row.set k t)) := by
  refine ⟨by rw [List.length_set]; exact h.1, fun r hr' => ?_⟩
  rcases List.mem_or_eq_of_mem_set hr' with q | q
  · exact h.2 r q
  · subst q
    obtain ⟨h1, h2⟩ := h.2 row (List.mem_of_getElem? hr)
    refine ⟨by rw [List.length_set]; exact h1, fun u hu => ?_⟩
    rcases List.mem_or_eq_of_mem_set hu with q | q
    · exact h2 u q
    · rw [q]; exact ht
theorem shg_new {P : T → Prop} {n : Nat} {t : T} (ht : P t) : ShG P n (List.replicate n (List.replicate n t)) := by
  refine ⟨List.length_replicate, fun row hr => ?_⟩
  rw [(List.mem_replicate.mp hr).2]
  exact ⟨List.length_replicate, fun u hu => by rw [(List.mem_replicate.mp hu).2]; exact ht⟩
theorem gset2_w {P : T → Prop} {n : Nat} {g : Gr} {e : En} {m1 m2 mv : SemE} {t : T} {a b : Int} (hp : plainE e = true) (h : ShG P n g) (hv : mv e = .ok (.r t) e) (h1 : m1 e = .ok (.r (.int a)) e) (h2 : m2 e = .ok (.r (.int b)) e)
    (ha : 0 ≤ a ∧ a < (n : Int)) (hb : 0 ≤ b ∧ b < (n : Int)) (ht : P t) : ∃ g', gSet2 m1 m2 mv g e = some (g', e) ∧ ShG P n g' := by
  obtain ⟨j, rfl⟩ := Int.eq_ofNat_of_zero_le ha.1
  obtain ⟨k, rfl⟩ := Int.eq_ofNat_of_zero_le hb.1
  have hj : j < g.length := by rw [h.1]; omega
  have hr : g[j]? = some g[j] := List.getElem?_eq_getElem hj
  have hl := (h.2 _ (List.mem_of_getElem? hr)).1
  refine ⟨g.set j (g[j].set k t), ?_, shg_set h hr ht⟩
  unfold gSet2
  simp only [hv, esc, hp, h1, h2, if_true, Wp.ixN_nat hj, hr, Wp.ixN_nat (show k < g[j].length by rw [hl]; omega)]
theorem gfor_on {α : Type} (f : α → T) (I : Gr → En → Prop) {gt : SemG} {m : SemGS} : ∀ (xs : List α), (∀ x ∈ xs, ∀ g e, I g e → ∃ e1, gt (f x) e = some e1 ∧ plainE e1 = true ∧ ∃ g2 e2, m g e1 = some (g2, e2) ∧ I g2 e2) → ∀ g e, I g e → ∃ g' e', gforS gt m (xs.map f) g e = some (g', e') ∧ I g' e'
  | [], _, g, e, h => ⟨g, e, rfl, h⟩
  | x :: xs, hs, g, e, h => by
    obtain ⟨e1, h1, h2, g2, e2, h3, h4⟩ := hs x List.mem_cons_self g e h
    obtain ⟨g', e', h5, h6⟩ := gfor_on f I xs (fun y hy => hs y (List.mem_cons_of_mem _ hy)) g2 e2 h4
    exact ⟨g', e', by rw [List.map_cons, gforS, h1]; simp only [h2, if_true, h3]; exact h5, h6⟩
theorem gfor_eq {mi : SemI} {gt : SemG} {m : SemGS} {g : Gr} {e : En} {ts : List T} (hi : mi e = .ok ts e) (hp : plainE e = true) : gFor mi gt m g e = gforS gt m ts g e := by
  unfold gFor; rw [hi]; simp only [hp, if_true]
theorem gseq_eq {m1 m2 : SemGS} {g g1 : Gr} {e e1 : En} (h : m1 g e = some (g1, e1)) : gSeq m1 m2 g e = m2 g1 e1 := by
  unfold gSeq; rw [h]
theorem gasg_eq {gt : SemG} {ma : SemE} {g : Gr} {e e1 : En} {t : T} (h : ma e = .ok (.r t) e) (hp : plainE e = true) (h1 : gt t e = some e1) (hp1 : plainE e1 = true) : gAsg gt ma g e = some (g, e1) := by
  unfold gAsg; simp only [h, esc, hp, if_true, h1, hp1]
theorem gif_t {c : SemT} {m1 m2 : SemGS} {g : Gr} {e : En} (h : c e = .ok true e) (hp : plainE e = true) : gIf c m1 m2 g e = m1 g e := by
  unfold gIf; simp only [h, hp, if_true]
theorem gif_f {c : SemT} {m1 m2 : SemGS} {g : Gr} {e : En} (h : c e = .ok false e) (hp : plainE e = true) : gIf c m1 m2 g e = m2 g e := by
  unfold gIf; simp [h, hp]
theorem set_back (e : En) (ν : Nat) (x : Sl) (hν : ν < e.length) : restE e ((wipeE e [ν]).set ν x) [ν] = e := by
  show (((e.set ν .un).set ν x).set ν ((e[ν]?).getD .un)) = e
  rw [List.set_set, List.set_set, List.getElem?_eq_getElem hν]
  exact List.set_getElem_self hν
theorem mkG_const {ν : Nat} {m : SemE} {row : List T} {e : En} (hp : plainE e = true) (hν : ν < e.length) : ∀ (ts : List T) (acc : Gr), (∀ t ∈ ts, m ((wipeE e [ν]).set ν (.v t)) = .ok (.b (.l row)) ((wipeE e [ν]).set ν (.v t))) → acc.length + ts.length ≤ sizeLine →
    mkG ν m ts acc e = some (acc ++ List.replicate ts.length row, e)
  | [], acc, _, _ => by simp [mkG]
  | t :: ts, acc, h, hl => by
    rw [List.length_cons] at hl
    rw [mkG, h t List.mem_cons_self]
    simp only [set_back _ _ _ hν]
    rw [if_pos ⟨by omega, hp⟩, mkG_const hp hν ts (acc ++ [row]) (fun u hu => h u (List.mem_cons_of_mem _ hu)) (by rw [List.length_append, List.length_singleton]; omega), List.length_cons, List.replicate_succ, List.append_assoc]
    rfl
theorem w_grid {i ν : Nat} {fs : List Nat} {mi : SemI} {m : SemE} {m2 : SemG2} {Q : Fl → En → Prop} {e e0 : En} {ts : List T} {g : Gr} (h0 : frzE fs e = e0) (hi : mi e0 = .ok ts e0) (hp : plainE e0 = true) (hl : i < e0.length) (hm : mkG ν m ts [] e0 = some (g, e0)) (q : W (m2 g (e0.set i .un)) Q) : W (sGrid i ν fs mi m m2 e) Q := by
  unfold sGrid
  rw [h0, hi]
  simp only [hm]
  rw [if_pos ⟨hp, hl⟩, if_pos hp]
  exact q
theorem w_g2seq {m1 : SemGS} {m2 : SemG2} {g g1 : Gr} {e e1 : En} {Q : Fl → En → Prop} (h : m1 g e = some (g1, e1)) (q : W (m2 g1 e1) Q) : W (g2Seq m1 m2 g e) Q := by
  unfold g2Seq; rw [h]; exact q
theorem w_g2done {i : Nat} {mr : SemS} {g : Gr} {e : En} {Q : Fl → En → Prop} (q : W (mr (e.set i (.v g.t))) Q) : W (g2Done i mr g e) Q := q
theorem pl_lent {s : Sl} (h : plainS s = true) : lentS s = false := by cases s <;> first | rfl | cases h
/-! ### signs -/
def Sg1 (t : T) : Prop := ∃ z : Str, t = .str z ∧ z.length ≤ 1
def eD (t0 t1 : T) (cs : List (Int × Int)) (n : Nat) (s5 s6 s7 s8 s9 : Sl) : En := [.v t0, .v t1, .v (.list (cs.map cT)), .v (.int ((2 * n - 1 : Nat) : Int)), .un, s5, s6, s7, s8, s9, .un, .un]
theorem eD_pl {t0 t1 : T} {cs : List (Int × Int)} {n : Nat} {s5 s6 s7 s8 s9 : Sl} (h5 : plainS s5 = true) (h6 : plainS s6 = true) (h7 : plainS s7 = true) (h8 : plainS s8 = true) (h9 : plainS s9 = true) : plainE (eD t0 t1 cs n s5 s6 s7 s8 s9) = true := by
  simp only [plainE, eD, List.all_cons, List.all_nil, h5, h6, h7, h8, h9, Bool.and_true]
  rfl
def InC (n : Nat) (c : Int × Int) : Prop := (0 ≤ c.1 ∧ c.1 < (n : Int)) ∧ (0 ≤ c.2 ∧ c.2 < (n : Int))
theorem dots_ok (t0 t1 : T) (cs : List (Int × Int)) (n : Nat) (hn : n ≤ 9) (hc : ∀ c ∈ cs, InC n c) (g : Gr) (hg : ShG Sg1 (2 * n - 1) g) :
    ∃ g' s5 s6, l2_drawn g (eD t0 t1 cs n .un .un .un .un .un) = some (g', eD t0 t1 cs n s5 s6 .un .un .un) ∧ plainS s5 = true ∧ plainS s6 = true ∧ ShG Sg1 (2 * n - 1) g' := by
  unfold l2_drawn
  have hi : iOf (eVar 2) (eD t0 t1 cs n .un .un .un .un .un) = .ok (cs.map cT) (eD t0 t1 cs n .un .un .un .un .un) := rfl
  rw [gfor_eq hi (eD_pl rfl rfl rfl rfl rfl)]
  refine Exists.elim (gfor_on cT (fun g e => ∃ s5 s6, plainS s5 = true ∧ plainS s6 = true ∧ e = eD t0 t1 cs n s5 s6 .un .un .un ∧ ShG Sg1 (2 * n - 1) g) (gt := gT 2 (gsCons (gN 5) (gsCons (gN 6) gsNil))) (m := y2_drawn) cs ?_ g _ ⟨.un, .un, rfl, rfl, rfl, hg⟩) ?_
  rotate_left
  · rintro g' ⟨e', h1, s5, s6, p5, p6, rfl, h2⟩
    exact ⟨g', s5, s6, h1, p5, p6, h2⟩
  rintro c hcm g e ⟨s5, s6, p5, p6, rfl, h⟩
  have a5 := pl_lent p5
  have a6 := pl_lent p6
  obtain ⟨⟨x0, x1⟩, y0, y1⟩ := hc c hcm
  have m1 : mulOk 2 c.2 = true := mulOk_of 64 64 (log2_small (by decide) (by decide)) (log2_small (by omega) (by decide)) (by decide)
  have m2 : mulOk 2 c.1 = true := mulOk_of 64 64 (log2_small (by decide) (by decide)) (log2_small (by omega) (by decide)) (by decide)
  refine ⟨eD t0 t1 cs n (.v (.int c.1)) (.v (.int c.2)) .un .un .un, ?_, eD_pl rfl rfl rfl rfl rfl, ?_⟩
  · unfold eD
    (first | rfl | (repeat' (first | refine Wp.gN_ok (by first | rfl | exact Wp.isLent_of rfl (by assumption)) rfl | refine Wp.gsNil_ok rfl | with_reducible apply Wp.gsCons_ok | apply Wp.gT_ok rfl)))
  unfold y2_drawn
  have q1 : eOp2 gMul (eK (.int 2)) (eVar 6) (eD t0 t1 cs n (.v (.int c.1)) (.v (.int c.2)) .un .un .un) = .ok (.r (.int (2 * c.2))) (eD t0 t1 cs n (.v (.int c.1)) (.v (.int c.2)) .un .un .un) := by
    refine w_eq ?_
    unfold eD
    repeat' decreasing_trivial_pre_omega
    exact ⟨rfl, rfl⟩
  have q2 : eOp2 gMul (eK (.int 2)) (eVar 5) (eD t0 t1 cs n (.v (.int c.1)) (.v (.int c.2)) .un .un .un) = .ok (.r (.int (2 * c.1))) (eD t0 t1 cs n (.v (.int c.1)) (.v (.int c.2)) .un .un .un) := by
    refine w_eq ?_
    unfold eD
    repeat' decreasing_trivial_pre_omega
    exact ⟨rfl, rfl⟩
  obtain ⟨g2, q, r⟩ := gset2_w (P := Sg1) (n := 2 * n - 1) (g := g) (e := eD t0 t1 cs n (.v (.int c.1)) (.v (.int c.2)) .un .un .un) (m1 := eOp2 gMul (eK (.int 2)) (eVar 6)) (m2 := eOp2 gMul (eK (.int 2)) (eVar 5)) (mv := eK (.str "o")) (t := .str "o") (a := 2 * c.2) (b := 2 * c.1) (eD_pl rfl rfl rfl rfl rfl) h rfl q1 q2 (by omega) (by omega) ⟨_, rfl, by decide⟩
  exact ⟨g2, _, q, _, _, rfl, rfl, rfl, r⟩
theorem near_ok (a b : Int × Int) : ∃ k : Bool, m_is_near [.v (cT a), .v (cT b)] = .ok (.r (.bool k)) [.v (cT a), .v (cT b)] := by
  have w : W (m_is_near [.v (cT a), .v (cT b)]) fun r e => ∃ k : Bool, r = .r (.bool k) ∧ e = [.v (cT a), .v (cT b)] := by
    unfold m_is_near cT
    (apply Wp.w_fun; (focus (rfl; done)); (focus (((try simp only [List.cons_append, List.nil_append, List.length_cons, List.length_nil, Nat.reduceAdd, Nat.reduceSub, Nat.zero_add, Nat.sub_zero, List.replicate_succ, List.replicate_zero, List.append_nil]); rfl); done)))
    unfold b_is_near
    repeat' decreasing_trivial_pre_omega
    exact ⟨_, rfl, rfl⟩
  obtain ⟨_, _, h, k, rfl, rfl⟩ := w
  exact ⟨k, h⟩
theorem step_ok (a b : Int × Int) : ∃ z : Str, z.length ≤ 1 ∧ m__step_sign [.v (cT a), .v (cT b)] = .ok (.r (.str z)) [.v (cT a), .v (cT b)] := by
  by_cases h : a.2 = b.2
  · have hd : decide (a.2 = b.2) = true := decide_eq_true h
    refine ⟨"-", by decide, w_eq ?_⟩
    unfold m__step_sign cT
    (apply Wp.w_fun; (focus (rfl; done)); (focus (((try simp only [List.cons_append, List.nil_append, List.length_cons, List.length_nil, Nat.reduceAdd, Nat.reduceSub, Nat.zero_add, Nat.sub_zero, List.replicate_succ, List.replicate_zero, List.append_nil]); rfl); done)))
    unfold b__step_sign
    repeat' decreasing_trivial_pre_omega
    exact ⟨rfl, rfl⟩
  · have hd : decide (a.2 = b.2) = false := decide_eq_false h
    refine ⟨"|", by decide, w_eq ?_⟩
    unfold m__step_sign cT
    (apply Wp.w_fun; (focus (rfl; done)); (focus (((try simp only [List.cons_append, List.nil_append, List.length_cons, List.length_nil, Nat.reduceAdd, Nat.reduceSub, Nat.zero_add, Nat.sub_zero, List.replicate_succ, List.replicate_zero, List.append_nil]); rfl); done)))
    unfold b__step_sign
    repeat' decreasing_trivial_pre_omega
    exact ⟨rfl, rfl⟩

set_option linter.all false
set_option maxRecDepth 100000
set_option maxHeartbeats 4000000
open PySem PySem.Spec Ev Pu Mt Wp
theorem line_set (t0 t1 : T) (cs : List (Int × Int)) (n : Nat) (hn : n ≤ 9) (a b : Int × Int) (ha : InC n a) (hb : InC n b) (k : Nat) (hx1 : gIx (.list (cs.map cT)) (.int (k : Int)) = some (.r (cT a))) (hx2 : gIx (.list (cs.map cT)) (.int ((k : Int) + 1)) = some (.r (cT b))) (g : Gr) (h : ShG Sg1 (2 * n - 1) g) :
    ∃ g2, gIf (tb (eCall 2 m_is_near (aCons (eOp2 gIx (eVar 2) (eVar 7)) (aCons (eOp2 gIx (eVar 2) (eOp2 gAdd (eVar 7) (eK (.int 1)))) aNil)))) (gSet2 (eOp2 gAdd (eVar 6) (eVar 9)) (eOp2 gAdd (eVar 5) (eVar 8)) (eCall 2 m__step_sign (aCons (eOp2 gIx (eVar 2) (eVar 7)) (aCons (eOp2 gIx (eVar 2) (eOp2 gAdd (eVar 7) (eK (.int 1)))) aNil)))) gNil g (eD t0 t1 cs n (.v (.int a.1)) (.v (.int a.2)) (.v (.int (k : Int))) (.v (.int b.1)) (.v (.int b.2))) = some (g2, eD t0 t1 cs n (.v (.int a.1)) (.v (.int a.2)) (.v (.int (k : Int))) (.v (.int b.1)) (.v (.int b.2))) ∧ ShG Sg1 (2 * n - 1) g2 := by
  obtain ⟨kb, nk⟩ := near_ok a b
  obtain ⟨z, zl, sk⟩ := step_ok a b
  have pl : plainE (eD t0 t1 cs n (.v (.int a.1)) (.v (.int a.2)) (.v (.int (k : Int))) (.v (.int b.1)) (.v (.int b.2))) = true := eD_pl rfl rfl rfl rfl rfl
  have q0 : (tb (eCall 2 m_is_near (aCons (eOp2 gIx (eVar 2) (eVar 7)) (aCons (eOp2 gIx (eVar 2) (eOp2 gAdd (eVar 7) (eK (.int 1)))) aNil)))) (eD t0 t1 cs n (.v (.int a.1)) (.v (.int a.2)) (.v (.int (k : Int))) (.v (.int b.1)) (.v (.int b.2))) = .ok kb (eD t0 t1 cs n (.v (.int a.1)) (.v (.int a.2)) (.v (.int (k : Int))) (.v (.int b.1)) (.v (.int b.2))) := by
    refine w_eq ?_
    clear sk zl
    unfold eD
    repeat' decreasing_trivial_pre_omega
    refine w_of nk ?_
    clear nk
    repeat' decreasing_trivial_pre_omega
    exact ⟨rfl, rfl⟩
  have q1 : (eOp2 gAdd (eVar 6) (eVar 9)) (eD t0 t1 cs n (.v (.int a.1)) (.v (.int a.2)) (.v (.int (k : Int))) (.v (.int b.1)) (.v (.int b.2))) = .ok (.r (.int (a.2 + b.2))) (eD t0 t1 cs n (.v (.int a.1)) (.v (.int a.2)) (.v (.int (k : Int))) (.v (.int b.1)) (.v (.int b.2))) := by
    refine w_eq ?_
    clear sk zl nk q0
    unfold eD
    repeat' decreasing_trivial_pre_omega
    exact ⟨rfl, rfl⟩
  have q2 : (eOp2 gAdd (eVar 5) (eVar 8)) (eD t0 t1 cs n (.v (.int a.1)) (.v (.int a.2)) (.v (.int (k : Int))) (.v (.int b.1)) (.v (.int b.2))) = .ok (.r (.int (a.1 + b.1))) (eD t0 t1 cs n (.v (.int a.1)) (.v (.int a.2)) (.v (.int (k : Int))) (.v (.int b.1)) (.v (.int b.2))) := by
    refine w_eq ?_
    clear sk zl nk q0 q1
    unfold eD
    repeat' decreasing_trivial_pre_omega
    exact ⟨rfl, rfl⟩
  have q3 : (eCall 2 m__step_sign (aCons (eOp2 gIx (eVar 2) (eVar 7)) (aCons (eOp2 gIx (eVar 2) (eOp2 gAdd (eVar 7) (eK (.int 1)))) aNil))) (eD t0 t1 cs n (.v (.int a.1)) (.v (.int a.2)) (.v (.int (k : Int))) (.v (.int b.1)) (.v (.int b.2))) = .ok (.r (.str z)) (eD t0 t1 cs n (.v (.int a.1)) (.v (.int a.2)) (.v (.int (k : Int))) (.v (.int b.1)) (.v (.int b.2))) := by
    refine w_eq ?_
    clear nk q0 q1 q2
    unfold eD
    repeat' decreasing_trivial_pre_omega
    refine w_of sk ?_
    clear sk
    repeat' decreasing_trivial_pre_omega
    exact ⟨rfl, rfl⟩
  obtain ⟨⟨a1, a2⟩, a3, a4⟩ := ha
  obtain ⟨⟨b1, b2⟩, b3, b4⟩ := hb
  cases kb with
  | true =>
    obtain ⟨g2, e, s⟩ := gset2_w (P := Sg1) pl h q3 q1 q2 (by omega) (by omega) ⟨z, rfl, zl⟩
    exact ⟨g2, (gif_t q0 pl).trans e, s⟩
  | false => exact ⟨g, (gif_f q0 pl).trans rfl, h⟩
theorem lines_ok (t0 t1 : T) (cs : List (Int × Int)) (n : Nat) (hn : n ≤ 9) (hl : 0 < cs.length ∧ cs.length ≤ 1000) (hc : ∀ c ∈ cs, InC n c) (s5 s6 : Sl) (p5 : plainS s5 = true) (p6 : plainS s6 = true) (g : Gr) (hg : ShG Sg1 (2 * n - 1) g) :
    ∃ g' s5' s6' s7 s8 s9, l1_drawn g (eD t0 t1 cs n s5 s6 .un .un .un) = some (g', eD t0 t1 cs n s5' s6' s7 s8 s9) ∧ ShG Sg1 (2 * n - 1) g' ∧ plainE (eD t0 t1 cs n s5' s6' s7 s8 s9) = true := by
  have hml : (cs.map cT).length = cs.length := List.length_map _
  have pl := eD_pl (t0 := t0) (t1 := t1) (cs := cs) (n := n) p5 p6 (s7 := .un) (s8 := .un) (s9 := .un) rfl rfl rfl
  have hi : iR1 (aCons (eOp2 gSub (eFn gLen (aCons (eVar 2) aNil)) (eK (.int 1))) aNil) (eD t0 t1 cs n s5 s6 .un .un .un) = .ok (below (cs.length - 1)) (eD t0 t1 cs n s5 s6 .un .un .un) := by
    obtain ⟨_, _, q, rfl, rfl⟩ : W (iR1 (aCons (eOp2 gSub (eFn gLen (aCons (eVar 2) aNil)) (eK (.int 1))) aNil) (eD t0 t1 cs n s5 s6 .un .un .un)) fun ts e => ts = below (cs.length - 1) ∧ e = eD t0 t1 cs n s5 s6 .un .un .un := by
      unfold eD
      repeat' decreasing_trivial_pre_omega
      refine kr1_eq (cs.length - 1) rfl (by rw [hml]; omega) (by omega) ?_
      exact ⟨rfl, rfl⟩
    exact q
  unfold l1_drawn
  rw [gfor_eq hi pl]
  unfold below
  refine Exists.elim (gfor_on (fun (k : Nat) => PyData.int (k : Int)) (fun g e => ShG Sg1 (2 * n - 1) g ∧ ∃ s5 s6 s7 s8 s9, e = eD t0 t1 cs n s5 s6 s7 s8 s9 ∧ plainS s5 = true ∧ plainS s6 = true ∧ plainS s7 = true ∧ plainS s8 = true ∧ plainS s9 = true) (gt := gN 7) (m := y1_drawn) (List.range (cs.length - 1)) ?_ g _ ⟨hg, s5, s6, .un, .un, .un, rfl, p5, p6, rfl, rfl, rfl⟩) ?_
  rotate_left
  · rintro g' ⟨e', h1, h2, s5, s6, s7, s8, s9, rfl, p5, p6, p7, p8, p9⟩
    exact ⟨g', s5, s6, s7, s8, s9, h1, h2, eD_pl p5 p6 p7 p8 p9⟩
  rintro k hk g e ⟨h, s5, s6, s7, s8, s9, rfl, p5, p6, p7, p8, p9⟩
  have hk := List.mem_range.mp hk
  have a5 := pl_lent p5
  have a6 := pl_lent p6
  have a7 := pl_lent p7
  have a8 := pl_lent p8
  have a9 := pl_lent p9
  have k1 : k < cs.length := by omega
  have k2 : k + 1 < cs.length := by omega
  have hx1 : gIx (.list (cs.map cT)) (.int (k : Int)) = some (.r (cT cs[k])) := gIx_l (by rw [List.getElem?_map, List.getElem?_eq_getElem k1]; rfl)
  have hx2 : gIx (.list (cs.map cT)) (.int ((k : Int) + 1)) = some (.r (cT cs[k + 1])) := by
    have := gIx_l (ts := cs.map cT) (k := k + 1) (x := cT cs[k + 1]) (by rw [List.getElem?_map, List.getElem?_eq_getElem k2]; rfl)
    rwa [Int.natCast_add] at this
  have ha := hc cs[k] (List.getElem_mem k1)
  have hb := hc cs[k + 1] (List.getElem_mem k2)
  refine ⟨eD t0 t1 cs n s5 s6 (.v (.int (k : Int))) s8 s9, gN_ok (by first | rfl | exact Wp.isLent_of rfl (by assumption)) rfl, eD_pl p5 p6 rfl p8 p9, ?_⟩
  generalize cs[k] = a at hx1 ha
  generalize cs[k + 1] = b at hx2 hb
  obtain ⟨g2, q, r⟩ := line_set t0 t1 cs n hn a b ha hb k hx1 hx2 g h
  refine ⟨g2, eD t0 t1 cs n (.v (.int a.1)) (.v (.int a.2)) (.v (.int (k : Int))) (.v (.int b.1)) (.v (.int b.2)), ?_, r, .v (.int a.1), .v (.int a.2), .v (.int (k : Int)), .v (.int b.1), .v (.int b.2), rfl, rfl, rfl, rfl, rfl, rfl⟩
  unfold y1_drawn
  have v1 : eOp2 gIx (eVar 2) (eVar 7) (eD t0 t1 cs n s5 s6 (.v (.int (k : Int))) s8 s9) = .ok (.r (cT a)) (eD t0 t1 cs n s5 s6 (.v (.int (k : Int))) s8 s9) := by
    refine w_eq ?_
    clear q
    unfold eD
    repeat' decreasing_trivial_pre_omega
    exact ⟨rfl, rfl⟩
  have g1 : gT 2 (gsCons (gN 5) (gsCons (gN 6) gsNil)) (cT a) (eD t0 t1 cs n s5 s6 (.v (.int (k : Int))) s8 s9) = some (eD t0 t1 cs n (.v (.int a.1)) (.v (.int a.2)) (.v (.int (k : Int))) s8 s9) := by
    unfold eD
    (first | rfl | (repeat' (first | refine Wp.gN_ok (by first | rfl | exact Wp.isLent_of rfl (by assumption)) rfl | refine Wp.gsNil_ok rfl | with_reducible apply Wp.gsCons_ok | apply Wp.gT_ok rfl)))
  have v2 : eOp2 gIx (eVar 2) (eOp2 gAdd (eVar 7) (eK (.int 1))) (eD t0 t1 cs n (.v (.int a.1)) (.v (.int a.2)) (.v (.int (k : Int))) s8 s9) = .ok (.r (cT b)) (eD t0 t1 cs n (.v (.int a.1)) (.v (.int a.2)) (.v (.int (k : Int))) s8 s9) := by
    refine w_eq ?_
    clear q v1 g1
    unfold eD
    repeat' decreasing_trivial_pre_omega
    exact ⟨rfl, rfl⟩
  have g2' : gT 2 (gsCons (gN 8) (gsCons (gN 9) gsNil)) (cT b) (eD t0 t1 cs n (.v (.int a.1)) (.v (.int a.2)) (.v (.int (k : Int))) s8 s9) = some (eD t0 t1 cs n (.v (.int a.1)) (.v (.int a.2)) (.v (.int (k : Int))) (.v (.int b.1)) (.v (.int b.2))) := by
    unfold eD
    (first | rfl | (repeat' (first | refine Wp.gN_ok (by first | rfl | exact Wp.isLent_of rfl (by assumption)) rfl | refine Wp.gsNil_ok rfl | with_reducible apply Wp.gsCons_ok | apply Wp.gT_ok rfl)))
  rw [gseq_eq (gasg_eq v1 (eD_pl p5 p6 rfl p8 p9) g1 (eD_pl rfl rfl rfl p8 p9)), gseq_eq (gasg_eq v2 (eD_pl rfl rfl rfl p8 p9) g2' (eD_pl rfl rfl rfl rfl rfl))]
  exact q
theorem strs_ok : ∀ {row : List T}, (∀ t ∈ row, Sg1 t) → ∃ ys, strsOf row = some ys ∧ (ys.map (·.length)).sum ≤ row.length ∧ ys.length = row.length
  | [], _ => ⟨[], rfl, by simp, rfl⟩
  | t :: row, h => by
    obtain ⟨z, rfl, hz⟩ := h t List.mem_cons_self
    obtain ⟨ys, h1, h2, h3⟩ := strs_ok fun u hu => h u (List.mem_cons_of_mem _ hu)
    exact ⟨z :: ys, by rw [strsOf, h1]; rfl, by simp only [List.map_cons, List.sum_cons, List.length_cons]; omega, by simp [h3]⟩

set_option linter.all false
set_option maxRecDepth 100000
set_option maxHeartbeats 4000000
open PySem PySem.Spec Ev Pu Mt Wp
theorem power_n {B : Nat} (hB : B = 2 ∨ B = 3) (d : Nat) (hd : d ≤ 200) : m_power [.v (nT B), .v (nT d)] = .ok (.r (nT (B ^ d))) [.v (nT B), .v (nT d)] := by
  have h := power_ok (B : Int) d (by omega) (by omega) hd
  rw [← Int.natCast_pow] at h
  exact h
theorem pow_lims {B : Nat} (hB : B = 2 ∨ B = 3) {d : Nat} (hd : d ≤ 2) : (0 < B ^ d ∧ B ^ d ≤ 9) ∧ 0 < (B * B) ^ d ∧ (B * B) ^ d ≤ 81 := by
  have h : d = 0 ∨ d = 1 ∨ d = 2 := by omega
  rcases hB with rfl | rfl <;> rcases h with rfl | rfl | rfl <;> decide
theorem rep_one {t : T} (n : Nat) : (List.replicate n [t]).flatten = List.replicate n t := by
  induction n with
  | zero => rfl
  | succ n ih => rw [List.replicate_succ, List.flatten_cons, ih, List.replicate_succ]; rfl
theorem drawn_rows (t0 t1 : T) (cs : List (Int × Int)) (n : Nat) (hn : n ≤ 9) (s5 s6 s7 s8 s9 : Sl) (g : Gr) (hg : ShG Sg1 (2 * n - 1) g) (ss : List Sl) (Q : Od → En → Prop) (q : ∀ ts : List T, ts.length = 2 * n - 1 → Q (.b (.l ts)) (finE ss [.v t0, .v t1, .v (.list (cs.map cT)), .v (.int ((2 * n - 1 : Nat) : Int)), .v g.t, s5, s6, s7, s8, s9, .un, .un])) :
    W ((sRet x1_drawn) [.v t0, .v t1, .v (.list (cs.map cT)), .v (.int ((2 * n - 1 : Nat) : Int)), .v g.t, s5, s6, s7, s8, s9, .un, .un]) (KFun ss Q) := by
  unfold x1_drawn
  have e0 : g.t = .list (g.map PyData.list) := rfl
  rw [e0] at q ⊢
  repeat' decreasing_trivial_pre_omega
  rw [← List.map_reverse]
  refine comp_map_w PyData.list (fun row => .str (Txt.join "" ((strsOf row).getD []))) g.reverse (by rw [List.length_reverse, hg.1]; unfold sizeLine; omega) (fun row hr => ⟨_, rfl, ?_⟩) ?_
  · obtain ⟨rl, rs⟩ := hg.2 row (List.mem_reverse.mp hr)
    obtain ⟨ys, h1, h2, h3⟩ := strs_ok rs
    have z : ("" : Str).length = 0 := by decide +kernel
    have h4 : (ys.map (·.length)).sum + ys.length * ("" : Str).length ≤ 16777216 := by rw [z]; omega
    rw [h1]
    clear h2 h3 z rl rs q
    repeat' decreasing_trivial_pre_omega
    exact ⟨rfl, rfl⟩
  · repeat' decreasing_trivial_pre_omega
    exact q _ (by rw [List.length_map, List.length_reverse]; exact hg.1)
theorem dr_head (m1 m2 : FSem) (sg : SemS) (td : T) (b : Int) (tk_ : T) (n : Nat) (cl : List T) (mm : mulOk 2 (n : Int) = true) (c1 : m1 [.v (.tuple [.int b, tk_]), .v td] = .ok (.b (.l cl)) [.v (.tuple [.int b, tk_]), .v td]) (pw : m2 [.v (.int b), .v td] = .ok (.r (nT n)) [.v (.int b), .v td]) (Q : Fl → En → Prop)
    (q : W (sg [.v (.tuple [.int b, tk_]), .v td, .ow false (.l cl), .v (.int (2 * (n : Int) - 1)), .un, .un, .un, .un, .un, .un, .un, .un]) Q) :
    W (sSeq (sSet 2 (eCall 2 m1 (aCons (eVar 0) (aCons (eVar 1) aNil)))) (sSeq (sSet 3 (eOp2 gSub (eOp2 gMul (eK (.int 2)) (eCall 2 m2 (aCons (eOp2 gIx (eVar 0) (eK (.int 0))) (aCons (eVar 1) aNil)))) (eK (.int 1)))) sg) [.v (.tuple [.int b, tk_]), .v td, .un, .un, .un, .un, .un, .un, .un, .un, .un, .un]) Q := by
  have g0 : gIx (.tuple [.int b, tk_]) (.int 0) = some (.r (.int b)) := rfl
  repeat' decreasing_trivial_pre_omega
  refine w_of c1 ?_
  clear c1
  repeat' decreasing_trivial_pre_omega
  refine w_of pw ?_
  clear pw
  repeat' decreasing_trivial_pre_omega
  exact q
theorem drawn_w {B : Nat} {ks : List (List Pt)} (gd : Good B ks) (d : Nat) (hd : d ≤ 2) : W (m_drawn [.v (bkT B ks), .v (nT d)]) fun r e => ∃ ts : List T, ts.length = 2 * B ^ d - 1 ∧ r = .b (.l ts) ∧ e = [.v (bkT B ks), .v (nT d)] := by
  obtain ⟨⟨n0, n9⟩, N0, N9⟩ := pow_lims gd.hb hd
  have c1 := whole_w gd d (by omega) (by omega)
  have pw := power_n gd.hb d (by omega)
  have cl := cells_len B ks d
  have cr : ∀ c ∈ cells B ks d, InC (B ^ d) c := cells_rng gd d
  generalize cells B ks d = cs at *
  generalize B ^ d = n at *
  have m1 : mulOk 2 (n : Int) = true := mulOk_of 64 64 (log2_small (by decide) (by decide)) (log2_small (by omega) (by decide)) (by decide)
  have e1 : 2 * (n : Int) - 1 = ((2 * n - 1 : Nat) : Int) := by omega
  unfold m_drawn
  (apply Wp.w_fun; (focus (rfl; done)); (focus (((try simp only [List.cons_append, List.nil_append, List.length_cons, List.length_nil, Nat.reduceAdd, Nat.reduceSub, Nat.zero_add, Nat.sub_zero, List.replicate_succ, List.replicate_zero, List.append_nil]); rfl); done)))
  unfold b_drawn
  unfold bkT at c1 ⊢
  refine dr_head _ _ _ _ _ _ n _ m1 c1 pw _ ?_
  clear c1 pw
  rw [e1]
  have hi : iR1 (aCons (eVar 3) aNil) (eD (.tuple [.int (B : Int), .tuple (ks.map kT)]) (nT d) cs n .un .un .un .un .un) = .ok (below (2 * n - 1)) (eD (.tuple [.int (B : Int), .tuple (ks.map kT)]) (nT d) cs n .un .un .un .un .un) := by
    obtain ⟨_, _, q, rfl, rfl⟩ : W (iR1 (aCons (eVar 3) aNil) (eD (.tuple [.int (B : Int), .tuple (ks.map kT)]) (nT d) cs n .un .un .un .un .un)) fun ts e => ts = below (2 * n - 1) ∧ e = eD (.tuple [.int (B : Int), .tuple (ks.map kT)]) (nT d) cs n .un .un .un .un .un := by
      unfold eD
      repeat' decreasing_trivial_pre_omega
      refine kr1 (n := 2 * n - 1) rfl (by omega) ?_
      exact ⟨rfl, rfl⟩
    exact q
  have pl : plainE (eD (.tuple [.int (B : Int), .tuple (ks.map kT)]) (nT d) cs n .un .un .un .un .un) = true := eD_pl rfl rfl rfl rfl rfl
  have mk := mkG_const (ν := 10) (m := x2_drawn) (row := List.replicate (2 * n - 1) (.str " ")) pl (by decide : 10 < 12) (below (2 * n - 1)) [] (fun t _ => by
    refine w_eq ?_
    show W (x2_drawn [.v (.tuple [.int (B : Int), .tuple (ks.map kT)]), .v (nT d), .v (.list (cs.map cT)), .v (.int ((2 * n - 1 : Nat) : Int)), .un, .un, .un, .un, .un, .un, .v t, .un]) _
    unfold x2_drawn
    repeat' decreasing_trivial_pre_omega
    refine krep2 (2 * n - 1) rfl (by omega) (by decide) ?_
    rw [rep_one]
    exact ⟨rfl, rfl⟩) (by unfold below; simp; unfold sizeLine; omega)
  rw [List.nil_append, show (below (2 * n - 1)).length = 2 * n - 1 by unfold below; simp] at mk
  refine w_grid (e0 := eD (.tuple [.int (B : Int), .tuple (ks.map kT)]) (nT d) cs n .un .un .un .un .un) rfl hi pl (by decide : 4 < 12) mk ?_
  obtain ⟨g1, s5, s6, h1, p5, p6, sh1⟩ := dots_ok (.tuple [.int (B : Int), .tuple (ks.map kT)]) (nT d) cs n n9 cr _ (shg_new (P := Sg1) (n := 2 * n - 1) (t := .str " ") ⟨_, rfl, by decide⟩)
  obtain ⟨g2, s5', s6', s7, s8, s9, h2, sh2, pl2⟩ := lines_ok (.tuple [.int (B : Int), .tuple (ks.map kT)]) (nT d) cs n n9 ⟨by omega, by omega⟩ cr s5 s6 p5 p6 g1 sh1
  refine w_g2seq h1 (w_g2seq h2 (w_g2done ?_))
  refine drawn_rows _ _ cs n n9 s5' s6' s7 s8 s9 g2 sh2 _ _ fun ts hts => ⟨ts, hts, rfl, rfl⟩

set_option linter.all false
set_option maxRecDepth 100000
set_option maxHeartbeats 4000000
open PySem PySem.Spec Ev Pu Mt Wp
def eN (t0 t1 : T) (cs : List (Int × Int)) (n : Nat) (s5 s6 s7 : Sl) : En := [.v t0, .v t1, .v (.list (cs.map cT)), .v (nT n), .un, s5, s6, s7, .un]
theorem eN_pl {t0 t1 : T} {cs : List (Int × Int)} {n : Nat} {s5 s6 s7 : Sl} (h5 : plainS s5 = true) (h6 : plainS s6 = true) (h7 : plainS s7 = true) : plainE (eN t0 t1 cs n s5 s6 s7) = true := by
  simp only [plainE, eN, List.all_cons, List.all_nil, h5, h6, h7, Bool.and_true]
  rfl
def Any (_ : T) : Prop := True
theorem numb_set (t0 t1 : T) (cs : List (Int × Int)) (n : Nat) (a : Int × Int) (ha : InC n a) (k : Nat) (g : Gr) (h : ShG Any n g) :
    ∃ g2, gSet2 (eOp2 gSub (eOp2 gSub (eVar 3) (eK (.int 1))) (eVar 7)) (eVar 6) (eVar 5) g (eN t0 t1 cs n (.v (nT k)) (.v (.int a.1)) (.v (.int a.2))) = some (g2, eN t0 t1 cs n (.v (nT k)) (.v (.int a.1)) (.v (.int a.2))) ∧ ShG Any n g2 := by
  have q1 : (eOp2 gSub (eOp2 gSub (eVar 3) (eK (.int 1))) (eVar 7)) (eN t0 t1 cs n (.v (nT k)) (.v (.int a.1)) (.v (.int a.2))) = .ok (.r (.int ((n : Int) - 1 - a.2))) (eN t0 t1 cs n (.v (nT k)) (.v (.int a.1)) (.v (.int a.2))) := by
    refine w_eq ?_
    unfold eN
    repeat' decreasing_trivial_pre_omega
    exact ⟨rfl, rfl⟩
  obtain ⟨⟨a1, a2⟩, a3, a4⟩ := ha
  exact gset2_w (P := Any) (t := nT k) (eN_pl rfl rfl rfl) h rfl q1 (b := a.1) rfl (by omega) ⟨a1, a2⟩ trivial
theorem numbs_ok (t0 t1 : T) (cs : List (Int × Int)) (n : Nat) (hl : cs.length ≤ 1000) (hc : ∀ c ∈ cs, InC n c) (g : Gr) (hg : ShG Any n g) :
    ∃ g' s5 s6 s7, l1_numbers_drawn g (eN t0 t1 cs n .un .un .un) = some (g', eN t0 t1 cs n s5 s6 s7) ∧ ShG Any n g' := by
  have hml : (cs.map cT).length = cs.length := List.length_map _
  have hi : iR1 (aCons (eFn gLen (aCons (eVar 2) aNil)) aNil) (eN t0 t1 cs n .un .un .un) = .ok (below cs.length) (eN t0 t1 cs n .un .un .un) := by
    obtain ⟨_, _, q, rfl, rfl⟩ : W (iR1 (aCons (eFn gLen (aCons (eVar 2) aNil)) aNil) (eN t0 t1 cs n .un .un .un)) fun ts e => ts = below cs.length ∧ e = eN t0 t1 cs n .un .un .un := by
      unfold eN
      repeat' decreasing_trivial_pre_omega
      refine kr1_eq cs.length rfl (by rw [hml]) (by omega) ?_
      exact ⟨rfl, rfl⟩
    exact q
  unfold l1_numbers_drawn
  rw [gfor_eq hi (eN_pl rfl rfl rfl)]
  unfold below
  refine Exists.elim (gfor_on (fun (k : Nat) => PyData.int (k : Int)) (fun g e => ShG Any n g ∧ ∃ s5 s6 s7, e = eN t0 t1 cs n s5 s6 s7 ∧ plainS s5 = true ∧ plainS s6 = true ∧ plainS s7 = true) (gt := gN 5) (m := y1_numbers_drawn) (List.range cs.length) ?_ g _ ⟨hg, .un, .un, .un, rfl, rfl, rfl, rfl⟩) ?_
  rotate_left
  · rintro g' ⟨e', h1, h2, s5, s6, s7, rfl, p5, p6, p7⟩
    exact ⟨g', s5, s6, s7, h1, h2⟩
  rintro k hk g e ⟨h, s5, s6, s7, rfl, p5, p6, p7⟩
  have hk := List.mem_range.mp hk
  have a5 := pl_lent p5
  have a6 := pl_lent p6
  have a7 := pl_lent p7
  have hx1 : gIx (.list (cs.map cT)) (.int (k : Int)) = some (.r (cT cs[k])) := gIx_l (by rw [List.getElem?_map, List.getElem?_eq_getElem hk]; rfl)
  have ha := hc cs[k] (List.getElem_mem hk)
  refine ⟨eN t0 t1 cs n (.v (nT k)) s6 s7, gN_ok (by first | rfl | exact Wp.isLent_of rfl (by assumption)) rfl, eN_pl rfl p6 p7, ?_⟩
  generalize cs[k] = a at hx1 ha
  obtain ⟨g2, q, r⟩ := numb_set t0 t1 cs n a ha k g h
  refine ⟨g2, eN t0 t1 cs n (.v (nT k)) (.v (.int a.1)) (.v (.int a.2)), ?_, r, .v (nT k), .v (.int a.1), .v (.int a.2), rfl, rfl, rfl, rfl⟩
  unfold y1_numbers_drawn
  have v1 : eOp2 gIx (eVar 2) (eVar 5) (eN t0 t1 cs n (.v (nT k)) s6 s7) = .ok (.r (cT a)) (eN t0 t1 cs n (.v (nT k)) s6 s7) := by
    refine w_eq ?_
    clear q
    unfold eN nT
    repeat' decreasing_trivial_pre_omega
    exact ⟨rfl, rfl⟩
  have g1 : gT 2 (gsCons (gN 6) (gsCons (gN 7) gsNil)) (cT a) (eN t0 t1 cs n (.v (nT k)) s6 s7) = some (eN t0 t1 cs n (.v (nT k)) (.v (.int a.1)) (.v (.int a.2))) := by
    unfold eN
    (first | rfl | (repeat' (first | refine Wp.gN_ok (by first | rfl | exact Wp.isLent_of rfl (by assumption)) rfl | refine Wp.gsNil_ok rfl | with_reducible apply Wp.gsCons_ok | apply Wp.gT_ok rfl)))
  rw [gseq_eq (gasg_eq v1 (eN_pl rfl p6 p7) g1 (eN_pl rfl rfl rfl))]
  exact q
theorem nd_head (m1 m2 : FSem) (sg : SemS) (td : T) (b : Int) (tk_ : T) (n : Nat) (cl : List T) (c1 : m1 [.v (.tuple [.int b, tk_]), .v td] = .ok (.b (.l cl)) [.v (.tuple [.int b, tk_]), .v td]) (pw : m2 [.v (.int b), .v td] = .ok (.r (nT n)) [.v (.int b), .v td]) (Q : Fl → En → Prop)
    (q : W (sg [.v (.tuple [.int b, tk_]), .v td, .ow false (.l cl), .v (nT n), .un, .un, .un, .un, .un]) Q) :
    W (sSeq (sSet 2 (eCall 2 m1 (aCons (eVar 0) (aCons (eVar 1) aNil)))) (sSeq (sSet 3 (eCall 2 m2 (aCons (eOp2 gIx (eVar 0) (eK (.int 0))) (aCons (eVar 1) aNil)))) sg) [.v (.tuple [.int b, tk_]), .v td, .un, .un, .un, .un, .un, .un, .un]) Q := by
  have g0 : gIx (.tuple [.int b, tk_]) (.int 0) = some (.r (.int b)) := rfl
  repeat' decreasing_trivial_pre_omega
  refine w_of c1 ?_
  clear c1
  repeat' decreasing_trivial_pre_omega
  refine w_of pw ?_
  clear pw
  repeat' decreasing_trivial_pre_omega
  exact q
theorem numbers_w {B : Nat} {ks : List (List Pt)} (gd : Good B ks) (d : Nat) (hd : d ≤ 2) : W (m_numbers_drawn [.v (bkT B ks), .v (nT d)]) fun r e => ∃ ts : List T, ts.length = B ^ d ∧ r = .r (.list ts) ∧ e = [.v (bkT B ks), .v (nT d)] := by
  obtain ⟨⟨n0, n9⟩, N0, N9⟩ := pow_lims gd.hb hd
  have c1 := whole_w gd d (by omega) (by omega)
  have pw := power_n gd.hb d (by omega)
  have cl := cells_len B ks d
  have cr : ∀ c ∈ cells B ks d, InC (B ^ d) c := cells_rng gd d
  generalize cells B ks d = cs at *
  generalize B ^ d = n at *
  unfold m_numbers_drawn
  (apply Wp.w_fun; (focus (rfl; done)); (focus (((try simp only [List.cons_append, List.nil_append, List.length_cons, List.length_nil, Nat.reduceAdd, Nat.reduceSub, Nat.zero_add, Nat.sub_zero, List.replicate_succ, List.replicate_zero, List.append_nil]); rfl); done)))
  unfold b_numbers_drawn
  unfold bkT at c1 ⊢
  refine nd_head _ _ _ _ _ _ n _ c1 pw _ ?_
  clear c1 pw
  have hi : iR1 (aCons (eVar 3) aNil) (eN (.tuple [.int (B : Int), .tuple (ks.map kT)]) (nT d) cs n .un .un .un) = .ok (below n) (eN (.tuple [.int (B : Int), .tuple (ks.map kT)]) (nT d) cs n .un .un .un) := by
    obtain ⟨_, _, q, rfl, rfl⟩ : W (iR1 (aCons (eVar 3) aNil) (eN (.tuple [.int (B : Int), .tuple (ks.map kT)]) (nT d) cs n .un .un .un)) fun ts e => ts = below n ∧ e = eN (.tuple [.int (B : Int), .tuple (ks.map kT)]) (nT d) cs n .un .un .un := by
      unfold eN
      repeat' decreasing_trivial_pre_omega
      refine kr1 (n := n) rfl (by omega) ?_
      exact ⟨rfl, rfl⟩
    exact q
  have pl : plainE (eN (.tuple [.int (B : Int), .tuple (ks.map kT)]) (nT d) cs n .un .un .un) = true := eN_pl rfl rfl rfl
  have mk := mkG_const (ν := 8) (m := x1_numbers_drawn) (row := List.replicate n (.int 0)) pl (by decide : 8 < 9) (below n) [] (fun t _ => by
    refine w_eq ?_
    show W (x1_numbers_drawn [.v (.tuple [.int (B : Int), .tuple (ks.map kT)]), .v (nT d), .v (.list (cs.map cT)), .v (nT n), .un, .un, .un, .un, .v t]) _
    unfold x1_numbers_drawn
    repeat' decreasing_trivial_pre_omega
    refine krep2 n rfl (by omega) (by decide) ?_
    rw [rep_one]
    exact ⟨rfl, rfl⟩) (by unfold below; simp; unfold sizeLine; omega)
  rw [List.nil_append, show (below n).length = n by unfold below; simp] at mk
  refine w_grid (e0 := eN (.tuple [.int (B : Int), .tuple (ks.map kT)]) (nT d) cs n .un .un .un) rfl hi pl (by decide : 4 < 9) mk ?_
  obtain ⟨g1, s5, s6, s7, h1, sh1⟩ := numbs_ok (.tuple [.int (B : Int), .tuple (ks.map kT)]) (nT d) cs n (by omega) cr _ (shg_new (P := Any) (n := n) (t := .int 0) trivial)
  refine w_g2seq h1 (w_g2done ?_)
  show W (sRet (eVar 4) [.v (.tuple [.int (B : Int), .tuple (ks.map kT)]), .v (nT d), .v (.list (cs.map cT)), .v (nT n), .v (.list (g1.map PyData.list)), s5, s6, s7, .un]) _
  repeat' decreasing_trivial_pre_omega
  exact ⟨_, by rw [List.length_map]; exact sh1.1, rfl, rfl⟩
/-! ### what is refused -/
theorem drawn_x1 {t u : T} (hf : fewK t = true) (h : isBk t = false) : Wx (m_drawn [.v t, .v u]) "InvalidBook" t fun e => e = [.v t, .v u] := by
  have q := whole_x1 (u := u) hf h
  unfold m_drawn
  refine wx_fun (e0 := [.v t, .v u, .un, .un, .un, .un, .un, .un, .un, .un, .un, .un]) rfl rfl ?_
  unfold b_drawn
  refine wx_seq1 (wx_set (wx_call ?_))
  repeat' decreasing_trivial_pre_omega
  refine xcall rfl rfl (of_decide_eq_true rfl) (wx_imp q ?_)
  rintro _ rfl
  rfl
theorem drawn_x2 {B : Nat} {ks : List (List Pt)} (g : Good B ks) {u : T} (h : isC u = false) : Wx (m_drawn [.v (bkT B ks), .v u]) "InvalidDepth" u fun e => e = [.v (bkT B ks), .v u] := by
  have q := whole_x2 g h
  unfold m_drawn
  refine wx_fun (e0 := [.v (bkT B ks), .v u, .un, .un, .un, .un, .un, .un, .un, .un, .un, .un]) rfl rfl ?_
  unfold b_drawn
  refine wx_seq1 (wx_set (wx_call ?_))
  repeat' decreasing_trivial_pre_omega
  refine xcall rfl rfl (of_decide_eq_true rfl) (wx_imp q ?_)
  rintro _ rfl
  rfl
theorem numbers_x1 {t u : T} (hf : fewK t = true) (h : isBk t = false) : Wx (m_numbers_drawn [.v t, .v u]) "InvalidBook" t fun e => e = [.v t, .v u] := by
  have q := whole_x1 (u := u) hf h
  unfold m_numbers_drawn
  refine wx_fun (e0 := [.v t, .v u, .un, .un, .un, .un, .un, .un, .un]) rfl rfl ?_
  unfold b_numbers_drawn
  refine wx_seq1 (wx_set (wx_call ?_))
  repeat' decreasing_trivial_pre_omega
  refine xcall rfl rfl (of_decide_eq_true rfl) (wx_imp q ?_)
  rintro _ rfl
  rfl
theorem numbers_x2 {B : Nat} {ks : List (List Pt)} (g : Good B ks) {u : T} (h : isC u = false) : Wx (m_numbers_drawn [.v (bkT B ks), .v u]) "InvalidDepth" u fun e => e = [.v (bkT B ks), .v u] := by
  have q := whole_x2 g h
  unfold m_numbers_drawn
  refine wx_fun (e0 := [.v (bkT B ks), .v u, .un, .un, .un, .un, .un, .un, .un]) rfl rfl ?_
  unfold b_numbers_drawn
  refine wx_seq1 (wx_set (wx_call ?_))
  repeat' decreasing_trivial_pre_omega
  refine xcall rfl rfl (of_decide_eq_true rfl) (wx_imp q ?_)
  rintro _ rfl
  rfl

set_option linter.all false
set_option maxRecDepth 100000
set_option maxHeartbeats 4000000
open PySem PySem.Spec Ev Pu Mt Wp
theorem wx_fn {g : List T → Option Od} {ma : SemA} {c : Str} {t : T} {Q : En → Prop} {e : En} (h : Wx (ma e) c t Q) : Wx (eFn g ma e) c t Q := wx_bind1 h
theorem wx_acons {m : SemE} {ma : SemA} {c : Str} {t : T} {Q : En → Prop} {e : En} (h : Wx (m e) c t Q) : Wx (aCons m ma e) c t Q := wx_bind1 h
def HsT : Hds := [("InvalidBook", some 6, sPut2 4 5 (.str "book")), ("InvalidDepth", some 6, sPut2 4 5 (.str "depth")), ("ThreadError", none, fun _ => (sSet 4 (eK (.str "other"))))]
def eT (way : Nat) (t u : T) (nm : Bool) (s5 : T) : En := [.v (nT way), .v t, .v u, .v (.bool nm), .v (.str ""), .v s5, .un]
/-- a clause: both ways of the call -/
theorem arm_x {m : FSem} {t u x : T} {c : Str} {nm : Bool} {way : Nat} (h : Wx (m [.v t, .v u]) c x fun e => e = [.v t, .v u]) :
    Wx (sSet 5 (eFn gLen (aCons (eIf (tb (eVar 3)) (eCallK 2 [1, 0] m (aCons (eVar 2) (aCons (eVar 1) aNil))) (eCall 2 m (aCons (eVar 1) (aCons (eVar 2) aNil)))) aNil)) (eT way t u nm .none)) c x fun e => e = eT way t u nm .none := by
  unfold eT
  refine wx_set (wx_fn (wx_acons ?_))
  cases nm with
  | true =>
    refine wx_eif_t ?_
    repeat' decreasing_trivial_pre_omega
    refine ⟨rfl, wx_callk ?_⟩
    repeat' decreasing_trivial_pre_omega
    refine xcallk (by decide) ⟨rfl, rfl⟩ rfl (of_decide_eq_true rfl) (wx_imp h ?_)
    rintro _ rfl
    rfl
  | false =>
    refine wx_eif_f ?_
    repeat' decreasing_trivial_pre_omega
    refine ⟨rfl, wx_call ?_⟩
    repeat' decreasing_trivial_pre_omega
    refine xcall rfl rfl (of_decide_eq_true rfl) (wx_imp h ?_)
    rintro _ rfl
    rfl
theorem body_x {m1 m2 : FSem} {t u x : T} {c : Str} {nm : Bool} {way : Nat} (h1 : Wx (m1 [.v t, .v u]) c x fun e => e = [.v t, .v u]) (h2 : Wx (m2 [.v t, .v u]) c x fun e => e = [.v t, .v u]) :
    Wx (sIf (tb (eOp2 (gEq id) (eVar 0) (eK (.int 0)))) (sSet 5 (eFn gLen (aCons (eIf (tb (eVar 3)) (eCallK 2 [1, 0] m1 (aCons (eVar 2) (aCons (eVar 1) aNil))) (eCall 2 m1 (aCons (eVar 1) (aCons (eVar 2) aNil)))) aNil))) (sSet 5 (eFn gLen (aCons (eIf (tb (eVar 3)) (eCallK 2 [1, 0] m2 (aCons (eVar 2) (aCons (eVar 1) aNil))) (eCall 2 m2 (aCons (eVar 1) (aCons (eVar 2) aNil)))) aNil))) (eT way t u nm .none)) c x fun e => e = eT way t u nm .none := by
  have a1 := arm_x (way := way) (nm := nm) h1
  have a2 := arm_x (way := way) (nm := nm) h2
  clear h1 h2
  by_cases hw : (way : Int) = 0
  · have hd : decide ((way : Int) = 0) = true := decide_eq_true hw
    refine wx_if_t ?_
    unfold eT at *
    repeat' decreasing_trivial_pre_omega
    exact ⟨hd, a1⟩
  · have hd : decide ((way : Int) = 0) = false := decide_eq_false hw
    refine wx_if_f ?_
    unfold eT at *
    repeat' decreasing_trivial_pre_omega
    exact ⟨hd, a2⟩
theorem sub_b : subE "InvalidBook" "InvalidBook" = true := by decide +kernel
theorem sub_d : subE "InvalidDepth" "InvalidDepth" = true := by decide +kernel
theorem sub_db : subE "InvalidDepth" "InvalidBook" = false := by decide +kernel
theorem hr_b {way : Nat} {t u x : T} {nm : Bool} {Q : Fl → En → Prop} (q : Q .nx [.v (nT way), .v t, .v u, .v (.bool nm), .v (.str "book"), .v x, .un]) : W (hrun "InvalidBook" x (eT way t u nm .none) HsT) Q := by
  unfold HsT hrun
  rw [if_pos sub_b]
  exact ⟨_, _, rfl, q⟩
theorem hr_d {way : Nat} {t u x : T} {nm : Bool} {Q : Fl → En → Prop} (q : Q .nx [.v (nT way), .v t, .v u, .v (.bool nm), .v (.str "depth"), .v x, .un]) : W (hrun "InvalidDepth" x (eT way t u nm .none) HsT) Q := by
  unfold HsT hrun
  rw [if_neg (by rw [sub_db]; decide)]
  unfold hrun
  rw [if_pos sub_d]
  exact ⟨_, _, rfl, q⟩
def tdT (z : Str) (x : T) : T := .tuple [.str z, x]
theorem told_b {way : Nat} {t u : T} {nm : Bool} (hf : fewK t = true) (h : isBk t = false) : m__law_told [.v (nT way), .v t, .v u, .v (.bool nm)] = .ok (.r (tdT "book" t)) [.v (nT way), .v t, .v u, .v (.bool nm)] := by
  have b := body_x (way := way) (nm := nm) (drawn_x1 (u := u) hf h) (numbers_x1 (u := u) hf h)
  refine w_eq ?_
  unfold m__law_told
  (apply Wp.w_fun; (focus (rfl; done)); (focus (((try simp only [List.cons_append, List.nil_append, List.length_cons, List.length_nil, Nat.reduceAdd, Nat.reduceSub, Nat.zero_add, Nat.sub_zero, List.replicate_succ, List.replicate_zero, List.append_nil]); rfl); done)))
  unfold b__law_told
  repeat' decreasing_trivial_pre_omega
  refine w_try_x (by decide +kernel) (wx_imp b ?_)
  rintro _ rfl
  refine hr_b ?_
  clear b
  repeat' decreasing_trivial_pre_omega
  exact ⟨rfl, rfl⟩
theorem told_d {way B : Nat} {ks : List (List Pt)} (g : Good B ks) {u : T} {nm : Bool} (h : isC u = false) : m__law_told [.v (nT way), .v (bkT B ks), .v u, .v (.bool nm)] = .ok (.r (tdT "depth" u)) [.v (nT way), .v (bkT B ks), .v u, .v (.bool nm)] := by
  have b := body_x (way := way) (nm := nm) (drawn_x2 g h) (numbers_x2 g h)
  refine w_eq ?_
  unfold m__law_told
  (apply Wp.w_fun; (focus (rfl; done)); (focus (((try simp only [List.cons_append, List.nil_append, List.length_cons, List.length_nil, Nat.reduceAdd, Nat.reduceSub, Nat.zero_add, Nat.sub_zero, List.replicate_succ, List.replicate_zero, List.append_nil]); rfl); done)))
  unfold b__law_told
  repeat' decreasing_trivial_pre_omega
  refine w_try_x (by decide +kernel) (wx_imp b ?_)
  rintro _ rfl
  refine hr_d ?_
  clear b
  repeat' decreasing_trivial_pre_omega
  exact ⟨rfl, rfl⟩
/-- how many rows -/
def rowsN (way B d : Nat) : Nat := if way = 0 then 2 * B ^ d - 1 else B ^ d
theorem told_ok {way B : Nat} {ks : List (List Pt)} (g : Good B ks) {d : Nat} (hd : d ≤ 2) {nm : Bool} : m__law_told [.v (nT way), .v (bkT B ks), .v (nT d), .v (.bool nm)] = .ok (.r (tdT "" (nT (rowsN way B d)))) [.v (nT way), .v (bkT B ks), .v (nT d), .v (.bool nm)] := by
  obtain ⟨r1, _, e1, ts1, l1, rfl, rfl⟩ := drawn_w g d hd
  obtain ⟨r2, _, e2, ts2, l2, rfl, rfl⟩ := numbers_w g d hd
  have g1 : gLen [.list ts1] = some (.r (nT (2 * B ^ d - 1))) := by rw [← l1]; rfl
  have g2 : gLen [.list ts2] = some (.r (nT (B ^ d))) := by rw [← l2]; rfl
  clear l1 l2
  unfold rowsN at *
  refine w_eq ?_
  unfold m__law_told
  (apply Wp.w_fun; (focus (rfl; done)); (focus (((try simp only [List.cons_append, List.nil_append, List.length_cons, List.length_nil, Nat.reduceAdd, Nat.reduceSub, Nat.zero_add, Nat.sub_zero, List.replicate_succ, List.replicate_zero, List.append_nil]); rfl); done)))
  unfold b__law_told
  repeat' decreasing_trivial_pre_omega
  refine w_try_ok ?_
  by_cases hw : way = 0
  · subst hw
    clear e2 g2
    rw [if_pos rfl]
    cases nm
    all_goals
      repeat' decreasing_trivial_pre_omega
      refine w_of e1 ?_
      clear e1
      repeat' decreasing_trivial_pre_omega
      exact ⟨rfl, rfl⟩
  · have hd : decide ((way : Int) = 0) = false := decide_eq_false (by omega)
    clear e1 g1
    rw [if_neg hw]
    cases nm
    all_goals
      repeat' decreasing_trivial_pre_omega
      refine w_of e2 ?_
      clear e2
      repeat' decreasing_trivial_pre_omega
      exact ⟨rfl, rfl⟩

set_option linter.all false
set_option maxRecDepth 100000
set_option maxHeartbeats 4000000
open PySem PySem.Spec Ev Pu Mt Wp
/-! ### trees near books -/
inductive Nx : Nat → T → Prop
  | non (n : Nat) : Nx n .none
  | bl (n : Nat) (b : Bool) : Nx n (.bool b)
  | int (n : Nat) (i : Int) : Nx n (.int i)
  | str (n : Nat) {x : Str} (h : PyData.strOk x = true) : Nx n (.str x)
  | tup {n : Nat} {xs : List T} (h : ∀ x ∈ xs, Nx n x) (hl : xs.length ≤ 100) : Nx (n + 1) (.tuple xs)
  | lst {n : Nat} {xs : List T} (h : ∀ x ∈ xs, Nx n x) (hl : xs.length ≤ 100) : Nx (n + 1) (.list xs)
theorem Nx.up {n : Nat} {t : T} (h : Nx n t) : Nx (n + 1) t := by
  induction h with
  | non n => exact .non _
  | bl n b => exact .bl _ b
  | int n i => exact .int _ i
  | str n h => exact .str _ h
  | tup h hl ih => exact .tup ih hl
  | lst h hl ih => exact .lst ih hl
theorem few_nx {n : Nat} {t : T} (h : Nx n t) : fewK t = true := by
  cases t with
  | tuple ts =>
    match ts, h with
    | [x, .tuple ks], h =>
      cases h with
      | tup h hl =>
        have := h (.tuple ks) (by simp)
        cases this with
        | tup h2 hl2 => exact decide_eq_true (by unfold sizeLine; omega)
    | [], _ => rfl
    | [_], _ => rfl
    | _ :: y :: _ :: _, _ => cases y <;> rfl
    | [_, .none], _ => rfl
    | [_, .bool _], _ => rfl
    | [_, .int _], _ => rfl
    | [_, .str _], _ => rfl
    | [_, .list _], _ => rfl
    | [_, .dict _], _ => rfl
  | _ => rfl
theorem gEq_str (k : Bool → Bool) {x y : Str} (hx : PyData.strOk x = true) (hy : PyData.strOk y = true) : gEq k (.str x) (.str y) = some (.r (.bool (k (x == y)))) := by
  have h1 : SeqAt.shaped (.str x) = true := by unfold SeqAt.shaped; simp [PyData.canLay0, PyData.depth, hx]
  have h2 : SeqAt.shaped (.str y) = true := by unfold SeqAt.shaped; simp [PyData.canLay0, PyData.depth, hy]
  show (if (SeqAt.shaped (.str x) && SeqAt.shaped (.str y)) = true then some (Od.r (.bool (k (PyData.eqv (.str x) (.str y))))) else none) = _
  rw [h1, h2]
  rfl
theorem all_tt {α : Type} (xs : List α) : gAll [.list (xs.map fun _ => PyData.bool true)] = some (.r (.bool true)) := by
  have := gAll_b (xs.map fun _ => true)
  rw [List.map_map] at this
  have e : (xs.map fun _ => true).all id = true := List.all_eq_true.mpr fun b hb => by obtain ⟨_, _, rfl⟩ := List.mem_map.mp hb; rfl
  rw [e] at this
  exact this
theorem pairs_self (ts : List T) : pairs ts ts = ts.map fun t => PyData.tuple [t, t] := by
  unfold pairs
  induction ts with
  | nil => rfl
  | cons t ts ih => rw [List.zip_cons_cons, List.map_cons, List.map_cons, ih]
theorem alike_x (f : FSem) (s0 s1 : Sl) (ts : List T) (hl : ts.length ≤ 100) (h : ∀ t ∈ ts, f [.v t, .v t] = .ok (.r (.bool true)) [.v t, .v t]) (Q : Od → En → Prop)
    (gd : En → Prop) (hgd : gd [s0, s1, .un, .un]) (q : Q (.b (.l (ts.map fun _ => PyData.bool true))) [s0, s1, .un, .un]) : KCompG (gT 2 (gsCons (gN 2) (gsCons (gN 3) gsNil))) tTrue (eCall 2 f (aCons (eVar 2) (aCons (eVar 3) aNil))) [2, 3] Q (pairs ts ts, gd) [s0, s1, .un, .un] := by
  rw [pairs_self]
  refine compG_map_w (fun t => PyData.tuple [t, t]) (fun _ => PyData.bool true) ts hgd (by unfold sizeLine; omega) (fun t ht => ⟨_, rfl, ?_⟩) q
  have := h t ht
  repeat' decreasing_trivial_pre_omega
  refine w_of this ?_
  repeat' decreasing_trivial_pre_omega
  exact ⟨rfl, rfl⟩
theorem alike_t : ∀ (n : Nat) (t : T), Nx n t → ∀ fuel, n < fuel → m__law_alike fuel [.v t, .v t] = .ok (.r (.bool true)) [.v t, .v t] := by
  intro n t h
  induction h with
  | non n =>
    intro fuel hf
    obtain ⟨f, rfl⟩ : ∃ f, fuel = f + 1 := ⟨fuel - 1, by omega⟩
    have g : gEq id (.none) (.none) = some (.r (.bool true)) := rfl
    refine w_eq ?_
    rw [m__law_alike]
    (apply Wp.w_fun; (focus (rfl; done)); (focus (((try simp only [List.cons_append, List.nil_append, List.length_cons, List.length_nil, Nat.reduceAdd, Nat.reduceSub, Nat.zero_add, Nat.sub_zero, List.replicate_succ, List.replicate_zero, List.append_nil]); rfl); done)))
    repeat' decreasing_trivial_pre_omega
    exact ⟨rfl, rfl⟩
  | bl n b =>
    intro fuel hf
    obtain ⟨f, rfl⟩ : ∃ f, fuel = f + 1 := ⟨fuel - 1, by omega⟩
    refine w_eq ?_
    rw [m__law_alike]
    (apply Wp.w_fun; (focus (rfl; done)); (focus (((try simp only [List.cons_append, List.nil_append, List.length_cons, List.length_nil, Nat.reduceAdd, Nat.reduceSub, Nat.zero_add, Nat.sub_zero, List.replicate_succ, List.replicate_zero, List.append_nil]); rfl); done)))
    repeat' decreasing_trivial_pre_omega
    exact ⟨by cases b <;> rfl, rfl⟩
  | int n i =>
    intro fuel hf
    obtain ⟨f, rfl⟩ : ∃ f, fuel = f + 1 := ⟨fuel - 1, by omega⟩
    refine w_eq ?_
    rw [m__law_alike]
    (apply Wp.w_fun; (focus (rfl; done)); (focus (((try simp only [List.cons_append, List.nil_append, List.length_cons, List.length_nil, Nat.reduceAdd, Nat.reduceSub, Nat.zero_add, Nat.sub_zero, List.replicate_succ, List.replicate_zero, List.append_nil]); rfl); done)))
    repeat' decreasing_trivial_pre_omega
    exact ⟨by simp, rfl⟩
  | @str n x hx =>
    intro fuel hf
    obtain ⟨f, rfl⟩ : ∃ f, fuel = f + 1 := ⟨fuel - 1, by omega⟩
    have g := gEq_str id hx hx
    refine w_eq ?_
    rw [m__law_alike]
    (apply Wp.w_fun; (focus (rfl; done)); (focus (((try simp only [List.cons_append, List.nil_append, List.length_cons, List.length_nil, Nat.reduceAdd, Nat.reduceSub, Nat.zero_add, Nat.sub_zero, List.replicate_succ, List.replicate_zero, List.append_nil]); rfl); done)))
    repeat' decreasing_trivial_pre_omega
    exact ⟨by rw [beq_self_eq_true]; rfl, rfl⟩
  | @tup n xs h hl ih =>
    intro fuel hf
    obtain ⟨f, rfl⟩ : ∃ f, fuel = f + 1 := ⟨fuel - 1, by omega⟩
    refine w_eq ?_
    rw [m__law_alike]
    (apply Wp.w_fun; (focus (rfl; done)); (focus (((try simp only [List.cons_append, List.nil_append, List.length_cons, List.length_nil, Nat.reduceAdd, Nat.reduceSub, Nat.zero_add, Nat.sub_zero, List.replicate_succ, List.replicate_zero, List.append_nil]); rfl); done)))
    repeat' decreasing_trivial_pre_omega
    refine kande_t (by simp) ?_
    unfold x1__law_alike
    repeat' decreasing_trivial_pre_omega
    refine alike_x (m__law_alike f) _ _ xs hl (fun t ht => ih t ht f (by omega)) _ _ ⟨rfl, rfl⟩ ?_
    have g := all_tt xs
    repeat' decreasing_trivial_pre_omega
    exact ⟨rfl, rfl⟩
  | @lst n xs h hl ih =>
    intro fuel hf
    obtain ⟨f, rfl⟩ : ∃ f, fuel = f + 1 := ⟨fuel - 1, by omega⟩
    refine w_eq ?_
    rw [m__law_alike]
    (apply Wp.w_fun; (focus (rfl; done)); (focus (((try simp only [List.cons_append, List.nil_append, List.length_cons, List.length_nil, Nat.reduceAdd, Nat.reduceSub, Nat.zero_add, Nat.sub_zero, List.replicate_succ, List.replicate_zero, List.append_nil]); rfl); done)))
    repeat' decreasing_trivial_pre_omega
    refine kande_t (by simp) ?_
    unfold x1__law_alike
    repeat' decreasing_trivial_pre_omega
    refine alike_x (m__law_alike f) _ _ xs hl (fun t ht => ih t ht f (by omega)) _ _ ⟨rfl, rfl⟩ ?_
    have g := all_tt xs
    repeat' decreasing_trivial_pre_omega
    exact ⟨rfl, rfl⟩
theorem same_td (n : Nat) : m__law_same 8 [.v (tdT "" (nT n)), .v (tdT "" (nT n))] = .ok (.r (.bool true)) [.v (tdT "" (nT n)), .v (tdT "" (nT n))] := by
  have hs : PyData.strOk ("" : Str) = true := by decide +kernel
  have q1 : ∀ f, m__law_same (f + 1) [.v (.str ""), .v (.str "")] = .ok (.r (.bool true)) [.v (.str ""), .v (.str "")] := fun f => by
    have g := gEq_str id hs hs
    refine w_eq ?_
    rw [m__law_same]
    (apply Wp.w_fun; (focus (rfl; done)); (focus (((try simp only [List.cons_append, List.nil_append, List.length_cons, List.length_nil, Nat.reduceAdd, Nat.reduceSub, Nat.zero_add, Nat.sub_zero, List.replicate_succ, List.replicate_zero, List.append_nil]); rfl); done)))
    repeat' decreasing_trivial_pre_omega
    exact ⟨by rw [beq_self_eq_true]; rfl, rfl⟩
  have q2 : ∀ f, m__law_same (f + 1) [.v (nT n), .v (nT n)] = .ok (.r (.bool true)) [.v (nT n), .v (nT n)] := fun f => by
    refine w_eq ?_
    rw [m__law_same]
    unfold nT
    (apply Wp.w_fun; (focus (rfl; done)); (focus (((try simp only [List.cons_append, List.nil_append, List.length_cons, List.length_nil, Nat.reduceAdd, Nat.reduceSub, Nat.zero_add, Nat.sub_zero, List.replicate_succ, List.replicate_zero, List.append_nil]); rfl); done)))
    repeat' decreasing_trivial_pre_omega
    exact ⟨by simp, rfl⟩
  have q3 : ∀ t ∈ [PyData.str "", nT n], m__law_same 7 [.v t, .v t] = .ok (.r (.bool true)) [.v t, .v t] := fun t ht => by
    rcases List.mem_cons.mp ht with rfl | ht
    · exact q1 6
    · rw [List.mem_singleton.mp ht]; exact q2 6
  clear q1 q2 hs
  unfold tdT
  generalize hx : [PyData.str "", nT n] = xs at q3
  have hl : xs.length = 2 := by rw [← hx]; rfl
  clear hx
  have g := all_tt (List.range xs.length)
  refine w_eq ?_
  rw [m__law_same]
  (apply Wp.w_fun; (focus (rfl; done)); (focus (((try simp only [List.cons_append, List.nil_append, List.length_cons, List.length_nil, Nat.reduceAdd, Nat.reduceSub, Nat.zero_add, Nat.sub_zero, List.replicate_succ, List.replicate_zero, List.append_nil]); rfl); done)))
  repeat' decreasing_trivial_pre_omega
  refine kande_t (by simp) ?_
  unfold x1__law_same
  repeat' decreasing_trivial_pre_omega
  refine kr1_eq xs.length rfl rfl (by omega) ?_
  unfold below
  refine comp_map_w (fun (k : Nat) => PyData.int (k : Int)) (fun _ => PyData.bool true) (List.range xs.length) (by rw [List.length_range]; unfold sizeLine; omega) (fun k hk => ⟨_, rfl, ?_⟩) ?_
  · have hk := List.mem_range.mp hk
    have q1 := List.getElem?_eq_getElem hk
    have q2 := q3 _ (List.getElem_mem hk)
    generalize xs[k] = x at q1 q2
    clear g q3
    repeat' decreasing_trivial_pre_omega
    refine w_of q2 ?_
    repeat' decreasing_trivial_pre_omega
    exact ⟨rfl, rfl⟩
  · clear q3
    repeat' decreasing_trivial_pre_omega
    exact ⟨rfl, rfl⟩

set_option linter.all false
set_option maxRecDepth 100000
set_option maxHeartbeats 4000000
open PySem PySem.Spec Ev Pu Mt Wp
inductive NxL (n : Nat) : List T → Prop
  | nil : NxL n []
  | cons {x : T} {xs : List T} (h : Nx n x) (hs : NxL n xs) : NxL n (x :: xs)
theorem NxL.all {n : Nat} {xs : List T} (h : NxL n xs) : ∀ x ∈ xs, Nx n x := by
  induction h with
  | nil => intro x hx; cases hx
  | cons h hs ih =>
    intro x hx
    rcases List.mem_cons.mp hx with rfl | hx
    · exact h
    · exact ih x hx
theorem nx_tup {n : Nat} {xs : List T} (h : NxL n xs) (hl : xs.length ≤ 100) : Nx (n + 1) (.tuple xs) := .tup h.all hl
theorem nx_lst {n : Nat} {xs : List T} (h : NxL n xs) (hl : xs.length ≤ 100) : Nx (n + 1) (.list xs) := .lst h.all hl
def badL (b m x y k : Int) (z : Str) : List T :=
  (([.tuple [.int b, .int y, .int k], .tuple [.int x, .int b, .int k], .tuple [.int (-1), .int y, .int k], .tuple [.int x, .int (-1), .int k], .tuple [.int x, .int y, .int m], .tuple [.int x, .int y, .int (-1)], .tuple [.int x, .int y], .list [.int x, .int y, .int k]] ++
  [.tuple [.int x, .int y, .int k, .int 0], .tuple [.str z, .int y, .int k], .tuple [.int x, .none, .int k], .tuple [.int x, .int y, .bool true], .tuple [.bool true, .int y, .int k]]) ++
  [.tuple [.int x, .bool true, .int k], .tuple [.bool false, .int y, .int k], .tuple [.int x, .str "0", .int k], .tuple [.int x, .int y, .str "0"]]) ++
  [.tuple [.int x, .int y, .tuple [.int k]], .none, .tuple [], .str "0 0 0", .int 0]
theorem badL_ok (b m x y k : Int) {z : Str} (hz : PyData.strOk z = true) : ∀ t ∈ badL b m x y k z, Nx 2 t ∧ isP b m t = false := by
  have h0 : PyData.strOk ("0" : Str) = true := by decide +kernel
  have h1 : PyData.strOk ("0 0 0" : Str) = true := by decide +kernel
  intro t ht
  simp only [badL, List.cons_append, List.nil_append, List.mem_cons, List.not_mem_nil, or_false] at ht
  rcases ht with rfl | rfl | rfl | rfl | rfl | rfl | rfl | rfl | rfl | rfl | rfl | rfl | rfl | rfl | rfl | rfl | rfl | rfl | rfl | rfl | rfl | rfl
  all_goals
    refine ⟨?_, ?_⟩
    · repeat' (first | exact .non _ | exact .bl _ _ | exact .int _ _ | exact .str _ (by assumption) | refine nx_tup ?_ (by simp) | refine nx_lst ?_ (by simp) | exact .nil | refine .cons ?_ ?_)
    · first
        | rfl
        | simp [isP, isI]
theorem str_small {x : Int} (h : 0 ≤ x ∧ x < 3) : PyData.strOk (toString x : String) = true := by
  have : x = 0 ∨ x = 1 ∨ x = 2 := by omega
  rcases this with rfl | rfl | rfl <;> decide +kernel
theorem bad_part_w (D : Dk) {B many : Nat} (hB : B ≤ 3) (p : Pt) (hx : 0 ≤ p.1 ∧ p.1 < (B : Int)) (hc : D.c + 10 ≤ 10 ^ 9) (s1 : T) :
    W (m__law_bad_part [.ow true (.l (dkT D)), .v (nT B), .v (nT many), .v (ptT p)]) fun r e => ∃ (D' : Dk) (t : T), D'.c ≤ D.c + 1 ∧ (Nx 2 t ∧ isP (B : Int) (many : Int) t = false) ∧ r = .r t ∧ e = [.ow true (.l (dkT D')), .v (nT B), .v (nT many), .v (ptT p)] := by
  obtain ⟨x, y, k⟩ := p
  have ss := str_small (x := x) (by simp only at hx; omega)
  have sl : x.natAbs.log2 < 1920 := by
    have : x.natAbs.log2 < 10 := log2_small (by simp only at hx; omega) (by decide)
    omega
  have ok := badL_ok (B : Int) (many : Int) x y (k : Int) ss
  have ll : (badL (B : Int) (many : Int) x y (k : Int) (toString x : String)).length = 22 := rfl
  unfold m__law_bad_part ptT
  (apply Wp.w_fun; (focus (rfl; done)); (focus (((try simp only [List.cons_append, List.nil_append, List.length_cons, List.length_nil, Nat.reduceAdd, Nat.reduceSub, Nat.zero_add, Nat.sub_zero, List.replicate_succ, List.replicate_zero, List.append_nil]); rfl); done)))
  unfold b__law_bad_part
  repeat' decreasing_trivial_pre_omega
  refine w_imp (drw_w D 22 (by decide) (by decide) (by omega)) ?_
  rintro _ _ ⟨v, D1, hv, hc1, rfl, rfl⟩
  have h1 : (badL (B : Int) (many : Int) x y (k : Int) (toString x : String))[v]? = some _ := List.getElem?_eq_getElem (by rw [ll]; exact hv)
  have h2 := ok _ (List.mem_of_getElem? h1)
  generalize (badL (B : Int) (many : Int) x y (k : Int) (toString x : String))[v]'(by rw [ll]; exact hv) = t at h1 h2
  clear ok ll ss sl
  repeat' decreasing_trivial_pre_omega
  exact ⟨D1, t, hc1, h2, rfl, rfl⟩

set_option linter.all false
set_option maxRecDepth 100000
set_option maxHeartbeats 4000000
open PySem PySem.Spec Ev Pu Mt Wp
theorem dd_le {α : Type} [DecidableEq α] : ∀ xs : List α, (dd xs).length ≤ xs.length
  | [] => Nat.le_refl _
  | x :: xs => by
    have := dd_le xs
    rw [dd]
    split <;> simp only [List.length_cons] <;> omega
theorem nodup_dd {α : Type} [DecidableEq α] : ∀ {xs : List α}, (dd xs).length = xs.length → xs.Nodup
  | [], _ => .nil
  | x :: xs, h => by
    have l := dd_le xs
    rw [dd] at h
    split at h
    · simp only [List.length_cons] at h; omega
    · rename_i n
      refine List.nodup_cons.mpr ⟨n, nodup_dd (by simp only [List.length_cons] at h; omega)⟩
theorem isBk_t (b : Int) (ks : List T) : isBk (.tuple [.int b, .tuple ks]) = ((decide (2 = b) || decide (3 = b)) && (decide (0 < ks.length) && (ks.map (isKd b ks.length)).all id)) := rfl
theorem all_no {α : Type} {p : α → Bool} {xs : List α} {x : α} (hx : x ∈ xs) (h : p x = false) : (xs.map p).all id = false := by
  rw [List.all_map, Bool.eq_false_iff]
  intro z
  have := List.all_eq_true.mp z x hx
  simp only [Function.comp, id] at this
  rw [h] at this
  cases this
theorem bk_no_b {b : Int} (h2 : b ≠ 2) (h3 : b ≠ 3) (ks : List T) : isBk (.tuple [.int b, .tuple ks]) = false := by
  rw [isBk_t, decide_eq_false (fun h => h2 h.symm), decide_eq_false (fun h => h3 h.symm)]
  rfl
theorem bk_no_at {b : Int} {ks : List T} {u : T} (hu : u ∈ ks) (h : isKd b ks.length u = false) : isBk (.tuple [.int b, .tuple ks]) = false := by
  rw [isBk_t, all_no hu h, Bool.and_false, Bool.and_false]
theorem isKd_t (b n : Int) (ts : List T) : isKd b n (.tuple ts) = (decide ((ts.length : Int) = b * b) && ((ts.map (isP b n)).all id && decide (((dd (ts.map i3)).length : Int) = b * b))) := rfl
theorem kd_no_at {b n : Int} {ts : List T} {u : T} (hu : u ∈ ts) (h : isP b n u = false) : isKd b n (.tuple ts) = false := by
  rw [isKd_t, all_no hu h, Bool.false_and, Bool.and_false]
theorem kd_no_len {b n : Int} {ts : List T} (h : (ts.length : Int) ≠ b * b) : isKd b n (.tuple ts) = false := by
  rw [isKd_t, decide_eq_false h, Bool.false_and]
theorem kd_no_dup {b n : Int} {ts : List T} (h : ¬ (ts.map i3).Nodup) : isKd b n (.tuple ts) = false := by
  rw [isKd_t]
  by_cases hl : (ts.length : Int) = b * b
  · have : ¬ (((dd (ts.map i3)).length : Int) = b * b) := fun z => h (nodup_dd (by rw [List.length_map]; omega))
    rw [decide_eq_false this, Bool.and_false, Bool.and_false]
  · rw [decide_eq_false hl, Bool.false_and]
def Bad (t : T) : Prop := Nx 5 t ∧ isBk t = false
theorem nx_part (p : Pt) : Nx 1 (ptT p) := nx_tup (.cons (.int _ _) (.cons (.int _ _) (.cons (.int _ _) .nil))) (by simp)
theorem nx_kind {ps : List Pt} (h : ps.length ≤ 100) : Nx 2 (kT ps) := .tup (fun x hx => by obtain ⟨p, _, rfl⟩ := List.mem_map.mp hx; exact nx_part p) (by rw [List.length_map]; exact h)
theorem nx_kinds {ks : List (List Pt)} (h : ks.length ≤ 100) (hk : ∀ ps ∈ ks, ps.length ≤ 100) : ∀ x ∈ ks.map kT, Nx 2 x := fun x hx => by
  obtain ⟨ps, hp, rfl⟩ := List.mem_map.mp hx
  exact nx_kind (hk ps hp)
theorem Nx.mono {n m : Nat} {t : T} (h : Nx n t) (hm : n ≤ m) : Nx m t := by
  induction hm with
  | refl => exact h
  | step _ ih => exact ih.up
theorem good_lens {B : Nat} {ks : List (List Pt)} (g : Good B ks) : ∀ ps ∈ ks, ps.length ≤ 100 := fun ps hp => by
  rw [g.len ps hp]
  rcases g.hb with h | h <;> subst h <;> decide
/-- one thing put in place of another -/
def putL (ts : List T) (a : Nat) (u : T) : List T := ts.take a ++ [u] ++ ts.drop (a + 1)
theorem putL_len {ts : List T} {a : Nat} (h : a < ts.length) (u : T) : (putL ts a u).length = ts.length := by
  unfold putL; simp; omega
theorem putL_in {ts : List T} {a : Nat} {u : T} : u ∈ putL ts a u := by unfold putL; simp
theorem putL_nx {ts : List T} {a : Nat} {u : T} {n : Nat} (h : ∀ x ∈ ts, Nx n x) (hu : Nx n u) : ∀ x ∈ putL ts a u, Nx n x := fun x hx => by
  unfold putL at hx
  simp only [List.mem_append, List.mem_singleton] at hx
  rcases hx with (hx | rfl) | hx
  · exact h x (List.mem_of_mem_take hx)
  · exact hu
  · exact h x (List.mem_of_mem_drop hx)
theorem cutT_to {α : Type} {ts : List α} {k : Nat} (h : k ≤ ts.length) : cutT ts none (some (k : Int)) = ts.take k := by
  unfold cutT
  rw [HT.sIx_nat, HT.sIx_none, List.drop_zero, Nat.sub_zero, Nat.min_eq_left h]
theorem cutT_fr {α : Type} {ts : List α} {k : Nat} (h : k < ts.length) : cutT ts (some ((k : Int) + 1)) none = ts.drop (k + 1) := by
  unfold cutT
  rw [show (k : Int) + 1 = ((k + 1 : Nat) : Int) by omega, HT.sIx_nat, HT.sIx_none, Nat.min_eq_left (by omega)]
  exact List.take_of_length_le (by simp)
theorem put1 {ts : List T} {a : Nat} (h : a < ts.length) (hl : ts.length ≤ 1000) (u : T) : gAdd (.tuple (cutT ts none (some (a : Int)))) (.tuple [u]) = some (.r (.tuple (ts.take a ++ [u]))) := by
  rw [cutT_to (by omega)]
  exact gAdd_tt (by simp; unfold sizeLine; omega)
theorem put2 {ts : List T} {a : Nat} (h : a < ts.length) (hl : ts.length ≤ 1000) (u : T) : gAdd (.tuple (ts.take a ++ [u])) (.tuple (cutT ts (some ((a : Int) + 1)) none)) = some (.r (.tuple (putL ts a u))) := by
  rw [cutT_fr h]
  exact gAdd_tt (by simp; unfold sizeLine; omega)
/-- a kind put otherwise -/
theorem bad_kind {B : Nat} {ks : List (List Pt)} (g : Good B ks) {a : Nat} (ha : a < ks.length) {u : T} (hu : Nx 3 u) (h : isKd (B : Int) (ks.length : Int) u = false) : Bad (.tuple [nT B, .tuple (putL (ks.map kT) a u)]) := by
  have hl : (ks.map kT).length = ks.length := List.length_map _
  have hp := putL_len (ts := ks.map kT) (a := a) (by omega) u
  refine ⟨nx_tup (.cons (.int _ _) (.cons (.tup (putL_nx (fun x hx => ?_) hu) ?_) .nil)) (by simp), bk_no_at putL_in ?_⟩
  · exact (nx_kinds (by have := g.few; omega) (good_lens g) x hx).mono (by omega)
  · rw [hp, hl]; have := g.few; omega
  · rw [hp, hl]; exact h

set_option linter.all false
set_option maxRecDepth 100000
set_option maxHeartbeats 4000000
open PySem PySem.Spec Ev Pu Mt Wp
def BQ (D0 : Dk) (B : Nat) (ks : List (List Pt)) : Od → En → Prop := fun r e => ∃ (D' : Dk) (t : T), D'.c ≤ D0.c + 1400 ∧ Bad t ∧ r = .r t ∧ e = [.ow true (.l (dkT D')), .v (bkT B ks)]
def eB (D : Dk) (B : Nat) (ks : List (List Pt)) (a w : Nat) (ps : List Pt) (s : Nat) : En := [.ow true (.l (dkT D)), .v (bkT B ks), .v (nT B), .v (.tuple (ks.map kT)), .v (nT a), .v (nT w), .v (kT ps), .v (nT s), .un, .un, .un, .un, .un, .un]
theorem ok_s2 : PyData.strOk ("2" : Str) = true := by decide +kernel
theorem ok_sb : PyData.strOk ("book 2" : Str) = true := by decide +kernel
theorem ok_s0 : PyData.strOk ("" : Str) = true := by decide +kernel
def someL (b : T) (kt : List T) : List T := [.tuple [b, .tuple []], .tuple [b, .list kt], .list [b, .tuple kt], .tuple [b], .tuple [b, .tuple kt, .int 0], .tuple [.tuple kt, b], .none, .int 3, .str "book 2", .tuple [], .bool true]
theorem someL_ok (B : Nat) {kt : List T} (hk : ∀ x ∈ kt, Nx 2 x) (hl : kt.length ≤ 100) : ∀ t ∈ someL (nT B) kt, Bad t := by
  have k1 : Nx 3 (.tuple kt) := .tup hk hl
  have k2 : Nx 3 (.list kt) := .lst hk hl
  have k1 := k1.up
  have k2 := k2.up
  have h1 := ok_sb
  intro t ht
  simp only [someL, List.mem_cons, List.not_mem_nil, or_false] at ht
  rcases ht with rfl | rfl | rfl | rfl | rfl | rfl | rfl | rfl | rfl | rfl | rfl
  all_goals
    refine ⟨?_, ?_⟩
    · repeat' (first | assumption | exact .non _ | exact .bl _ _ | exact .int _ _ | exact .str _ (by assumption) | refine nx_tup ?_ (by simp) | refine nx_lst ?_ (by simp) | exact .nil | refine .cons ?_ ?_)
    · first
        | rfl
        | (unfold nT; rw [isBk_t]; simp)
theorem bb8 (D0 D : Dk) {B : Nat} {ks : List (List Pt)} (g : Good B ks) (a w : Nat) (ps : List Pt) (s : Nat) (hc : D.c ≤ D0.c + 3) (hc2 : D.c + 1400 ≤ 10 ^ 9) : W ((sSeq (sSet 12 (eLst (aCons (eTup (aCons (eVar 2) (aCons (eTup aNil) aNil))) (aCons (eTup (aCons (eVar 2) (aCons (eFn gList (aCons (eVar 3) aNil)) aNil))) (aCons (eLst (aCons (eVar 2) (aCons (eVar 3) aNil))) (aCons (eTup (aCons (eVar 2) aNil)) (aCons (eTup (aCons (eVar 2) (aCons (eVar 3) (aCons (eK (.int 0)) aNil)))) (aCons (eTup (aCons (eVar 3) (aCons (eVar 2) aNil))) (aCons (eK .none) (aCons (eK (.int 3)) (aCons (eK (.str "book 2")) (aCons (eTup aNil) (aCons (eK (.bool true)) aNil))))))))))))) (sRet (eOp2 gIx (eVar 12) (eCall 2 m__law_draw (aCons (eVar 0) (aCons (eK (.int 11)) aNil)))))) (eB D B ks a w ps s)) (KFun [.ow true (.l (dkT D0)), .v (bkT B ks)] (BQ D0 B ks)) := by
  have ok := someL_ok B (nx_kinds (by have := g.few; omega) (good_lens g)) (by rw [List.length_map]; have := g.few; omega)
  have ll : (someL (nT B) (ks.map kT)).length = 11 := rfl
  unfold eB
  repeat' decreasing_trivial_pre_omega
  refine w_imp (drw_w D 11 (by decide) (by decide) (by omega)) ?_
  rintro _ _ ⟨v, D1, hv, hc1, rfl, rfl⟩
  have h1 : (someL (nT B) (ks.map kT))[v]? = some _ := List.getElem?_eq_getElem (by rw [ll]; exact hv)
  have h2 := ok _ (List.mem_of_getElem? h1)
  generalize (someL (nT B) (ks.map kT))[v]'(by rw [ll]; exact hv) = t at h1 h2
  clear ok ll
  repeat' decreasing_trivial_pre_omega
  exact ⟨D1, t, by omega, h2, rfl, rfl⟩
theorem cutT_m1 {α : Type} (ts : List α) : cutT ts none (some (-1)) = ts.take (ts.length - 1) ∧ cutT ts (some (-1)) none = ts.drop (ts.length - 1) := by
  have e1 : HT.sIx ts.length ts.length (some (-1)) = ts.length - 1 := by simp [HT.sIx]; omega
  have e2 : HT.sIx ts.length 0 (some (-1)) = ts.length - 1 := by simp [HT.sIx]; omega
  unfold cutT
  rw [HT.sIx_none, e1, HT.sIx_none, e2]
  exact ⟨by rw [List.drop_zero, Nat.sub_zero], List.take_of_length_le (by simp)⟩

set_option linter.all false
set_option maxRecDepth 100000
set_option maxHeartbeats 4000000
open PySem PySem.Spec Ev Pu Mt Wp
def kindL (ts : List T) (z : T) : List T := [.tuple (ts.take (ts.length - 1)), .tuple (ts ++ ts.drop (ts.length - 1)), .list ts, .none, .tuple [], .int 0, .str "", z]
theorem kindL_ok {B : Nat} (hB : B = 2 ∨ B = 3) (n : Int) {ts : List T} (h : ∀ x ∈ ts, Nx 1 x) (hl : ts.length = B * B) (p : Pt) : ∀ t ∈ kindL ts (ptT p), Nx 3 t ∧ isKd (B : Int) n t = false := by
  have l4 : 4 ≤ ts.length ∧ ts.length ≤ 9 := by rcases hB with rfl | rfl <;> omega
  have bb : (B : Int) * (B : Int) = (ts.length : Int) := by rw [hl]; simp
  intro t ht
  simp only [kindL, List.mem_cons, List.not_mem_nil, or_false] at ht
  rcases ht with rfl | rfl | rfl | rfl | rfl | rfl | rfl | rfl
  · exact ⟨(Nx.tup (fun x hx => h x (List.mem_of_mem_take hx)) (by simp; omega)).up, kd_no_len (by rw [bb, List.length_take]; omega)⟩
  · refine ⟨(Nx.tup (fun x hx => ?_) (by simp; omega)).up, kd_no_len (by rw [bb, List.length_append, List.length_drop]; omega)⟩
    rcases List.mem_append.mp hx with hx | hx
    · exact h x hx
    · exact h x (List.mem_of_mem_drop hx)
  · exact ⟨(Nx.lst h (by omega)).up, rfl⟩
  · exact ⟨.non _, rfl⟩
  · exact ⟨.tup (by simp) (by simp), kd_no_len (by rw [bb]; simp; omega)⟩
  · exact ⟨.int _ _, rfl⟩
  · exact ⟨.str _ ok_s0, rfl⟩
  · exact ⟨(nx_part p).mono (by omega), kd_no_len (by rw [bb]; simp; omega)⟩
theorem bb7 (D0 D : Dk) {B : Nat} {ks : List (List Pt)} (g : Good B ks) (a w : Nat) (ha : a < ks.length) (ps : List Pt) (hp : ps ∈ ks) (s : Nat) (hc : D.c ≤ D0.c + 3) (hc2 : D.c + 1400 ≤ 10 ^ 9) : W ((sSeq (sIf (tb (eOp2 (gEq id) (eVar 5) (eK (.int 5)))) (sSeq (sSet 10 (eOp2 gIx (eLst (aCons (eSl (eVar 6) pNo (pSo (eNeg (eK (.int 1))))) (aCons (eOp2 gAdd (eVar 6) (eSl (eVar 6) (pSo (eNeg (eK (.int 1)))) pNo)) (aCons (eFn gList (aCons (eVar 6) aNil)) (aCons (eK .none) (aCons (eTup aNil) (aCons (eK (.int 0)) (aCons (eK (.str "")) (aCons (eOp2 gIx (eVar 6) (eK (.int 0))) aNil))))))))) (eCall 2 m__law_draw (aCons (eVar 0) (aCons (eK (.int 8)) aNil))))) (sRet (eTup (aCons (eVar 2) (aCons (eOp2 gAdd (eOp2 gAdd (eSl (eVar 3) pNo (pSo (eVar 4))) (eTup (aCons (eVar 10) aNil))) (eSl (eVar 3) (pSo (eOp2 gAdd (eVar 4) (eK (.int 1)))) pNo)) aNil))))) sNil) (sSeq (sSet 12 (eLst (aCons (eTup (aCons (eVar 2) (aCons (eTup aNil) aNil))) (aCons (eTup (aCons (eVar 2) (aCons (eFn gList (aCons (eVar 3) aNil)) aNil))) (aCons (eLst (aCons (eVar 2) (aCons (eVar 3) aNil))) (aCons (eTup (aCons (eVar 2) aNil)) (aCons (eTup (aCons (eVar 2) (aCons (eVar 3) (aCons (eK (.int 0)) aNil)))) (aCons (eTup (aCons (eVar 3) (aCons (eVar 2) aNil))) (aCons (eK .none) (aCons (eK (.int 3)) (aCons (eK (.str "book 2")) (aCons (eTup aNil) (aCons (eK (.bool true)) aNil))))))))))))) (sRet (eOp2 gIx (eVar 12) (eCall 2 m__law_draw (aCons (eVar 0) (aCons (eK (.int 11)) aNil))))))) (eB D B ks a w ps s)) (KFun [.ow true (.l (dkT D0)), .v (bkT B ks)] (BQ D0 B ks)) := by
  have b8 := bb8 D0 D g a w ps s hc hc2
  have hpl := g.len ps hp
  have l4 : 4 ≤ ps.length ∧ ps.length ≤ 9 := by rcases g.hb with h | h <;> subst h <;> omega
  have hml : (ps.map ptT).length = ps.length := List.length_map _
  obtain ⟨p0, e0⟩ : ∃ p0, ps[0]? = some p0 := ⟨_, List.getElem?_eq_getElem (by omega)⟩
  have ok := kindL_ok g.hb ks.length (ts := ps.map ptT) (fun x hx => by obtain ⟨p, _, rfl⟩ := List.mem_map.mp hx; exact nx_part p) (by rw [hml]; exact hpl) p0
  have ll : (kindL (ps.map ptT) (ptT p0)).length = 8 := rfl
  obtain ⟨c1, c2⟩ := cutT_m1 (ps.map ptT)
  have g0 : gIx (.tuple (ps.map ptT)) (.int 0) = some (.r (ptT p0)) := gIx_t (k := 0) (by rw [List.getElem?_map, e0]; rfl)
  have ga : (ps.map ptT).length + (cutT (ps.map ptT) (some (-1)) none).length ≤ sizeLine := by rw [c2, hml, List.length_drop, hml]; unfold sizeLine; omega
  have af : a < (ks.map kT).length := by rw [List.length_map]; exact ha
  have kf : (ks.map kT).length ≤ 1000 := by rw [List.length_map]; have := g.few; omega
  have ek : kT ps = .tuple (ps.map ptT) := rfl
  have lk : [.tuple (cutT (ps.map ptT) none (some (-1))), .tuple (ps.map ptT ++ cutT (ps.map ptT) (some (-1)) none), .list (ps.map ptT), .none, .tuple [], .int 0, .str "", ptT p0] = kindL (ps.map ptT) (ptT p0) := by rw [c1, c2]; rfl
  unfold eB at *
  by_cases hw : (w : Int) = 5
  · clear b8 c1 c2
    have hd : decide ((w : Int) = 5) = true := decide_eq_true hw
    rw [ek]
    repeat' decreasing_trivial_pre_omega
    rw [lk]
    clear lk g0 ga
    refine w_imp (drw_w D 8 (by decide) (by decide) (by omega)) ?_
    rintro _ _ ⟨v, D1, hv, hc1, rfl, rfl⟩
    have h1 : (kindL (ps.map ptT) (ptT p0))[v]? = some _ := List.getElem?_eq_getElem (by rw [ll]; exact hv)
    have h2 := ok _ (List.mem_of_getElem? h1)
    generalize (kindL (ps.map ptT) (ptT p0))[v]'(by rw [ll]; exact hv) = t at h1 h2
    have q1 := put1 af kf t
    have q2 := put2 af kf t
    have bd := bad_kind g ha h2.1 h2.2
    clear ok ll h2 af kf
    generalize ks.map kT = kt at *
    repeat' decreasing_trivial_pre_omega
    exact ⟨D1, _, by omega, bd, rfl, rfl⟩
  · clear ok ll c1 c2 g0 ga
    repeat' decreasing_trivial_pre_omega
    refine kif_f (decide_eq_false hw) (w_nil (kseq_nx ?_))
    exact b8

set_option linter.all false
set_option maxRecDepth 100000
set_option maxHeartbeats 4000000
open PySem PySem.Spec Ev Pu Mt Wp
theorem putL_set {ts : List T} {a : Nat} (h : a < ts.length) (u : T) : putL ts a u = ts.set a u := by
  unfold putL
  rw [List.set_eq_take_append_cons_drop, if_pos h, List.append_assoc]
  rfl
/-- a place twice -/
theorem kd_twice {b n : Int} {ps : List Pt} {s q : Nat} (hs : s < ps.length) (hq : q < ps.length) (ne : q ≠ s) {p2 : Pt} (e2 : ps[q]? = some p2) (z : T) (hz : i3 z = [p2.1, p2.2.1]) : isKd b n (.tuple (putL (ps.map ptT) s z)) = false := by
  refine kd_no_dup fun nd => ?_
  have hl : s < (ps.map ptT).length := by rw [List.length_map]; exact hs
  rw [putL_set hl] at nd
  have h1 : (((ps.map ptT).set s z).map i3)[s]? = some [p2.1, p2.2.1] := by rw [List.getElem?_map, List.getElem?_set_self hl]; exact congrArg some hz
  have h2 : (((ps.map ptT).set s z).map i3)[q]? = some [p2.1, p2.2.1] := by rw [List.getElem?_map, List.getElem?_set_ne (fun e => ne e.symm), List.getElem?_map, e2]; rfl
  exact ne ((List.getElem?_inj (List.getElem?_eq_some_iff.mp h2).1 nd).mp (h2.trans h1.symm))
theorem nx_parts {ps : List Pt} : ∀ x ∈ ps.map ptT, Nx 2 x := fun x hx => by obtain ⟨p, _, rfl⟩ := List.mem_map.mp hx; exact (nx_part p).up
theorem bb6 (D0 D : Dk) {B : Nat} {ks : List (List Pt)} (g : Good B ks) (a w : Nat) (ha : a < ks.length) (ps : List Pt) (hp : ps ∈ ks) (s : Nat) (hs : s < ps.length) (hc : D.c ≤ D0.c + 3) (hc2 : D.c + 1400 ≤ 10 ^ 9) : W ((sSeq (sIf (tb (eOp2 (gEq id) (eVar 5) (eK (.int 4)))) (sSeq (sSet 8 (eOp2 gIx (eVar 6) (eOp2 gMod (eFn gInt (aCons (eOp2 gAdd (eVar 7) (eK (.int 1))) aNil)) (eFn gLen (aCons (eVar 6) aNil))))) (sSeq (sSet 11 (eTup (aCons (eOp2 gIx (eVar 8) (eK (.int 0))) (aCons (eOp2 gIx (eVar 8) (eK (.int 1))) (aCons (eOp2 gIx (eOp2 gIx (eVar 6) (eVar 7)) (eK (.int 2))) aNil))))) (sRet (eTup (aCons (eVar 2) (aCons (eOp2 gAdd (eOp2 gAdd (eSl (eVar 3) pNo (pSo (eVar 4))) (eTup (aCons (eOp2 gAdd (eOp2 gAdd (eSl (eVar 6) pNo (pSo (eVar 7))) (eTup (aCons (eVar 11) aNil))) (eSl (eVar 6) (pSo (eOp2 gAdd (eVar 7) (eK (.int 1)))) pNo)) aNil))) (eSl (eVar 3) (pSo (eOp2 gAdd (eVar 4) (eK (.int 1)))) pNo)) aNil)))))) sNil) (sSeq (sIf (tb (eOp2 (gEq id) (eVar 5) (eK (.int 5)))) (sSeq (sSet 10 (eOp2 gIx (eLst (aCons (eSl (eVar 6) pNo (pSo (eNeg (eK (.int 1))))) (aCons (eOp2 gAdd (eVar 6) (eSl (eVar 6) (pSo (eNeg (eK (.int 1)))) pNo)) (aCons (eFn gList (aCons (eVar 6) aNil)) (aCons (eK .none) (aCons (eTup aNil) (aCons (eK (.int 0)) (aCons (eK (.str "")) (aCons (eOp2 gIx (eVar 6) (eK (.int 0))) aNil))))))))) (eCall 2 m__law_draw (aCons (eVar 0) (aCons (eK (.int 8)) aNil))))) (sRet (eTup (aCons (eVar 2) (aCons (eOp2 gAdd (eOp2 gAdd (eSl (eVar 3) pNo (pSo (eVar 4))) (eTup (aCons (eVar 10) aNil))) (eSl (eVar 3) (pSo (eOp2 gAdd (eVar 4) (eK (.int 1)))) pNo)) aNil))))) sNil) (sSeq (sSet 12 (eLst (aCons (eTup (aCons (eVar 2) (aCons (eTup aNil) aNil))) (aCons (eTup (aCons (eVar 2) (aCons (eFn gList (aCons (eVar 3) aNil)) aNil))) (aCons (eLst (aCons (eVar 2) (aCons (eVar 3) aNil))) (aCons (eTup (aCons (eVar 2) aNil)) (aCons (eTup (aCons (eVar 2) (aCons (eVar 3) (aCons (eK (.int 0)) aNil)))) (aCons (eTup (aCons (eVar 3) (aCons (eVar 2) aNil))) (aCons (eK .none) (aCons (eK (.int 3)) (aCons (eK (.str "book 2")) (aCons (eTup aNil) (aCons (eK (.bool true)) aNil))))))))))))) (sRet (eOp2 gIx (eVar 12) (eCall 2 m__law_draw (aCons (eVar 0) (aCons (eK (.int 11)) aNil)))))))) (eB D B ks a w ps s)) (KFun [.ow true (.l (dkT D0)), .v (bkT B ks)] (BQ D0 B ks)) := by
  have b7 := bb7 D0 D g a w ha ps hp s hc hc2
  have hpl := g.len ps hp
  have l4 : 4 ≤ ps.length ∧ ps.length ≤ 9 := by rcases g.hb with h | h <;> subst h <;> omega
  have hml : (ps.map ptT).length = ps.length := List.length_map _
  have hq : (s + 1) % ps.length < ps.length := Nat.mod_lt _ (by omega)
  have ne : (s + 1) % ps.length ≠ s := by
    by_cases z : s + 1 < ps.length
    · rw [Nat.mod_eq_of_lt z]; omega
    · have : s + 1 = ps.length := by omega
      rw [this, Nat.mod_self]; omega
  obtain ⟨p2, e2⟩ : ∃ p2, ps[(s + 1) % ps.length]? = some p2 := ⟨_, List.getElem?_eq_getElem hq⟩
  obtain ⟨p, e1⟩ : ∃ p, ps[s]? = some p := ⟨_, List.getElem?_eq_getElem hs⟩
  have af : a < (ks.map kT).length := by rw [List.length_map]; exact ha
  have kf : (ks.map kT).length ≤ 1000 := by rw [List.length_map]; have := g.few; omega
  have ek : kT ps = .tuple (ps.map ptT) := rfl
  unfold eB at *
  by_cases hw : (w : Int) = 4
  · clear b7
    have hd : decide ((w : Int) = 4) = true := decide_eq_true hw
    have kd := kd_twice (b := (B : Int)) (n := ks.length) hs hq ne e2 (.tuple [.int p2.1, .int p2.2.1, .int (p.2.2 : Int)]) rfl
    have kl := putL_len (ts := ps.map ptT) (a := s) (by rw [hml]; exact hs) (.tuple [.int p2.1, .int p2.2.1, .int (p.2.2 : Int)])
    have kn : Nx 3 (.tuple (putL (ps.map ptT) s (.tuple [.int p2.1, .int p2.2.1, .int (p.2.2 : Int)]))) := .tup (putL_nx nx_parts (nx_tup (.cons (.int _ _) (.cons (.int _ _) (.cons (.int _ _) .nil))) (by simp))) (by rw [kl, hml]; omega)
    have bd := bad_kind g ha kn kd
    have g1 : gIx (.tuple (ps.map ptT)) (.int (((s : Int) + 1) % ((ps.map ptT).length : Int))) = some (.r (ptT p2)) := by
      have := gIx_t (ts := ps.map ptT) (k := (s + 1) % ps.length) (x := ptT p2) (by rw [List.getElem?_map, e2]; rfl)
      rw [hml]
      rwa [Int.natCast_emod, Int.natCast_add] at this
    have g2 : gIx (.tuple (ps.map ptT)) (.int (s : Int)) = some (.r (ptT p)) := gIx_t (by rw [List.getElem?_map, e1]; rfl)
    have g3 : (0 : Int) < ((ps.map ptT).length : Int) := by omega
    have q1 := put1 (ts := ps.map ptT) (a := s) (by omega) (by omega) (.tuple [.int p2.1, .int p2.2.1, .int (p.2.2 : Int)])
    have q2 := put2 (ts := ps.map ptT) (a := s) (by omega) (by omega) (.tuple [.int p2.1, .int p2.2.1, .int (p.2.2 : Int)])
    have q3 := put1 af kf (.tuple (putL (ps.map ptT) s (.tuple [.int p2.1, .int p2.2.1, .int (p.2.2 : Int)])))
    have q4 := put2 af kf (.tuple (putL (ps.map ptT) s (.tuple [.int p2.1, .int p2.2.1, .int (p.2.2 : Int)])))
    have h0 : gIx (ptT p2) (.int 0) = some (.r (.int p2.1)) := rfl
    have h1 : gIx (ptT p2) (.int 1) = some (.r (.int p2.2.1)) := rfl
    have h2 : gIx (ptT p) (.int 2) = some (.r (.int (p.2.2 : Int))) := rfl
    rw [ek]
    clear kd kl kn af kf e1 e2 hq ne hml ek
    generalize putL (ps.map ptT) s (.tuple [.int p2.1, .int p2.2.1, .int (p.2.2 : Int)]) = nk at *
    generalize ks.map kT = kt at *
    repeat' decreasing_trivial_pre_omega
    exact ⟨D, _, by omega, bd, rfl, rfl⟩
  · clear e1 e2 hq ne hml l4 hpl
    repeat' decreasing_trivial_pre_omega
    refine kif_f (decide_eq_false hw) (w_nil (kseq_nx ?_))
    exact b7
theorem bb5 (D0 D : Dk) {B : Nat} {ks : List (List Pt)} (g : Good B ks) (a w : Nat) (ha : a < ks.length) (ps : List Pt) (hp : ps ∈ ks) (s : Nat) (hs : s < ps.length) (hc : D.c ≤ D0.c + 3) (hc2 : D.c + 1400 ≤ 10 ^ 9) : W ((sSeq (sIf (tb (eOp2 gLt (eVar 5) (eK (.int 4)))) (sSeq (sSet 10 (eCall 4 m__law_bad_part (aCons (eVar 0) (aCons (eVar 2) (aCons (eFn gLen (aCons (eVar 3) aNil)) (aCons (eOp2 gIx (eVar 6) (eVar 7)) aNil)))))) (sRet (eTup (aCons (eVar 2) (aCons (eOp2 gAdd (eOp2 gAdd (eSl (eVar 3) pNo (pSo (eVar 4))) (eTup (aCons (eOp2 gAdd (eOp2 gAdd (eSl (eVar 6) pNo (pSo (eVar 7))) (eTup (aCons (eVar 10) aNil))) (eSl (eVar 6) (pSo (eOp2 gAdd (eVar 7) (eK (.int 1)))) pNo)) aNil))) (eSl (eVar 3) (pSo (eOp2 gAdd (eVar 4) (eK (.int 1)))) pNo)) aNil))))) sNil) (sSeq (sIf (tb (eOp2 (gEq id) (eVar 5) (eK (.int 4)))) (sSeq (sSet 8 (eOp2 gIx (eVar 6) (eOp2 gMod (eFn gInt (aCons (eOp2 gAdd (eVar 7) (eK (.int 1))) aNil)) (eFn gLen (aCons (eVar 6) aNil))))) (sSeq (sSet 11 (eTup (aCons (eOp2 gIx (eVar 8) (eK (.int 0))) (aCons (eOp2 gIx (eVar 8) (eK (.int 1))) (aCons (eOp2 gIx (eOp2 gIx (eVar 6) (eVar 7)) (eK (.int 2))) aNil))))) (sRet (eTup (aCons (eVar 2) (aCons (eOp2 gAdd (eOp2 gAdd (eSl (eVar 3) pNo (pSo (eVar 4))) (eTup (aCons (eOp2 gAdd (eOp2 gAdd (eSl (eVar 6) pNo (pSo (eVar 7))) (eTup (aCons (eVar 11) aNil))) (eSl (eVar 6) (pSo (eOp2 gAdd (eVar 7) (eK (.int 1)))) pNo)) aNil))) (eSl (eVar 3) (pSo (eOp2 gAdd (eVar 4) (eK (.int 1)))) pNo)) aNil)))))) sNil) (sSeq (sIf (tb (eOp2 (gEq id) (eVar 5) (eK (.int 5)))) (sSeq (sSet 10 (eOp2 gIx (eLst (aCons (eSl (eVar 6) pNo (pSo (eNeg (eK (.int 1))))) (aCons (eOp2 gAdd (eVar 6) (eSl (eVar 6) (pSo (eNeg (eK (.int 1)))) pNo)) (aCons (eFn gList (aCons (eVar 6) aNil)) (aCons (eK .none) (aCons (eTup aNil) (aCons (eK (.int 0)) (aCons (eK (.str "")) (aCons (eOp2 gIx (eVar 6) (eK (.int 0))) aNil))))))))) (eCall 2 m__law_draw (aCons (eVar 0) (aCons (eK (.int 8)) aNil))))) (sRet (eTup (aCons (eVar 2) (aCons (eOp2 gAdd (eOp2 gAdd (eSl (eVar 3) pNo (pSo (eVar 4))) (eTup (aCons (eVar 10) aNil))) (eSl (eVar 3) (pSo (eOp2 gAdd (eVar 4) (eK (.int 1)))) pNo)) aNil))))) sNil) (sSeq (sSet 12 (eLst (aCons (eTup (aCons (eVar 2) (aCons (eTup aNil) aNil))) (aCons (eTup (aCons (eVar 2) (aCons (eFn gList (aCons (eVar 3) aNil)) aNil))) (aCons (eLst (aCons (eVar 2) (aCons (eVar 3) aNil))) (aCons (eTup (aCons (eVar 2) aNil)) (aCons (eTup (aCons (eVar 2) (aCons (eVar 3) (aCons (eK (.int 0)) aNil)))) (aCons (eTup (aCons (eVar 3) (aCons (eVar 2) aNil))) (aCons (eK .none) (aCons (eK (.int 3)) (aCons (eK (.str "book 2")) (aCons (eTup aNil) (aCons (eK (.bool true)) aNil))))))))))))) (sRet (eOp2 gIx (eVar 12) (eCall 2 m__law_draw (aCons (eVar 0) (aCons (eK (.int 11)) aNil))))))))) (eB D B ks a w ps s)) (KFun [.ow true (.l (dkT D0)), .v (bkT B ks)] (BQ D0 B ks)) := by
  have b6 := bb6 D0 D g a w ha ps hp s hs hc hc2
  have hpl := g.len ps hp
  have l4 : 4 ≤ ps.length ∧ ps.length ≤ 9 := by rcases g.hb with h | h <;> subst h <;> omega
  have hml : (ps.map ptT).length = ps.length := List.length_map _
  have hkl : (ks.map kT).length = ks.length := List.length_map _
  obtain ⟨p, e1⟩ : ∃ p, ps[s]? = some p := ⟨_, List.getElem?_eq_getElem hs⟩
  have rp := (g.rng ps hp p (List.mem_of_getElem? e1)).1
  have bp := fun u => bad_part_w D (B := B) (many := ks.length) (by rcases g.hb with h | h <;> omega) p rp (by omega) u
  have bp := bp .none
  have af : a < (ks.map kT).length := by omega
  have kf : (ks.map kT).length ≤ 1000 := by have := g.few; omega
  have ek : kT ps = .tuple (ps.map ptT) := rfl
  unfold eB at *
  by_cases hw : (w : Int) < 4
  · clear b6
    have hd : decide ((w : Int) < 4) = true := decide_eq_true hw
    have g2 : gIx (.tuple (ps.map ptT)) (.int (s : Int)) = some (.r (ptT p)) := gIx_t (by rw [List.getElem?_map, e1]; rfl)
    rw [ek]
    clear ek e1 rp
    repeat' decreasing_trivial_pre_omega
    rw [hkl]
    refine w_imp bp ?_
    rintro _ _ ⟨D1, t, hc1, ⟨nx, np⟩, rfl, rfl⟩
    have kl := putL_len (ts := ps.map ptT) (a := s) (by omega) t
    have kn : Nx 3 (.tuple (putL (ps.map ptT) s t)) := .tup (putL_nx nx_parts nx) (by omega)
    have bd := bad_kind g ha kn (kd_no_at putL_in np)
    have q1 := put1 (ts := ps.map ptT) (a := s) (by omega) (by omega) t
    have q2 := put2 (ts := ps.map ptT) (a := s) (by omega) (by omega) t
    have q3 := put1 af kf (.tuple (putL (ps.map ptT) s t))
    have q4 := put2 af kf (.tuple (putL (ps.map ptT) s t))
    clear bp nx np kl kn af kf hkl hml
    generalize putL (ps.map ptT) s t = nk at *
    generalize ks.map kT = kt at *
    repeat' decreasing_trivial_pre_omega
    exact ⟨D1, _, by omega, bd, rfl, rfl⟩
  · clear e1 hml hkl l4 hpl bp rp
    repeat' decreasing_trivial_pre_omega
    refine kif_f (decide_eq_false hw) (w_nil (kseq_nx ?_))
    exact b6

set_option linter.all false
set_option maxRecDepth 100000
set_option maxHeartbeats 4000000
open PySem PySem.Spec Ev Pu Mt Wp
def eK_ (D : Dk) (B : Nat) (ks : List (List Pt)) (a w : Nat) (ps : List Pt) (s b : Nat) : En := [.ow true (.l (dkT D)), .v (bkT B ks), .v (nT B), .v (.tuple (ks.map kT)), .v (nT a), .v (nT w), .v (kT ps), .v (nT s), .v (nT b), .un, .un, .un, .un, .un]
/-- kinds of another b -/
theorem kinds_w (D : Dk) {B : Nat} {ks : List (List Pt)} (g : Good B ks) (a w : Nat) (ps : List Pt) (s b : Nat) (hb : 1 ≤ b ∧ b ≤ 5) (hc : D.c + 1300 ≤ 10 ^ 9) :
    W (x1__law_bad_book (eK_ D B ks a w ps s b)) fun r e => ∃ (D' : Dk) (kk : List (List Pt)), D'.c ≤ D.c + 1300 ∧ (kk.length = ks.length ∧ ∀ rs ∈ kk, RowOk b ks.length rs) ∧ r = .b (.l (kk.map kT)) ∧ e = eK_ D' B ks a w ps s b := by
  have hkl : (ks.map kT).length = ks.length := List.length_map ..
  have hf := g.few
  have hp := g.pos
  unfold x1__law_bad_book eK_
  repeat' decreasing_trivial_pre_omega
  refine comp_all kT ks (fun don acc e => ∃ (D' : Dk) (kk : List (List Pt)), D'.c ≤ D.c + don.length * 60 ∧ (kk.length = don.length ∧ ∀ rs ∈ kk, RowOk b ks.length rs) ∧ acc = kk.map kT ∧ e = [.ow true (.l (dkT D')), .v (bkT B ks), .v (nT B), .v (.tuple (ks.map kT)), .v (nT a), .v (nT w), .v (kT ps), .v (nT s), .v (nT b), .un, .un, .un, .un, .un]) ⟨D, [], by simp, ⟨rfl, by simp⟩, rfl, rfl⟩ (by unfold sizeLine; omega) ?_ ?_
  · rintro don c rest hx acc e ⟨D', kk, h1, ⟨h2, h3⟩, rfl, rfl⟩
    have hdl : don.length < ks.length := by
      have := congrArg List.length hx
      simp at this
      omega
    refine ⟨_, gN_ok (by first | rfl | exact Wp.isLent_of rfl (by assumption)) rfl, ?_⟩
    repeat' decreasing_trivial_pre_omega
    rw [hkl]
    refine w_imp (kind_w D' ks.length hp (by omega) b hb (by omega)) ?_
    rintro _ _ ⟨D2, rs, hc2, ro, rfl, rfl⟩
    repeat' decreasing_trivial_pre_omega
    refine ⟨D2, kk ++ [rs], by rw [List.length_append, List.length_singleton]; omega, ⟨by rw [List.length_append, List.length_append, h2]; rfl, fun r hr => ?_⟩, by rw [List.map_append]; rfl, rfl⟩
    rcases List.mem_append.mp hr with hr | hr
    · exact h3 r hr
    · rw [List.mem_singleton.mp hr]; exact ro
  · rintro acc e ⟨D', kk, h1, ⟨h2, h3⟩, rfl, rfl⟩
    repeat' decreasing_trivial_pre_omega
    exact ⟨D', kk, by omega, ⟨h2, h3⟩, rfl, rfl⟩
def oddL (b : Int) : List T := [.int 1, .int 4, .int 0, .int (-2), .int (5 - b), .bool true, .none, .str "2", .tuple [.int b], .list [.int b]]
theorem oddL_ok {B : Nat} {ks : List (List Pt)} (g : Good B ks) : ∀ t ∈ oddL (B : Int), Bad (.tuple [t, .tuple (ks.map kT)]) := by
  have kn : Nx 4 (.tuple (ks.map kT)) := (Nx.tup (nx_kinds (by have := g.few; omega) (good_lens g)) (by rw [List.length_map]; have := g.few; omega)).up
  have mk : ∀ t, Nx 4 t → isBk (.tuple [t, .tuple (ks.map kT)]) = false → Bad (.tuple [t, .tuple (ks.map kT)]) := fun t h1 h2 => ⟨nx_tup (.cons h1 (.cons kn .nil)) (by simp), h2⟩
  obtain ⟨ps, hp⟩ : ∃ ps, ks[0]? = some ps := ⟨_, List.getElem?_eq_getElem g.pos⟩
  have hp := List.mem_of_getElem? hp
  have hl := g.len ps hp
  intro t ht
  simp only [oddL, List.mem_cons, List.not_mem_nil, or_false] at ht
  rcases ht with rfl | rfl | rfl | rfl | rfl | rfl | rfl | rfl | rfl | rfl
  · exact mk _ (.int _ _) (bk_no_b (by decide) (by decide) _)
  · exact mk _ (.int _ _) (bk_no_b (by decide) (by decide) _)
  · exact mk _ (.int _ _) (bk_no_b (by decide) (by decide) _)
  · exact mk _ (.int _ _) (bk_no_b (by decide) (by decide) _)
  · refine mk _ (.int _ _) (bk_no_at (List.mem_map_of_mem hp) (kd_no_len ?_))
    rw [List.length_map, hl]
    rcases g.hb with h | h <;> subst h <;> decide
  · exact mk _ (.bl _ _) rfl
  · exact mk _ (.non _) rfl
  · exact mk _ (.str _ ok_s2) rfl
  · exact mk _ (nx_tup (.cons (.int _ _) .nil) (by simp)) rfl
  · exact mk _ (nx_lst (.cons (.int _ _) .nil) (by simp)) rfl
theorem other_ix {v : Nat} (hv : v < 3) : ∃ b : Nat, (1 ≤ b ∧ b ≤ 5 ∧ (b : Int) ≠ 2 ∧ (b : Int) ≠ 3) ∧ gIx (.list [.int 1, .int 4, .int 5]) (.int (v : Int)) = some (.r (nT b)) := by
  match v, hv with
  | 0, _ => exact ⟨1, by decide, rfl⟩
  | 1, _ => exact ⟨4, by decide, rfl⟩
  | 2, _ => exact ⟨5, by decide, rfl⟩
theorem bb4 (D0 D : Dk) {B : Nat} {ks : List (List Pt)} (g : Good B ks) (a w : Nat) (ha : a < ks.length) (ps : List Pt) (hp : ps ∈ ks) (s : Nat) (hs : s < ps.length) (hc : D.c ≤ D0.c + 3) (hc2 : D.c + 1400 ≤ 10 ^ 9) : W ((sSeq (sIf (tb (eOp2 (gEq id) (eVar 5) (eK (.int 0)))) (sSeq (sSet 8 (eOp2 gIx (eLst (aCons (eK (.int 1)) (aCons (eK (.int 4)) (aCons (eK (.int 5)) aNil)))) (eCall 2 m__law_draw (aCons (eVar 0) (aCons (eK (.int 3)) aNil))))) (sSeq (sIf (tb (eOp2 (gEq id) (eCall 2 m__law_draw (aCons (eVar 0) (aCons (eK (.int 3)) aNil))) (eK (.int 0)))) (sRet (eTup (aCons (eVar 8) (aCons (eFn gTuple (aCons x1__law_bad_book aNil)) aNil)))) sNil) (sSeq (sSet 9 (eLst (aCons (eK (.int 1)) (aCons (eK (.int 4)) (aCons (eK (.int 0)) (aCons (eNeg (eK (.int 2))) (aCons (eOp2 gSub (eK (.int 5)) (eVar 2)) (aCons (eK (.bool true)) (aCons (eK .none) (aCons (eK (.str "2")) (aCons (eTup (aCons (eVar 2) aNil)) (aCons (eLst (aCons (eVar 2) aNil)) aNil)))))))))))) (sRet (eTup (aCons (eOp2 gIx (eVar 9) (eCall 2 m__law_draw (aCons (eVar 0) (aCons (eK (.int 10)) aNil)))) (aCons (eVar 3) aNil))))))) sNil) (sSeq (sIf (tb (eOp2 gLt (eVar 5) (eK (.int 4)))) (sSeq (sSet 10 (eCall 4 m__law_bad_part (aCons (eVar 0) (aCons (eVar 2) (aCons (eFn gLen (aCons (eVar 3) aNil)) (aCons (eOp2 gIx (eVar 6) (eVar 7)) aNil)))))) (sRet (eTup (aCons (eVar 2) (aCons (eOp2 gAdd (eOp2 gAdd (eSl (eVar 3) pNo (pSo (eVar 4))) (eTup (aCons (eOp2 gAdd (eOp2 gAdd (eSl (eVar 6) pNo (pSo (eVar 7))) (eTup (aCons (eVar 10) aNil))) (eSl (eVar 6) (pSo (eOp2 gAdd (eVar 7) (eK (.int 1)))) pNo)) aNil))) (eSl (eVar 3) (pSo (eOp2 gAdd (eVar 4) (eK (.int 1)))) pNo)) aNil))))) sNil) (sSeq (sIf (tb (eOp2 (gEq id) (eVar 5) (eK (.int 4)))) (sSeq (sSet 8 (eOp2 gIx (eVar 6) (eOp2 gMod (eFn gInt (aCons (eOp2 gAdd (eVar 7) (eK (.int 1))) aNil)) (eFn gLen (aCons (eVar 6) aNil))))) (sSeq (sSet 11 (eTup (aCons (eOp2 gIx (eVar 8) (eK (.int 0))) (aCons (eOp2 gIx (eVar 8) (eK (.int 1))) (aCons (eOp2 gIx (eOp2 gIx (eVar 6) (eVar 7)) (eK (.int 2))) aNil))))) (sRet (eTup (aCons (eVar 2) (aCons (eOp2 gAdd (eOp2 gAdd (eSl (eVar 3) pNo (pSo (eVar 4))) (eTup (aCons (eOp2 gAdd (eOp2 gAdd (eSl (eVar 6) pNo (pSo (eVar 7))) (eTup (aCons (eVar 11) aNil))) (eSl (eVar 6) (pSo (eOp2 gAdd (eVar 7) (eK (.int 1)))) pNo)) aNil))) (eSl (eVar 3) (pSo (eOp2 gAdd (eVar 4) (eK (.int 1)))) pNo)) aNil)))))) sNil) (sSeq (sIf (tb (eOp2 (gEq id) (eVar 5) (eK (.int 5)))) (sSeq (sSet 10 (eOp2 gIx (eLst (aCons (eSl (eVar 6) pNo (pSo (eNeg (eK (.int 1))))) (aCons (eOp2 gAdd (eVar 6) (eSl (eVar 6) (pSo (eNeg (eK (.int 1)))) pNo)) (aCons (eFn gList (aCons (eVar 6) aNil)) (aCons (eK .none) (aCons (eTup aNil) (aCons (eK (.int 0)) (aCons (eK (.str "")) (aCons (eOp2 gIx (eVar 6) (eK (.int 0))) aNil))))))))) (eCall 2 m__law_draw (aCons (eVar 0) (aCons (eK (.int 8)) aNil))))) (sRet (eTup (aCons (eVar 2) (aCons (eOp2 gAdd (eOp2 gAdd (eSl (eVar 3) pNo (pSo (eVar 4))) (eTup (aCons (eVar 10) aNil))) (eSl (eVar 3) (pSo (eOp2 gAdd (eVar 4) (eK (.int 1)))) pNo)) aNil))))) sNil) (sSeq (sSet 12 (eLst (aCons (eTup (aCons (eVar 2) (aCons (eTup aNil) aNil))) (aCons (eTup (aCons (eVar 2) (aCons (eFn gList (aCons (eVar 3) aNil)) aNil))) (aCons (eLst (aCons (eVar 2) (aCons (eVar 3) aNil))) (aCons (eTup (aCons (eVar 2) aNil)) (aCons (eTup (aCons (eVar 2) (aCons (eVar 3) (aCons (eK (.int 0)) aNil)))) (aCons (eTup (aCons (eVar 3) (aCons (eVar 2) aNil))) (aCons (eK .none) (aCons (eK (.int 3)) (aCons (eK (.str "book 2")) (aCons (eTup aNil) (aCons (eK (.bool true)) aNil))))))))))))) (sRet (eOp2 gIx (eVar 12) (eCall 2 m__law_draw (aCons (eVar 0) (aCons (eK (.int 11)) aNil)))))))))) (eB D B ks a w ps s)) (KFun [.ow true (.l (dkT D0)), .v (bkT B ks)] (BQ D0 B ks)) := by
  have b5 := bb5 D0 D g a w ha ps hp s hs hc hc2
  by_cases hw : (w : Int) = 0
  · clear b5
    have hd : decide ((w : Int) = 0) = true := decide_eq_true hw
    have ok := oddL_ok g
    have ll : (oddL (B : Int)).length = 10 := rfl
    unfold eB
    repeat' decreasing_trivial_pre_omega
    refine w_imp (drw_w D 3 (by decide) (by decide) (by omega)) ?_
    rintro _ _ ⟨v, D1, hv, hc1, rfl, rfl⟩
    obtain ⟨b, ⟨b1, b5, b2, b3⟩, gb⟩ := other_ix hv
    repeat' decreasing_trivial_pre_omega
    refine w_imp (drw_w D1 3 (by decide) (by decide) (by omega)) ?_
    rintro _ _ ⟨v2, D2, hv2, hc3, rfl, rfl⟩
    repeat' decreasing_trivial_pre_omega
    refine kif_d (fun hz => ?_) fun hz => ?_
    · have kw := kinds_w D2 g a w ps s b ⟨b1, b5⟩ (by omega)
      clear ok ll gb
      unfold eK_ at kw
      repeat' decreasing_trivial_pre_omega
      refine w_imp kw ?_
      rintro _ _ ⟨D3, kk, hc4, ⟨kl, kr⟩, rfl, rfl⟩
      clear kw
      repeat' decreasing_trivial_pre_omega
      refine ⟨D3, _, by omega, ⟨nx_tup (.cons (.int _ _) (.cons ((Nx.tup (nx_kinds (by rw [kl]; have := g.few; omega) fun rs hr => ?_) (by rw [List.length_map, kl]; have := g.few; omega)).up) .nil)) (by simp), bk_no_b b2 b3 _⟩, rfl, rfl⟩
      rw [(kr rs hr).len]
      have : b * b ≤ 5 * 5 := Nat.mul_le_mul b5 b5
      omega
    · repeat' decreasing_trivial_pre_omega
      refine w_imp (drw_w D2 10 (by decide) (by decide) (by omega)) ?_
      rintro _ _ ⟨v3, D3, hv3, hc4, rfl, rfl⟩
      have h1 : (oddL (B : Int))[v3]? = some _ := List.getElem?_eq_getElem (by rw [ll]; exact hv3)
      have h2 := ok _ (List.mem_of_getElem? h1)
      generalize (oddL (B : Int))[v3]'(by rw [ll]; exact hv3) = t at h1 h2
      clear ok ll gb
      repeat' decreasing_trivial_pre_omega
      exact ⟨D3, _, by omega, h2, rfl, rfl⟩
  · unfold eB at *
    repeat' decreasing_trivial_pre_omega
    refine kif_f (decide_eq_false hw) (w_nil (kseq_nx ?_))
    exact b5
theorem bad_book_w (D : Dk) {B : Nat} {ks : List (List Pt)} (g : Good B ks) (hc : D.c + 1410 ≤ 10 ^ 9) : W (m__law_bad_book [.ow true (.l (dkT D)), .v (bkT B ks)]) (BQ D B ks) := by
  have hkl : (ks.map kT).length = ks.length := List.length_map ..
  have b4 := fun D' a w ha ps hp s hs hc hc2 => bb4 D D' g a w ha ps hp s hs hc hc2
  have hf := g.few
  have hp0 := g.pos
  have hlen := g.len
  have hbb : ∀ ps ∈ ks, 0 < ps.length ∧ ps.length ≤ 9 := fun ps hp => by
    rw [hlen ps hp]
    rcases g.hb with h | h <;> subst h <;> decide
  unfold m__law_bad_book
  (apply Wp.w_fun; (focus (rfl; done)); (focus (((try simp only [List.cons_append, List.nil_append, List.length_cons, List.length_nil, Nat.reduceAdd, Nat.reduceSub, Nat.zero_add, Nat.sub_zero, List.replicate_succ, List.replicate_zero, List.append_nil]); rfl); done)))
  unfold b__law_bad_book
  unfold eB at b4
  generalize (sSeq (sIf (tb (eOp2 (gEq id) (eVar 5) (eK (.int 0)))) (sSeq (sSet 8 (eOp2 gIx (eLst (aCons (eK (.int 1)) (aCons (eK (.int 4)) (aCons (eK (.int 5)) aNil)))) (eCall 2 m__law_draw (aCons (eVar 0) (aCons (eK (.int 3)) aNil))))) (sSeq (sIf (tb (eOp2 (gEq id) (eCall 2 m__law_draw (aCons (eVar 0) (aCons (eK (.int 3)) aNil))) (eK (.int 0)))) (sRet (eTup (aCons (eVar 8) (aCons (eFn gTuple (aCons x1__law_bad_book aNil)) aNil)))) sNil) (sSeq (sSet 9 (eLst (aCons (eK (.int 1)) (aCons (eK (.int 4)) (aCons (eK (.int 0)) (aCons (eNeg (eK (.int 2))) (aCons (eOp2 gSub (eK (.int 5)) (eVar 2)) (aCons (eK (.bool true)) (aCons (eK .none) (aCons (eK (.str "2")) (aCons (eTup (aCons (eVar 2) aNil)) (aCons (eLst (aCons (eVar 2) aNil)) aNil)))))))))))) (sRet (eTup (aCons (eOp2 gIx (eVar 9) (eCall 2 m__law_draw (aCons (eVar 0) (aCons (eK (.int 10)) aNil)))) (aCons (eVar 3) aNil))))))) sNil) (sSeq (sIf (tb (eOp2 gLt (eVar 5) (eK (.int 4)))) (sSeq (sSet 10 (eCall 4 m__law_bad_part (aCons (eVar 0) (aCons (eVar 2) (aCons (eFn gLen (aCons (eVar 3) aNil)) (aCons (eOp2 gIx (eVar 6) (eVar 7)) aNil)))))) (sRet (eTup (aCons (eVar 2) (aCons (eOp2 gAdd (eOp2 gAdd (eSl (eVar 3) pNo (pSo (eVar 4))) (eTup (aCons (eOp2 gAdd (eOp2 gAdd (eSl (eVar 6) pNo (pSo (eVar 7))) (eTup (aCons (eVar 10) aNil))) (eSl (eVar 6) (pSo (eOp2 gAdd (eVar 7) (eK (.int 1)))) pNo)) aNil))) (eSl (eVar 3) (pSo (eOp2 gAdd (eVar 4) (eK (.int 1)))) pNo)) aNil))))) sNil) (sSeq (sIf (tb (eOp2 (gEq id) (eVar 5) (eK (.int 4)))) (sSeq (sSet 8 (eOp2 gIx (eVar 6) (eOp2 gMod (eFn gInt (aCons (eOp2 gAdd (eVar 7) (eK (.int 1))) aNil)) (eFn gLen (aCons (eVar 6) aNil))))) (sSeq (sSet 11 (eTup (aCons (eOp2 gIx (eVar 8) (eK (.int 0))) (aCons (eOp2 gIx (eVar 8) (eK (.int 1))) (aCons (eOp2 gIx (eOp2 gIx (eVar 6) (eVar 7)) (eK (.int 2))) aNil))))) (sRet (eTup (aCons (eVar 2) (aCons (eOp2 gAdd (eOp2 gAdd (eSl (eVar 3) pNo (pSo (eVar 4))) (eTup (aCons (eOp2 gAdd (eOp2 gAdd (eSl (eVar 6) pNo (pSo (eVar 7))) (eTup (aCons (eVar 11) aNil))) (eSl (eVar 6) (pSo (eOp2 gAdd (eVar 7) (eK (.int 1)))) pNo)) aNil))) (eSl (eVar 3) (pSo (eOp2 gAdd (eVar 4) (eK (.int 1)))) pNo)) aNil)))))) sNil) (sSeq (sIf (tb (eOp2 (gEq id) (eVar 5) (eK (.int 5)))) (sSeq (sSet 10 (eOp2 gIx (eLst (aCons (eSl (eVar 6) pNo (pSo (eNeg (eK (.int 1))))) (aCons (eOp2 gAdd (eVar 6) (eSl (eVar 6) (pSo (eNeg (eK (.int 1)))) pNo)) (aCons (eFn gList (aCons (eVar 6) aNil)) (aCons (eK .none) (aCons (eTup aNil) (aCons (eK (.int 0)) (aCons (eK (.str "")) (aCons (eOp2 gIx (eVar 6) (eK (.int 0))) aNil))))))))) (eCall 2 m__law_draw (aCons (eVar 0) (aCons (eK (.int 8)) aNil))))) (sRet (eTup (aCons (eVar 2) (aCons (eOp2 gAdd (eOp2 gAdd (eSl (eVar 3) pNo (pSo (eVar 4))) (eTup (aCons (eVar 10) aNil))) (eSl (eVar 3) (pSo (eOp2 gAdd (eVar 4) (eK (.int 1)))) pNo)) aNil))))) sNil) (sSeq (sSet 12 (eLst (aCons (eTup (aCons (eVar 2) (aCons (eTup aNil) aNil))) (aCons (eTup (aCons (eVar 2) (aCons (eFn gList (aCons (eVar 3) aNil)) aNil))) (aCons (eLst (aCons (eVar 2) (aCons (eVar 3) aNil))) (aCons (eTup (aCons (eVar 2) aNil)) (aCons (eTup (aCons (eVar 2) (aCons (eVar 3) (aCons (eK (.int 0)) aNil)))) (aCons (eTup (aCons (eVar 3) (aCons (eVar 2) aNil))) (aCons (eK .none) (aCons (eK (.int 3)) (aCons (eK (.str "book 2")) (aCons (eTup aNil) (aCons (eK (.bool true)) aNil))))))))))))) (sRet (eOp2 gIx (eVar 12) (eCall 2 m__law_draw (aCons (eVar 0) (aCons (eK (.int 11)) aNil)))))))))) = T4 at b4 ⊢
  refine w_seq (w_asg (w_var_v rfl (kasg (t := .tuple [nT B, .tuple (ks.map kT)]) rfl (by (first | rfl | (repeat' (first | refine Wp.gN_ok (by first | rfl | exact Wp.isLent_of rfl (by assumption)) rfl | refine Wp.gsNil_ok rfl | with_reducible apply Wp.gsCons_ok | apply Wp.gT_ok rfl)))) ?_)))
  refine kseq_nx ?_
  repeat' decreasing_trivial_pre_omega
  rw [hkl]
  refine w_imp (drw_w D ks.length hp0 (by omega) (by omega)) ?_
  rintro _ _ ⟨a, D1, ha, hc1, rfl, rfl⟩
  repeat' decreasing_trivial_pre_omega
  refine w_imp (drw_w D1 8 (by decide) (by decide) (by omega)) ?_
  rintro _ _ ⟨w, D2, hw, hc2, rfl, rfl⟩
  have ga := get_ks (List.getElem?_eq_getElem ha)
  have hin := List.getElem_mem ha
  generalize ks[a] = ps at ga hin
  have hml : (ps.map ptT).length = ps.length := List.length_map ..
  obtain ⟨p0, p9⟩ := hbb ps hin
  repeat' decreasing_trivial_pre_omega
  rw [hml]
  refine w_imp (drw_w D2 ps.length p0 (by omega) (by omega)) ?_
  rintro _ _ ⟨s, D3, hs, hc3, rfl, rfl⟩
  have b4 := b4 D3 a w ha ps hin s hs (by omega) (by omega)
  repeat' decreasing_trivial_pre_omega
  exact b4

set_option linter.all false
set_option maxRecDepth 100000
set_option maxHeartbeats 4000000
open PySem PySem.Spec Ev Pu Mt Wp
structure Gq where
  way : Nat
  B : Nat
  ks : List (List Pt)
  d : Nat
  g : Good B ks
  hd : d ≤ 2
def gqT (r : Gq) : T := .tuple [nT r.way, bkT r.B r.ks, nT r.d, tdT "" (nT (rowsN r.way r.B r.d))]
def eL (ns : List Int) (rs : List Gq) (p : Nat) (D : Dk) (way : Nat) (nm : Bool) (w : Nat) (t u due : T) (s10 : Sl) : En := [.v (scT ns), .ow false (.l (rs.map gqT)), .v (nT p), .ow false (.l (dkT D)), .v (nT way), .v (.bool nm), .v (nT w), .v t, .v u, .v due, s10]
/-- a turn's end -/
def TQ (ns : List Int) (rs : List Gq) (p : Nat) : Fl → En → Prop := fun fl e => fl = .nx ∧ ∃ (rs' : List Gq) (s3 s4 s5 s6 s7 s8 s9 s10 : Sl), (lentS s3 = false ∧ lentS s4 = false ∧ lentS s5 = false ∧ lentS s6 = false ∧ lentS s7 = false ∧ lentS s8 = false ∧ lentS s9 = false ∧ lentS s10 = false) ∧ rs'.length ≤ rs.length + 1 ∧ e = [.v (scT ns), .ow false (.l (rs'.map gqT)), .v (nT p), s3, s4, s5, s6, s7, s8, s9, s10]
theorem fin_good (ns : List Int) (rs : List Gq) (hrs : rs.length < 100) (p : Nat) (D : Dk) (way : Nat) (nm : Bool) (w : Nat) {B : Nat} {ks : List (List Pt)} (g : Good B ks) (d : Nat) (hd : d ≤ 2) (s10 : Sl) (a10 : lentS s10 = false) :
    W ((sSeq (sSet 10 (eCall 4 m__law_told (aCons (eVar 4) (aCons (eVar 7) (aCons (eVar 8) (aCons (eVar 5) aNil)))))) (sSeq (sIf (tOr (tb (eOp2 (gEq not) (eOp2 gIx (eVar 10) (eK (.int 0))) (eOp2 gIx (eVar 9) (eK (.int 0))))) (tNot (tb (eCall 2 (m__law_alike 8) (aCons (eOp2 gIx (eVar 10) (eK (.int 1))) (aCons (eOp2 gIx (eVar 9) (eK (.int 1))) aNil)))))) (sRet (eK (.bool false))) sNil) (sIf (tb (eOp2 (gEq id) (eOp2 gIx (eVar 9) (eK (.int 0))) (eK (.str "")))) (sDrop (eMut 1 gAppend (aCons (eTup (aCons (eVar 4) (aCons (eVar 7) (aCons (eVar 8) (aCons (eVar 9) aNil))))) aNil))) sNil))) (eL ns rs p D way nm w (bkT B ks) (nT d) (tdT "" (nT (rowsN way B d))) s10)) (TQ ns rs p) := by
  have td := told_ok (way := way) g hd (nm := nm)
  have al := alike_t 1 (nT (rowsN way B d)) (.int _ _) 8 (by decide)
  have ge := gEq_str id ok_s0 ok_s0
  have gn := gEq_str not ok_s0 ok_s0
  rw [beq_self_eq_true] at ge gn
  have ha : (rs.map gqT).length < sizeLine := by rw [List.length_map]; unfold sizeLine; omega
  have hr : rs.map gqT ++ [.tuple [nT way, bkT B ks, nT d, tdT "" (nT (rowsN way B d))]] = (rs ++ [(⟨way, B, ks, d, g, hd⟩ : Gq)]).map gqT := by rw [List.map_append]; rfl
  unfold eL
  generalize hx : rs.map gqT = xs at ha hr ⊢
  generalize bkT B ks = bt at *
  generalize nT (rowsN way B d) = nt at *
  have g0 : gIx (tdT "" nt) (.int 0) = some (.r (.str "")) := rfl
  have g1 : gIx (tdT "" nt) (.int 1) = some (.r nt) := rfl
  clear hx
  repeat' decreasing_trivial_pre_omega
  refine w_of td ?_
  clear td
  repeat' decreasing_trivial_pre_omega
  refine w_of al ?_
  clear al
  repeat' decreasing_trivial_pre_omega
  exact ⟨rfl, rs ++ [⟨way, B, ks, d, g, hd⟩], _, _, _, _, _, _, _, _, ⟨rfl, rfl, rfl, rfl, rfl, rfl, rfl, rfl⟩, by rw [List.length_append]; exact Nat.le_refl _, by rw [← hr]; rfl⟩
theorem fin_bad (ns : List Int) (rs : List Gq) (p : Nat) (D : Dk) (way : Nat) (nm : Bool) (w : Nat) (t u x : T) {z : Str} (hz : PyData.strOk z = true) (ne : (z == ("" : Str)) = false) (td : m__law_told [.v (nT way), .v t, .v u, .v (.bool nm)] = .ok (.r (tdT z x)) [.v (nT way), .v t, .v u, .v (.bool nm)]) (hx : Nx 5 x) (s10 : Sl) (a10 : lentS s10 = false) :
    W ((sSeq (sSet 10 (eCall 4 m__law_told (aCons (eVar 4) (aCons (eVar 7) (aCons (eVar 8) (aCons (eVar 5) aNil)))))) (sSeq (sIf (tOr (tb (eOp2 (gEq not) (eOp2 gIx (eVar 10) (eK (.int 0))) (eOp2 gIx (eVar 9) (eK (.int 0))))) (tNot (tb (eCall 2 (m__law_alike 8) (aCons (eOp2 gIx (eVar 10) (eK (.int 1))) (aCons (eOp2 gIx (eVar 9) (eK (.int 1))) aNil)))))) (sRet (eK (.bool false))) sNil) (sIf (tb (eOp2 (gEq id) (eOp2 gIx (eVar 9) (eK (.int 0))) (eK (.str "")))) (sDrop (eMut 1 gAppend (aCons (eTup (aCons (eVar 4) (aCons (eVar 7) (aCons (eVar 8) (aCons (eVar 9) aNil))))) aNil))) sNil))) (eL ns rs p D way nm w t u (tdT z x) s10)) (TQ ns rs p) := by
  have al := alike_t 5 x hx 8 (by decide)
  have ge := gEq_str id hz ok_s0
  have gn := gEq_str not hz hz
  rw [ne] at ge
  rw [beq_self_eq_true] at gn
  unfold eL
  have g0 : gIx (tdT z x) (.int 0) = some (.r (.str z)) := rfl
  have g1 : gIx (tdT z x) (.int 1) = some (.r x) := rfl
  generalize hxs : rs.map gqT = xs at *
  repeat' decreasing_trivial_pre_omega
  refine w_of td ?_
  clear td
  repeat' decreasing_trivial_pre_omega
  refine w_of al ?_
  clear al
  repeat' decreasing_trivial_pre_omega
  exact ⟨rfl, rs, _, _, _, _, _, _, _, _, ⟨rfl, rfl, rfl, rfl, rfl, rfl, rfl, rfl⟩, Nat.le_succ _, by rw [← hxs]⟩

set_option linter.all false
set_option maxRecDepth 100000
set_option maxHeartbeats 4000000
open PySem PySem.Spec Ev Pu Mt Wp
theorem ok_book : PyData.strOk ("book" : Str) = true := by decide +kernel
theorem ok_depth : PyData.strOk ("depth" : Str) = true := by decide +kernel
theorem ne_book : (("book" : Str) == ("" : Str)) = false := by decide +kernel
theorem ne_depth : (("depth" : Str) == ("" : Str)) = false := by decide +kernel
theorem ok_s1 : PyData.strOk ("1" : Str) = true := by decide +kernel
def depL (z : Int) : List T := [.int (-1), .int (-5), .int z, .none, .bool true, .bool false, .str "1", .tuple [.int 1], .list [.int 1], .tuple [.int 1, .int 1]]
theorem depL_ok {z : Int} (hz : z < 0) : ∀ t ∈ depL z, Nx 5 t ∧ isC t = false := by
  have h1 := ok_s1
  intro t ht
  simp only [depL, List.mem_cons, List.not_mem_nil, or_false] at ht
  rcases ht with rfl | rfl | rfl | rfl | rfl | rfl | rfl | rfl | rfl | rfl
  all_goals
    refine ⟨?_, ?_⟩
    · repeat' (first | assumption | exact .non _ | exact .bl _ _ | exact .int _ _ | exact .str _ (by assumption) | refine nx_tup ?_ (by simp) | refine nx_lst ?_ (by simp) | exact .nil | refine .cons ?_ ?_)
    · first
        | rfl
        | exact decide_eq_false (by omega)
theorem dep_tail (ns : List Int) (rs : List Gq) (p : Nat) (D : Dk) (hc : D.c + 1500 ≤ 10 ^ 9) (way : Nat) (nm : Bool) (w : Nat) (hw : gIn id (.int (w : Int)) (.tuple [.int 1, .int 4]) = some (.r (.bool true))) (t u due : T) (s10 : Sl) (a10 : lentS s10 = false) (Q : Fl → En → Prop)
    (q : ∀ (D' : Dk) (u' : T), D'.c ≤ D.c + 1 → Nx 5 u' → isC u' = false → W ((sSeq (sIf (tb (eOp2 (gIn id) (eVar 6) (eTup (aCons (eK (.int 2)) (aCons (eK (.int 3)) (aCons (eK (.int 4)) aNil)))))) (sSeq (sSet 7 (eCall 2 m__law_bad_book (aCons (eVar 3) (aCons (eVar 7) aNil)))) (sSet 9 (eTup (aCons (eK (.str "book")) (aCons (eVar 7) aNil))))) sNil) (sSeq (sSet 10 (eCall 4 m__law_told (aCons (eVar 4) (aCons (eVar 7) (aCons (eVar 8) (aCons (eVar 5) aNil)))))) (sSeq (sIf (tOr (tb (eOp2 (gEq not) (eOp2 gIx (eVar 10) (eK (.int 0))) (eOp2 gIx (eVar 9) (eK (.int 0))))) (tNot (tb (eCall 2 (m__law_alike 8) (aCons (eOp2 gIx (eVar 10) (eK (.int 1))) (aCons (eOp2 gIx (eVar 9) (eK (.int 1))) aNil)))))) (sRet (eK (.bool false))) sNil) (sIf (tb (eOp2 (gEq id) (eOp2 gIx (eVar 9) (eK (.int 0))) (eK (.str "")))) (sDrop (eMut 1 gAppend (aCons (eTup (aCons (eVar 4) (aCons (eVar 7) (aCons (eVar 8) (aCons (eVar 9) aNil))))) aNil))) sNil)))) (eL ns rs p D' way nm w t u' (tdT "depth" u') s10)) Q) : W ((sSeq (sIf (tb (eOp2 (gIn id) (eVar 6) (eTup (aCons (eK (.int 1)) (aCons (eK (.int 4)) aNil))))) (sSeq (sSet 8 (eOp2 gIx (eLst (aCons (eNeg (eK (.int 1))) (aCons (eNeg (eK (.int 5))) (aCons (eOp2 gSub (eK (.int 0)) (eOp2 gPow (eK (.int 10)) (eK (.int 9)))) (aCons (eK .none) (aCons (eK (.bool true)) (aCons (eK (.bool false)) (aCons (eK (.str "1")) (aCons (eTup (aCons (eK (.int 1)) aNil)) (aCons (eLst (aCons (eK (.int 1)) aNil)) (aCons (eTup (aCons (eK (.int 1)) (aCons (eK (.int 1)) aNil))) aNil))))))))))) (eCall 2 m__law_draw (aCons (eVar 3) (aCons (eK (.int 10)) aNil))))) (sSet 9 (eTup (aCons (eK (.str "depth")) (aCons (eVar 8) aNil))))) sNil) (sSeq (sIf (tb (eOp2 (gIn id) (eVar 6) (eTup (aCons (eK (.int 2)) (aCons (eK (.int 3)) (aCons (eK (.int 4)) aNil)))))) (sSeq (sSet 7 (eCall 2 m__law_bad_book (aCons (eVar 3) (aCons (eVar 7) aNil)))) (sSet 9 (eTup (aCons (eK (.str "book")) (aCons (eVar 7) aNil))))) sNil) (sSeq (sSet 10 (eCall 4 m__law_told (aCons (eVar 4) (aCons (eVar 7) (aCons (eVar 8) (aCons (eVar 5) aNil)))))) (sSeq (sIf (tOr (tb (eOp2 (gEq not) (eOp2 gIx (eVar 10) (eK (.int 0))) (eOp2 gIx (eVar 9) (eK (.int 0))))) (tNot (tb (eCall 2 (m__law_alike 8) (aCons (eOp2 gIx (eVar 10) (eK (.int 1))) (aCons (eOp2 gIx (eVar 9) (eK (.int 1))) aNil)))))) (sRet (eK (.bool false))) sNil) (sIf (tb (eOp2 (gEq id) (eOp2 gIx (eVar 9) (eK (.int 0))) (eK (.str "")))) (sDrop (eMut 1 gAppend (aCons (eTup (aCons (eVar 4) (aCons (eVar 7) (aCons (eVar 8) (aCons (eVar 9) aNil))))) aNil))) sNil))))) (eL ns rs p D way nm w t u due s10)) Q := by
  have ok := depL_ok (z := 0 - (10 : Int) ^ Int.toNat 9) (by decide)
  have ll : (depL (0 - (10 : Int) ^ Int.toNat 9)).length = 10 := rfl
  generalize (sSeq (sIf (tb (eOp2 (gIn id) (eVar 6) (eTup (aCons (eK (.int 2)) (aCons (eK (.int 3)) (aCons (eK (.int 4)) aNil)))))) (sSeq (sSet 7 (eCall 2 m__law_bad_book (aCons (eVar 3) (aCons (eVar 7) aNil)))) (sSet 9 (eTup (aCons (eK (.str "book")) (aCons (eVar 7) aNil))))) sNil) (sSeq (sSet 10 (eCall 4 m__law_told (aCons (eVar 4) (aCons (eVar 7) (aCons (eVar 8) (aCons (eVar 5) aNil)))))) (sSeq (sIf (tOr (tb (eOp2 (gEq not) (eOp2 gIx (eVar 10) (eK (.int 0))) (eOp2 gIx (eVar 9) (eK (.int 0))))) (tNot (tb (eCall 2 (m__law_alike 8) (aCons (eOp2 gIx (eVar 10) (eK (.int 1))) (aCons (eOp2 gIx (eVar 9) (eK (.int 1))) aNil)))))) (sRet (eK (.bool false))) sNil) (sIf (tb (eOp2 (gEq id) (eOp2 gIx (eVar 9) (eK (.int 0))) (eK (.str "")))) (sDrop (eMut 1 gAppend (aCons (eTup (aCons (eVar 4) (aCons (eVar 7) (aCons (eVar 8) (aCons (eVar 9) aNil))))) aNil))) sNil)))) = T5 at q ⊢
  unfold eL at *
  generalize rs.map gqT = xs at *
  repeat' decreasing_trivial_pre_omega
  refine w_imp (drw_w D 10 (by decide) (by decide) (by omega)) ?_
  rintro _ _ ⟨v, D1, hv, hc1, rfl, rfl⟩
  have h1 : (depL (0 - (10 : Int) ^ Int.toNat 9))[v]? = some _ := List.getElem?_eq_getElem (by rw [ll]; exact hv)
  have h2 := ok _ (List.mem_of_getElem? h1)
  generalize (depL (0 - (10 : Int) ^ Int.toNat 9))[v]'(by rw [ll]; exact hv) = u' at h1 h2
  have q := q D1 u' hc1 h2.1 h2.2
  clear ok ll h2
  repeat' decreasing_trivial_pre_omega
  exact q
theorem bk_tail (ns : List Int) (rs : List Gq) (p : Nat) (D : Dk) (hc : D.c + 1500 ≤ 10 ^ 9) (way : Nat) (nm : Bool) (w : Nat) (hw : gIn id (.int (w : Int)) (.tuple [.int 2, .int 3, .int 4]) = some (.r (.bool true))) {B : Nat} {ks : List (List Pt)} (g : Good B ks) (u due : T) (s10 : Sl) (a10 : lentS s10 = false) :
    W ((sSeq (sIf (tb (eOp2 (gIn id) (eVar 6) (eTup (aCons (eK (.int 2)) (aCons (eK (.int 3)) (aCons (eK (.int 4)) aNil)))))) (sSeq (sSet 7 (eCall 2 m__law_bad_book (aCons (eVar 3) (aCons (eVar 7) aNil)))) (sSet 9 (eTup (aCons (eK (.str "book")) (aCons (eVar 7) aNil))))) sNil) (sSeq (sSet 10 (eCall 4 m__law_told (aCons (eVar 4) (aCons (eVar 7) (aCons (eVar 8) (aCons (eVar 5) aNil)))))) (sSeq (sIf (tOr (tb (eOp2 (gEq not) (eOp2 gIx (eVar 10) (eK (.int 0))) (eOp2 gIx (eVar 9) (eK (.int 0))))) (tNot (tb (eCall 2 (m__law_alike 8) (aCons (eOp2 gIx (eVar 10) (eK (.int 1))) (aCons (eOp2 gIx (eVar 9) (eK (.int 1))) aNil)))))) (sRet (eK (.bool false))) sNil) (sIf (tb (eOp2 (gEq id) (eOp2 gIx (eVar 9) (eK (.int 0))) (eK (.str "")))) (sDrop (eMut 1 gAppend (aCons (eTup (aCons (eVar 4) (aCons (eVar 7) (aCons (eVar 8) (aCons (eVar 9) aNil))))) aNil))) sNil)))) (eL ns rs p D way nm w (bkT B ks) u due s10)) (TQ ns rs p) := by
  have bw := bad_book_w D g (by omega)
  have fb := fun (D' : Dk) (t : T) (h : Bad t) => fin_bad ns rs p D' way nm w t u t ok_book ne_book (told_b (few_nx h.1) h.2) h.1 s10 a10
  generalize (sSeq (sSet 10 (eCall 4 m__law_told (aCons (eVar 4) (aCons (eVar 7) (aCons (eVar 8) (aCons (eVar 5) aNil)))))) (sSeq (sIf (tOr (tb (eOp2 (gEq not) (eOp2 gIx (eVar 10) (eK (.int 0))) (eOp2 gIx (eVar 9) (eK (.int 0))))) (tNot (tb (eCall 2 (m__law_alike 8) (aCons (eOp2 gIx (eVar 10) (eK (.int 1))) (aCons (eOp2 gIx (eVar 9) (eK (.int 1))) aNil)))))) (sRet (eK (.bool false))) sNil) (sIf (tb (eOp2 (gEq id) (eOp2 gIx (eVar 9) (eK (.int 0))) (eK (.str "")))) (sDrop (eMut 1 gAppend (aCons (eTup (aCons (eVar 4) (aCons (eVar 7) (aCons (eVar 8) (aCons (eVar 9) aNil))))) aNil))) sNil))) = T6 at fb ⊢
  unfold eL at *
  generalize hxs : rs.map gqT = xs at *
  repeat' decreasing_trivial_pre_omega
  refine w_imp bw ?_
  rintro _ _ ⟨D1, t, hc1, hb, rfl, rfl⟩
  have fb := fb D1 t hb
  clear bw
  repeat' decreasing_trivial_pre_omega
  exact fb
/-- what is wrong -/
theorem wrong_w (ns : List Int) (rs : List Gq) (hrs : rs.length < 100) (p : Nat) (D : Dk) (hc : D.c + 1510 ≤ 10 ^ 9) (way : Nat) (nm : Bool) (w : Nat) (hw : w < 5) {B : Nat} {ks : List (List Pt)} (g : Good B ks) (d : Nat) (hd : d ≤ 2) (s10 : Sl) (a10 : lentS s10 = false) :
    W ((sSeq (sIf (tb (eOp2 (gIn id) (eVar 6) (eTup (aCons (eK (.int 1)) (aCons (eK (.int 4)) aNil))))) (sSeq (sSet 8 (eOp2 gIx (eLst (aCons (eNeg (eK (.int 1))) (aCons (eNeg (eK (.int 5))) (aCons (eOp2 gSub (eK (.int 0)) (eOp2 gPow (eK (.int 10)) (eK (.int 9)))) (aCons (eK .none) (aCons (eK (.bool true)) (aCons (eK (.bool false)) (aCons (eK (.str "1")) (aCons (eTup (aCons (eK (.int 1)) aNil)) (aCons (eLst (aCons (eK (.int 1)) aNil)) (aCons (eTup (aCons (eK (.int 1)) (aCons (eK (.int 1)) aNil))) aNil))))))))))) (eCall 2 m__law_draw (aCons (eVar 3) (aCons (eK (.int 10)) aNil))))) (sSet 9 (eTup (aCons (eK (.str "depth")) (aCons (eVar 8) aNil))))) sNil) (sSeq (sIf (tb (eOp2 (gIn id) (eVar 6) (eTup (aCons (eK (.int 2)) (aCons (eK (.int 3)) (aCons (eK (.int 4)) aNil)))))) (sSeq (sSet 7 (eCall 2 m__law_bad_book (aCons (eVar 3) (aCons (eVar 7) aNil)))) (sSet 9 (eTup (aCons (eK (.str "book")) (aCons (eVar 7) aNil))))) sNil) (sSeq (sSet 10 (eCall 4 m__law_told (aCons (eVar 4) (aCons (eVar 7) (aCons (eVar 8) (aCons (eVar 5) aNil)))))) (sSeq (sIf (tOr (tb (eOp2 (gEq not) (eOp2 gIx (eVar 10) (eK (.int 0))) (eOp2 gIx (eVar 9) (eK (.int 0))))) (tNot (tb (eCall 2 (m__law_alike 8) (aCons (eOp2 gIx (eVar 10) (eK (.int 1))) (aCons (eOp2 gIx (eVar 9) (eK (.int 1))) aNil)))))) (sRet (eK (.bool false))) sNil) (sIf (tb (eOp2 (gEq id) (eOp2 gIx (eVar 9) (eK (.int 0))) (eK (.str "")))) (sDrop (eMut 1 gAppend (aCons (eTup (aCons (eVar 4) (aCons (eVar 7) (aCons (eVar 8) (aCons (eVar 9) aNil))))) aNil))) sNil))))) (eL ns rs p D way nm w (bkT B ks) (nT d) (tdT "" (nT (rowsN way B d))) s10)) (TQ ns rs p) := by
  have skip4 : ∀ (w : Nat) (hn : gIn id (.int (w : Int)) (.tuple [.int 1, .int 4]) = some (.r (.bool false))) (Q : Fl → En → Prop) (q : W ((sSeq (sIf (tb (eOp2 (gIn id) (eVar 6) (eTup (aCons (eK (.int 2)) (aCons (eK (.int 3)) (aCons (eK (.int 4)) aNil)))))) (sSeq (sSet 7 (eCall 2 m__law_bad_book (aCons (eVar 3) (aCons (eVar 7) aNil)))) (sSet 9 (eTup (aCons (eK (.str "book")) (aCons (eVar 7) aNil))))) sNil) (sSeq (sSet 10 (eCall 4 m__law_told (aCons (eVar 4) (aCons (eVar 7) (aCons (eVar 8) (aCons (eVar 5) aNil)))))) (sSeq (sIf (tOr (tb (eOp2 (gEq not) (eOp2 gIx (eVar 10) (eK (.int 0))) (eOp2 gIx (eVar 9) (eK (.int 0))))) (tNot (tb (eCall 2 (m__law_alike 8) (aCons (eOp2 gIx (eVar 10) (eK (.int 1))) (aCons (eOp2 gIx (eVar 9) (eK (.int 1))) aNil)))))) (sRet (eK (.bool false))) sNil) (sIf (tb (eOp2 (gEq id) (eOp2 gIx (eVar 9) (eK (.int 0))) (eK (.str "")))) (sDrop (eMut 1 gAppend (aCons (eTup (aCons (eVar 4) (aCons (eVar 7) (aCons (eVar 8) (aCons (eVar 9) aNil))))) aNil))) sNil)))) (eL ns rs p D way nm w (bkT B ks) (nT d) (tdT "" (nT (rowsN way B d))) s10)) Q), W ((sSeq (sIf (tb (eOp2 (gIn id) (eVar 6) (eTup (aCons (eK (.int 1)) (aCons (eK (.int 4)) aNil))))) (sSeq (sSet 8 (eOp2 gIx (eLst (aCons (eNeg (eK (.int 1))) (aCons (eNeg (eK (.int 5))) (aCons (eOp2 gSub (eK (.int 0)) (eOp2 gPow (eK (.int 10)) (eK (.int 9)))) (aCons (eK .none) (aCons (eK (.bool true)) (aCons (eK (.bool false)) (aCons (eK (.str "1")) (aCons (eTup (aCons (eK (.int 1)) aNil)) (aCons (eLst (aCons (eK (.int 1)) aNil)) (aCons (eTup (aCons (eK (.int 1)) (aCons (eK (.int 1)) aNil))) aNil))))))))))) (eCall 2 m__law_draw (aCons (eVar 3) (aCons (eK (.int 10)) aNil))))) (sSet 9 (eTup (aCons (eK (.str "depth")) (aCons (eVar 8) aNil))))) sNil) (sSeq (sIf (tb (eOp2 (gIn id) (eVar 6) (eTup (aCons (eK (.int 2)) (aCons (eK (.int 3)) (aCons (eK (.int 4)) aNil)))))) (sSeq (sSet 7 (eCall 2 m__law_bad_book (aCons (eVar 3) (aCons (eVar 7) aNil)))) (sSet 9 (eTup (aCons (eK (.str "book")) (aCons (eVar 7) aNil))))) sNil) (sSeq (sSet 10 (eCall 4 m__law_told (aCons (eVar 4) (aCons (eVar 7) (aCons (eVar 8) (aCons (eVar 5) aNil)))))) (sSeq (sIf (tOr (tb (eOp2 (gEq not) (eOp2 gIx (eVar 10) (eK (.int 0))) (eOp2 gIx (eVar 9) (eK (.int 0))))) (tNot (tb (eCall 2 (m__law_alike 8) (aCons (eOp2 gIx (eVar 10) (eK (.int 1))) (aCons (eOp2 gIx (eVar 9) (eK (.int 1))) aNil)))))) (sRet (eK (.bool false))) sNil) (sIf (tb (eOp2 (gEq id) (eOp2 gIx (eVar 9) (eK (.int 0))) (eK (.str "")))) (sDrop (eMut 1 gAppend (aCons (eTup (aCons (eVar 4) (aCons (eVar 7) (aCons (eVar 8) (aCons (eVar 9) aNil))))) aNil))) sNil))))) (eL ns rs p D way nm w (bkT B ks) (nT d) (tdT "" (nT (rowsN way B d))) s10)) Q := by
    intro w hn Q q
    generalize (sSeq (sIf (tb (eOp2 (gIn id) (eVar 6) (eTup (aCons (eK (.int 2)) (aCons (eK (.int 3)) (aCons (eK (.int 4)) aNil)))))) (sSeq (sSet 7 (eCall 2 m__law_bad_book (aCons (eVar 3) (aCons (eVar 7) aNil)))) (sSet 9 (eTup (aCons (eK (.str "book")) (aCons (eVar 7) aNil))))) sNil) (sSeq (sSet 10 (eCall 4 m__law_told (aCons (eVar 4) (aCons (eVar 7) (aCons (eVar 8) (aCons (eVar 5) aNil)))))) (sSeq (sIf (tOr (tb (eOp2 (gEq not) (eOp2 gIx (eVar 10) (eK (.int 0))) (eOp2 gIx (eVar 9) (eK (.int 0))))) (tNot (tb (eCall 2 (m__law_alike 8) (aCons (eOp2 gIx (eVar 10) (eK (.int 1))) (aCons (eOp2 gIx (eVar 9) (eK (.int 1))) aNil)))))) (sRet (eK (.bool false))) sNil) (sIf (tb (eOp2 (gEq id) (eOp2 gIx (eVar 9) (eK (.int 0))) (eK (.str "")))) (sDrop (eMut 1 gAppend (aCons (eTup (aCons (eVar 4) (aCons (eVar 7) (aCons (eVar 8) (aCons (eVar 9) aNil))))) aNil))) sNil)))) = T5 at q ⊢
    unfold eL at *
    repeat' decreasing_trivial_pre_omega
    exact q
  have skip5 : ∀ (w : Nat) (D : Dk) (u due : T) (hn : gIn id (.int (w : Int)) (.tuple [.int 2, .int 3, .int 4]) = some (.r (.bool false))) (Q : Fl → En → Prop) (q : W ((sSeq (sSet 10 (eCall 4 m__law_told (aCons (eVar 4) (aCons (eVar 7) (aCons (eVar 8) (aCons (eVar 5) aNil)))))) (sSeq (sIf (tOr (tb (eOp2 (gEq not) (eOp2 gIx (eVar 10) (eK (.int 0))) (eOp2 gIx (eVar 9) (eK (.int 0))))) (tNot (tb (eCall 2 (m__law_alike 8) (aCons (eOp2 gIx (eVar 10) (eK (.int 1))) (aCons (eOp2 gIx (eVar 9) (eK (.int 1))) aNil)))))) (sRet (eK (.bool false))) sNil) (sIf (tb (eOp2 (gEq id) (eOp2 gIx (eVar 9) (eK (.int 0))) (eK (.str "")))) (sDrop (eMut 1 gAppend (aCons (eTup (aCons (eVar 4) (aCons (eVar 7) (aCons (eVar 8) (aCons (eVar 9) aNil))))) aNil))) sNil))) (eL ns rs p D way nm w (bkT B ks) u due s10)) Q), W ((sSeq (sIf (tb (eOp2 (gIn id) (eVar 6) (eTup (aCons (eK (.int 2)) (aCons (eK (.int 3)) (aCons (eK (.int 4)) aNil)))))) (sSeq (sSet 7 (eCall 2 m__law_bad_book (aCons (eVar 3) (aCons (eVar 7) aNil)))) (sSet 9 (eTup (aCons (eK (.str "book")) (aCons (eVar 7) aNil))))) sNil) (sSeq (sSet 10 (eCall 4 m__law_told (aCons (eVar 4) (aCons (eVar 7) (aCons (eVar 8) (aCons (eVar 5) aNil)))))) (sSeq (sIf (tOr (tb (eOp2 (gEq not) (eOp2 gIx (eVar 10) (eK (.int 0))) (eOp2 gIx (eVar 9) (eK (.int 0))))) (tNot (tb (eCall 2 (m__law_alike 8) (aCons (eOp2 gIx (eVar 10) (eK (.int 1))) (aCons (eOp2 gIx (eVar 9) (eK (.int 1))) aNil)))))) (sRet (eK (.bool false))) sNil) (sIf (tb (eOp2 (gEq id) (eOp2 gIx (eVar 9) (eK (.int 0))) (eK (.str "")))) (sDrop (eMut 1 gAppend (aCons (eTup (aCons (eVar 4) (aCons (eVar 7) (aCons (eVar 8) (aCons (eVar 9) aNil))))) aNil))) sNil)))) (eL ns rs p D way nm w (bkT B ks) u due s10)) Q := by
    intro w D u due hn Q q
    generalize (sSeq (sSet 10 (eCall 4 m__law_told (aCons (eVar 4) (aCons (eVar 7) (aCons (eVar 8) (aCons (eVar 5) aNil)))))) (sSeq (sIf (tOr (tb (eOp2 (gEq not) (eOp2 gIx (eVar 10) (eK (.int 0))) (eOp2 gIx (eVar 9) (eK (.int 0))))) (tNot (tb (eCall 2 (m__law_alike 8) (aCons (eOp2 gIx (eVar 10) (eK (.int 1))) (aCons (eOp2 gIx (eVar 9) (eK (.int 1))) aNil)))))) (sRet (eK (.bool false))) sNil) (sIf (tb (eOp2 (gEq id) (eOp2 gIx (eVar 9) (eK (.int 0))) (eK (.str "")))) (sDrop (eMut 1 gAppend (aCons (eTup (aCons (eVar 4) (aCons (eVar 7) (aCons (eVar 8) (aCons (eVar 9) aNil))))) aNil))) sNil))) = T6 at q ⊢
    unfold eL at *
    repeat' decreasing_trivial_pre_omega
    exact q
  match w, hw with
  | 0, _ => exact skip4 0 rfl _ (skip5 0 D _ _ rfl _ (fin_good ns rs hrs p D way nm 0 g d hd s10 a10))
  | 1, _ => exact dep_tail ns rs p D (by omega) way nm 1 rfl _ _ _ s10 a10 _ fun D' u' h1 h2 h3 => skip5 1 D' _ _ rfl _ (fin_bad ns rs p D' way nm 1 _ u' u' ok_depth ne_depth (told_d g h3) h2 s10 a10)
  | 2, _ => exact skip4 2 rfl _ (bk_tail ns rs p D (by omega) way nm 2 rfl g _ _ s10 a10)
  | 3, _ => exact skip4 3 rfl _ (bk_tail ns rs p D (by omega) way nm 3 rfl g _ _ s10 a10)
  | 4, _ => exact dep_tail ns rs p D (by omega) way nm 4 rfl _ _ _ s10 a10 _ fun D' u' h1 h2 h3 => bk_tail ns rs p D' (by omega) way nm 4 rfl g _ _ s10 a10

set_option linter.all false
set_option maxRecDepth 100000
set_option maxHeartbeats 4000000
open PySem PySem.Spec Ev Pu Mt Wp
theorem most_ix {v : Nat} (hv : v < 4) : ∃ m : Nat, (0 < m ∧ m ≤ 20) ∧ gIx (.list [.int 1, .int 3, .int 8, .int 20]) (.int (v : Int)) = some (.r (nT m)) := by
  match v, hv with
  | 0, _ => exact ⟨1, by decide, rfl⟩
  | 1, _ => exact ⟨3, by decide, rfl⟩
  | 2, _ => exact ⟨8, by decide, rfl⟩
  | 3, _ => exact ⟨20, by decide, rfl⟩
theorem due_ix {way : Nat} (hw : way < 2) (B d : Nat) (hn : 0 < B ^ d) : gIx (.list [.int (2 * ((B ^ d : Nat) : Int) - 1), nT (B ^ d)]) (.int (way : Int)) = some (.r (nT (rowsN way B d))) := by
  unfold rowsN
  match way, hw with
  | 0, _ =>
    rw [if_pos rfl, show (2 * ((B ^ d : Nat) : Int) - 1) = ((2 * B ^ d - 1 : Nat) : Int) by omega]
    rfl
  | 1, _ => rw [if_neg (by decide)]; rfl
theorem due_head (m : FSem) (T4 : SemS) (s0 s1 s2 s3 s5 s6 s9 s10 : Sl) (a9 : lentS s9 = false) (bt tB td rn : T) (way n : Nat) (g0 : gIx bt (.int 0) = some (.r tB)) (pw : m [.v tB, .v td] = .ok (.r (nT n)) [.v tB, .v td]) (gm : gMul (.int 2) (nT n) = some (.r (.int (2 * (n : Int))))) (di : gIx (.list [.int (2 * (n : Int) - 1), nT n]) (.int (way : Int)) = some (.r rn)) (Q : Fl → En → Prop)
    (q : W (T4 [s0, s1, s2, s3, .v (nT way), s5, s6, .v bt, .v td, .v (.tuple [.str "", rn]), s10]) Q) :
    W (sSeq (sSet 9 (eTup (aCons (eK (.str "")) (aCons (eOp2 gIx (eLst (aCons (eOp2 gSub (eOp2 gMul (eK (.int 2)) (eCall 2 m (aCons (eOp2 gIx (eVar 7) (eK (.int 0))) (aCons (eVar 8) aNil)))) (eK (.int 1))) (aCons (eCall 2 m (aCons (eOp2 gIx (eVar 7) (eK (.int 0))) (aCons (eVar 8) aNil))) aNil))) (eVar 4)) aNil)))) T4 [s0, s1, s2, s3, .v (nT way), s5, s6, .v bt, .v td, s9, s10]) Q := by
  repeat' decreasing_trivial_pre_omega
  refine w_of pw ?_
  repeat' decreasing_trivial_pre_omega
  refine w_of pw ?_
  clear pw
  repeat' decreasing_trivial_pre_omega
  exact q
theorem due_w (ns : List Int) (rs : List Gq) (p : Nat) (D : Dk) (way : Nat) (hw : way < 2) (nm : Bool) (w : Nat) {B : Nat} {ks : List (List Pt)} (g : Good B ks) (d : Nat) (hd : d ≤ 2) (s9 s10 : Sl) (a9 : lentS s9 = false) (Q : Fl → En → Prop)
    (q : W ((sSeq (sIf (tb (eOp2 (gIn id) (eVar 6) (eTup (aCons (eK (.int 1)) (aCons (eK (.int 4)) aNil))))) (sSeq (sSet 8 (eOp2 gIx (eLst (aCons (eNeg (eK (.int 1))) (aCons (eNeg (eK (.int 5))) (aCons (eOp2 gSub (eK (.int 0)) (eOp2 gPow (eK (.int 10)) (eK (.int 9)))) (aCons (eK .none) (aCons (eK (.bool true)) (aCons (eK (.bool false)) (aCons (eK (.str "1")) (aCons (eTup (aCons (eK (.int 1)) aNil)) (aCons (eLst (aCons (eK (.int 1)) aNil)) (aCons (eTup (aCons (eK (.int 1)) (aCons (eK (.int 1)) aNil))) aNil))))))))))) (eCall 2 m__law_draw (aCons (eVar 3) (aCons (eK (.int 10)) aNil))))) (sSet 9 (eTup (aCons (eK (.str "depth")) (aCons (eVar 8) aNil))))) sNil) (sSeq (sIf (tb (eOp2 (gIn id) (eVar 6) (eTup (aCons (eK (.int 2)) (aCons (eK (.int 3)) (aCons (eK (.int 4)) aNil)))))) (sSeq (sSet 7 (eCall 2 m__law_bad_book (aCons (eVar 3) (aCons (eVar 7) aNil)))) (sSet 9 (eTup (aCons (eK (.str "book")) (aCons (eVar 7) aNil))))) sNil) (sSeq (sSet 10 (eCall 4 m__law_told (aCons (eVar 4) (aCons (eVar 7) (aCons (eVar 8) (aCons (eVar 5) aNil)))))) (sSeq (sIf (tOr (tb (eOp2 (gEq not) (eOp2 gIx (eVar 10) (eK (.int 0))) (eOp2 gIx (eVar 9) (eK (.int 0))))) (tNot (tb (eCall 2 (m__law_alike 8) (aCons (eOp2 gIx (eVar 10) (eK (.int 1))) (aCons (eOp2 gIx (eVar 9) (eK (.int 1))) aNil)))))) (sRet (eK (.bool false))) sNil) (sIf (tb (eOp2 (gEq id) (eOp2 gIx (eVar 9) (eK (.int 0))) (eK (.str "")))) (sDrop (eMut 1 gAppend (aCons (eTup (aCons (eVar 4) (aCons (eVar 7) (aCons (eVar 8) (aCons (eVar 9) aNil))))) aNil))) sNil))))) (eL ns rs p D way nm w (bkT B ks) (nT d) (tdT "" (nT (rowsN way B d))) s10)) Q) :
    W ((sSeq (sSet 9 (eTup (aCons (eK (.str "")) (aCons (eOp2 gIx (eLst (aCons (eOp2 gSub (eOp2 gMul (eK (.int 2)) (eCall 2 m__law_power (aCons (eOp2 gIx (eVar 7) (eK (.int 0))) (aCons (eVar 8) aNil)))) (eK (.int 1))) (aCons (eCall 2 m__law_power (aCons (eOp2 gIx (eVar 7) (eK (.int 0))) (aCons (eVar 8) aNil))) aNil))) (eVar 4)) aNil)))) (sSeq (sIf (tb (eOp2 (gIn id) (eVar 6) (eTup (aCons (eK (.int 1)) (aCons (eK (.int 4)) aNil))))) (sSeq (sSet 8 (eOp2 gIx (eLst (aCons (eNeg (eK (.int 1))) (aCons (eNeg (eK (.int 5))) (aCons (eOp2 gSub (eK (.int 0)) (eOp2 gPow (eK (.int 10)) (eK (.int 9)))) (aCons (eK .none) (aCons (eK (.bool true)) (aCons (eK (.bool false)) (aCons (eK (.str "1")) (aCons (eTup (aCons (eK (.int 1)) aNil)) (aCons (eLst (aCons (eK (.int 1)) aNil)) (aCons (eTup (aCons (eK (.int 1)) (aCons (eK (.int 1)) aNil))) aNil))))))))))) (eCall 2 m__law_draw (aCons (eVar 3) (aCons (eK (.int 10)) aNil))))) (sSet 9 (eTup (aCons (eK (.str "depth")) (aCons (eVar 8) aNil))))) sNil) (sSeq (sIf (tb (eOp2 (gIn id) (eVar 6) (eTup (aCons (eK (.int 2)) (aCons (eK (.int 3)) (aCons (eK (.int 4)) aNil)))))) (sSeq (sSet 7 (eCall 2 m__law_bad_book (aCons (eVar 3) (aCons (eVar 7) aNil)))) (sSet 9 (eTup (aCons (eK (.str "book")) (aCons (eVar 7) aNil))))) sNil) (sSeq (sSet 10 (eCall 4 m__law_told (aCons (eVar 4) (aCons (eVar 7) (aCons (eVar 8) (aCons (eVar 5) aNil)))))) (sSeq (sIf (tOr (tb (eOp2 (gEq not) (eOp2 gIx (eVar 10) (eK (.int 0))) (eOp2 gIx (eVar 9) (eK (.int 0))))) (tNot (tb (eCall 2 (m__law_alike 8) (aCons (eOp2 gIx (eVar 10) (eK (.int 1))) (aCons (eOp2 gIx (eVar 9) (eK (.int 1))) aNil)))))) (sRet (eK (.bool false))) sNil) (sIf (tb (eOp2 (gEq id) (eOp2 gIx (eVar 9) (eK (.int 0))) (eK (.str "")))) (sDrop (eMut 1 gAppend (aCons (eTup (aCons (eVar 4) (aCons (eVar 7) (aCons (eVar 8) (aCons (eVar 9) aNil))))) aNil))) sNil)))))) [.v (scT ns), .ow false (.l (rs.map gqT)), .v (nT p), .ow false (.l (dkT D)), .v (nT way), .v (.bool nm), .v (nT w), .v (bkT B ks), .v (nT d), s9, s10]) Q := by
  obtain ⟨⟨n0, n9⟩, hN⟩ := pow_lims g.hb hd
  have pw := power_w B (by rcases g.hb with h | h <;> omega) d (by omega)
  have di := due_ix hw B d n0
  have m1 : mulOk 2 ((B ^ d : Nat) : Int) = true := mulOk_of 64 64 (log2_small (by decide) (by decide)) (log2_small (by omega) (by decide)) (by decide)
  exact due_head m__law_power _ _ _ _ _ _ _ _ _ a9 (bkT B ks) (nT B) (nT d) _ way (B ^ d) rfl pw (gMul_ok m1) di Q q
theorem turn1 (ns : List Int) (hns : ns.length ≤ 63) (hb : ∀ k ∈ ns, Builtin.Int.intBits k ≤ 1048576) (rs : List Gq) (hrs : rs.length < 100) (p : Nat) (hp : p < 1000) (s3 s4 s5 s6 s7 s8 s9 s10 : Sl) (a3 : lentS s3 = false) (a4 : lentS s4 = false) (a5 : lentS s5 = false) (a6 : lentS s6 = false) (a7 : lentS s7 = false) (a8 : lentS s8 = false) (a9 : lentS s9 = false) (a10 : lentS s10 = false) :
    W (y1_law [.v (scT ns), .ow false (.l (rs.map gqT)), .v (nT p), s3, s4, s5, s6, s7, s8, s9, s10]) (TQ ns rs p) := by
  have fin := fun (D : Dk) (hc : D.c + 1510 ≤ 10 ^ 9) (way : Nat) (hw : way < 2) (nm : Bool) (w : Nat) (h5 : w < 5) (B : Nat) (ks : List (List Pt)) (g : Good B ks) (d : Nat) (hd : d ≤ 2) => due_w ns rs p D way hw nm w g d hd s9 s10 a9 (TQ ns rs p) (wrong_w ns rs hrs p D hc way nm w h5 g d hd s10 a10)
  unfold y1_law
  generalize (sSeq (sSet 9 (eTup (aCons (eK (.str "")) (aCons (eOp2 gIx (eLst (aCons (eOp2 gSub (eOp2 gMul (eK (.int 2)) (eCall 2 m__law_power (aCons (eOp2 gIx (eVar 7) (eK (.int 0))) (aCons (eVar 8) aNil)))) (eK (.int 1))) (aCons (eCall 2 m__law_power (aCons (eOp2 gIx (eVar 7) (eK (.int 0))) (aCons (eVar 8) aNil))) aNil))) (eVar 4)) aNil)))) (sSeq (sIf (tb (eOp2 (gIn id) (eVar 6) (eTup (aCons (eK (.int 1)) (aCons (eK (.int 4)) aNil))))) (sSeq (sSet 8 (eOp2 gIx (eLst (aCons (eNeg (eK (.int 1))) (aCons (eNeg (eK (.int 5))) (aCons (eOp2 gSub (eK (.int 0)) (eOp2 gPow (eK (.int 10)) (eK (.int 9)))) (aCons (eK .none) (aCons (eK (.bool true)) (aCons (eK (.bool false)) (aCons (eK (.str "1")) (aCons (eTup (aCons (eK (.int 1)) aNil)) (aCons (eLst (aCons (eK (.int 1)) aNil)) (aCons (eTup (aCons (eK (.int 1)) (aCons (eK (.int 1)) aNil))) aNil))))))))))) (eCall 2 m__law_draw (aCons (eVar 3) (aCons (eK (.int 10)) aNil))))) (sSet 9 (eTup (aCons (eK (.str "depth")) (aCons (eVar 8) aNil))))) sNil) (sSeq (sIf (tb (eOp2 (gIn id) (eVar 6) (eTup (aCons (eK (.int 2)) (aCons (eK (.int 3)) (aCons (eK (.int 4)) aNil)))))) (sSeq (sSet 7 (eCall 2 m__law_bad_book (aCons (eVar 3) (aCons (eVar 7) aNil)))) (sSet 9 (eTup (aCons (eK (.str "book")) (aCons (eVar 7) aNil))))) sNil) (sSeq (sSet 10 (eCall 4 m__law_told (aCons (eVar 4) (aCons (eVar 7) (aCons (eVar 8) (aCons (eVar 5) aNil)))))) (sSeq (sIf (tOr (tb (eOp2 (gEq not) (eOp2 gIx (eVar 10) (eK (.int 0))) (eOp2 gIx (eVar 9) (eK (.int 0))))) (tNot (tb (eCall 2 (m__law_alike 8) (aCons (eOp2 gIx (eVar 10) (eK (.int 1))) (aCons (eOp2 gIx (eVar 9) (eK (.int 1))) aNil)))))) (sRet (eK (.bool false))) sNil) (sIf (tb (eOp2 (gEq id) (eOp2 gIx (eVar 9) (eK (.int 0))) (eK (.str "")))) (sDrop (eMut 1 gAppend (aCons (eTup (aCons (eVar 4) (aCons (eVar 7) (aCons (eVar 8) (aCons (eVar 9) aNil))))) aNil))) sNil)))))) = T3 at fin ⊢
  repeat' decreasing_trivial_pre_omega
  refine w_imp (well_w ns hb hns p hp) ?_
  rintro _ _ ⟨D, hD, rfl, rfl⟩
  clear hb
  repeat' decreasing_trivial_pre_omega
  refine w_imp (drw_w D 2 (by decide) (by decide) (by omega)) ?_
  rintro _ _ ⟨way, D1, hway, hc1, rfl, rfl⟩
  repeat' decreasing_trivial_pre_omega
  refine w_imp (drw_w D1 2 (by decide) (by decide) (by omega)) ?_
  rintro _ _ ⟨nm, D2, hnm, hc2, rfl, rfl⟩
  repeat' decreasing_trivial_pre_omega
  refine w_imp (drw_w D2 5 (by decide) (by decide) (by omega)) ?_
  rintro _ _ ⟨w, D3, hw5, hc3, rfl, rfl⟩
  repeat' decreasing_trivial_pre_omega
  refine w_imp (drw_w D3 4 (by decide) (by decide) (by omega)) ?_
  rintro _ _ ⟨v, D4, hv, hc4, rfl, rfl⟩
  obtain ⟨m, ⟨m0, m20⟩, gm⟩ := most_ix hv
  repeat' decreasing_trivial_pre_omega
  refine w_imp (book_w D4 m m0 m20 (by omega)) ?_
  rintro _ _ ⟨D5, B, ks, hc5, g, rfl, rfl⟩
  clear gm
  repeat' decreasing_trivial_pre_omega
  refine w_imp (drw_w D5 3 (by decide) (by decide) (by omega)) ?_
  rintro _ _ ⟨d, D6, hd, hc6, rfl, rfl⟩
  have fin := fin D6 (by omega) way hway (decide ((nm : Int) = 0)) w hw5 B ks g d (by omega)
  clear hc1 hc2 hc3 hc4 hc5 hc6 hD m0 m20 hv
  repeat' decreasing_trivial_pre_omega
  exact fin
theorem law_n (m : Nat) : ∃ n : Nat, n ≤ 20 ∧ (if (if (m : Int) < 20 then (m : Int) else 20) > 16 then (if (m : Int) < 20 then (m : Int) else 20) else 16) = (n : Int) := by
  by_cases h : (m : Int) < 20
  · rw [if_pos h]
    by_cases h2 : (m : Int) > 16
    · rw [if_pos h2]; exact ⟨m, by omega, rfl⟩
    · rw [if_neg h2]; exact ⟨16, by omega, rfl⟩
  · rw [if_neg h, if_pos (by decide)]
    exact ⟨20, by omega, rfl⟩
theorem turn2 (r : Gq) (s0 s1 s2 s3 s5 s6 s10 : Sl) : W (y2_law [s0, s1, s2, s3, .v (nT r.way), s5, s6, .v (bkT r.B r.ks), .v (nT r.d), .v (tdT "" (nT (rowsN r.way r.B r.d))), s10]) fun fl e => fl = .nx ∧ e = [s0, s1, s2, s3, .v (nT r.way), s5, s6, .v (bkT r.B r.ks), .v (nT r.d), .v (tdT "" (nT (rowsN r.way r.B r.d))), s10] := by
  have td := told_ok (way := r.way) r.g r.hd (nm := true)
  have sm := same_td (rowsN r.way r.B r.d)
  generalize tdT "" (nT (rowsN r.way r.B r.d)) = x at *
  generalize bkT r.B r.ks = bt at *
  unfold y2_law
  repeat' decreasing_trivial_pre_omega
  refine w_of td ?_
  clear td
  repeat' decreasing_trivial_pre_omega
  refine w_of sm ?_
  clear sm
  repeat' decreasing_trivial_pre_omega
  exact ⟨rfl, rfl⟩
theorem pure_law : ∀ ns : List Int, ns.length ≤ 63 → (∀ k ∈ ns, Builtin.Int.intBits k ≤ 1048576) → ∃ e', m_law [.v (.list (ns.map PyData.int))] = .ok (.r (.bool true)) e' := by
  intro ns hns hb
  suffices h : W (m_law [.v (scT ns)]) fun r e => r = .r (.bool true) by
    obtain ⟨r, e, h, rfl⟩ := h
    exact ⟨e, h⟩
  obtain ⟨n, hn6, hn⟩ := law_n (ns.map PyData.int).length
  unfold m_law
  (apply Wp.w_fun; (focus (rfl; done)); (focus (((try simp only [List.cons_append, List.nil_append, List.length_cons, List.length_nil, Nat.reduceAdd, Nat.reduceSub, Nat.zero_add, Nat.sub_zero, List.replicate_succ, List.replicate_zero, List.append_nil]); rfl); done)))
  unfold b_law l1_law
  repeat' decreasing_trivial_pre_omega
  refine kr1_eq n rfl hn (by omega) (for_below (fun p e => ∃ (rs : List Gq) (s2 s3 s4 s5 s6 s7 s8 s9 s10 : Sl), (lentS s2 = false ∧ lentS s3 = false ∧ lentS s4 = false ∧ lentS s5 = false ∧ lentS s6 = false ∧ lentS s7 = false ∧ lentS s8 = false ∧ lentS s9 = false ∧ lentS s10 = false) ∧ rs.length ≤ p ∧ e = [.v (scT ns), .ow false (.l (rs.map gqT)), s2, s3, s4, s5, s6, s7, s8, s9, s10]) ⟨[], .un, .un, .un, .un, .un, .un, .un, .un, .un, ⟨rfl, rfl, rfl, rfl, rfl, rfl, rfl, rfl, rfl⟩, Nat.le_refl _, rfl⟩ ?_ ?_)
  · rintro p hp e ⟨rs, s2, s3, s4, s5, s6, s7, s8, s9, s10, ⟨a2, a3, a4, a5, a6, a7, a8, a9, a10⟩, h1, rfl⟩
    refine ⟨_, gN_ok (by first | rfl | exact Wp.isLent_of rfl (by assumption)) rfl, ?_⟩
    refine w_imp (turn1 ns hns hb rs (by omega) p (by omega) s3 s4 s5 s6 s7 s8 s9 s10 a3 a4 a5 a6 a7 a8 a9 a10) ?_
    rintro _ _ ⟨rfl, rs', s3, s4, s5, s6, s7, s8, s9, s10, ⟨a3, a4, a5, a6, a7, a8, a9, a10⟩, h2, rfl⟩
    refine kturn_nx ?_
    exact ⟨rs', .v (nT p), s3, s4, s5, s6, s7, s8, s9, s10, ⟨rfl, a3, a4, a5, a6, a7, a8, a9, a10⟩, by omega, rfl⟩
  · rintro e ⟨rs, s2, s3, s4, s5, s6, s7, s8, s9, s10, ⟨a2, a3, a4, a5, a6, a7, a8, a9, a10⟩, h1, rfl⟩
    unfold l2_law
    repeat' decreasing_trivial_pre_omega
    have hc : cutT (rs.map gqT) none (some 6) = (rs.take 6).map gqT := by
      rw [show (6 : Int) = ((6 : Nat) : Int) from rfl]
      unfold cutT
      rw [HT.sIx_nat, HT.sIx_none, List.drop_zero, Nat.sub_zero, List.map_take]
      by_cases h : 6 ≤ (rs.map gqT).length
      · rw [Nat.min_eq_left h]
      · rw [Nat.min_eq_right (by omega), List.take_of_length_le (Nat.le_refl _), List.take_of_length_le (by omega)]
    rw [hc]
    refine for_on_w gqT (rs.take 6) (fun _ e => ∃ (s1 s4 s7 s8 s9 : Sl), (lentS s4 = false ∧ lentS s7 = false ∧ lentS s8 = false ∧ lentS s9 = false) ∧ e = [.v (scT ns), s1, s2, s3, s4, s5, s6, s7, s8, s9, s10]) ⟨_, s4, s7, s8, s9, ⟨a4, a7, a8, a9⟩, rfl⟩ ?_ ?_
    · rintro don r rest hx e ⟨s1, s4, s7, s8, s9, ⟨a4, a7, a8, a9⟩, rfl⟩
      refine ⟨[.v (scT ns), s1, s2, s3, .v (nT r.way), s5, s6, .v (bkT r.B r.ks), .v (nT r.d), .v (tdT "" (nT (rowsN r.way r.B r.d))), s10], ?_, ?_⟩
      · unfold gqT
        (first | rfl | (repeat' (first | refine Wp.gN_ok (by first | rfl | exact Wp.isLent_of rfl (by assumption)) rfl | refine Wp.gsNil_ok rfl | with_reducible apply Wp.gsCons_ok | apply Wp.gT_ok rfl)))
      refine w_imp (turn2 r _ _ _ _ _ _ _) ?_
      rintro _ _ ⟨rfl, rfl⟩
      refine kturn_nx ?_
      exact ⟨s1, _, _, _, _, ⟨rfl, rfl, rfl, rfl⟩, rfl⟩
    · rintro e ⟨s1, s4, s7, s8, s9, ⟨a4, a7, a8, a9⟩, rfl⟩
      repeat' decreasing_trivial_pre_omega
      rfl

end Lw
set_option maxHeartbeats 4000000
namespace Lw
open PySem PySem.Spec PyProof.Rows L2 Ev Lz
theorem facts {P : Program} {w : World} {K : PySem.W.Frag} {h : Heap} {mg : Str → Option Value} {f : Addr} (X : K.In h) (G : h.Ns mainGlobals mg) (hfa : mg ("law" : Str) = some (.ref f)) (c : He.SaysD fa fn K) (cx : Ev.exB (["ThreadError", "InvalidBook", "InvalidDepth"] : List Str) K = true) :
    ∃ fd : FuncData, (∀ (s : Shared) (v : Value), BindsTo s fd ⟨[v], []⟩ [("script", v)]) ∧ ∀ base : Heap, K.In base → base.Ns mainGlobals mg → FnOk P w K mg base CXE 11 f fd ["script"] (spF K 1 m_law) := by
  have e := hfa.symm.trans (He.glo_ok X G (c.fact 29 (f := .glo "law") rfl))
  cases e
  obtain ⟨fd, F⟩ := c.def_ 29 (d := d_law) rfl
  have F : FunD K "law" "law" (defArgs s_law) (defBody s_law) (defScope s_law) [] [] (He.ga K "law") fd := F
  have b := FunD.bindsA (ps := ["script"]) F fun _ _ _ _ _ _ us hl => match us, hl with | [_], _ => rfl
  refine ⟨fd, fun s v => b s [v] rfl, fun base _ _ => ?_⟩
  obtain ⟨fd', F', O⟩ := ok_law (P := P) (w := w) (base := base) X G c cx
  have ee : fd = fd' := by
    obtain ⟨_, _, _, _, _, _, _, _, _, _, e1, l1, _⟩ := F.ex
    obtain ⟨_, _, _, _, _, _, _, _, _, _, e2, l2, _⟩ := F'.ex
    rw [l1] at l2
    cases l2
    rfl
  rw [ee]
  exact fnok_cx O
end Lw
open PySem PySem.W PySem.Calls PyProof.Rows
theorem PySem.Challenge.cw_squarethreads_k43_refusals_of_drawings_holds : PySem.Challenge.rw_squarethreads_k43_refusals_of_drawings.Holds := by
  w_on; o_law
  refine HandSHeadRun.head_any (r := OpenLaw.row PySem.Challenge.rw_squarethreads_k43_refusals_of_drawings) (q := view (OpenLaw.row PySem.Challenge.rw_squarethreads_k43_refusals_of_drawings).prog [39]) (H := Lz.hk) (ob := Lz.ob) (M := 4000) (loose := Lz.loose) (d := HandSHeadRun.topDef (OpenLaw.row PySem.Challenge.rw_squarethreads_k43_refusals_of_drawings).prog 39) (kwd := []) Lz.ob_eq
    (by kernel_rfl) (fun s => by kernel_rfl) Lz.run (by kernel_rfl) (by kernel_rfl) (by kernel_rfl) (by rfl) (by first | assumption | decide +kernel) (by decide +kernel) ⟨rfl, rfl, rfl, rfl, rfl, by decide +kernel⟩ ?hw ?hc
  case hw => w_witness2
  case hc =>
    refine L2.walk_ofEB (l := PySem.Challenge.rw_squarethreads_k43_refusals_of_drawings) (n := 63) (k := 11) (x := "script") (CX := Ev.CXE) rfl (by decide) (by kernel_rfl) ⟨rfl, by decide, by decide⟩ ?F Ev.law_CXE
    intro w mg fa h Y G hmg0
    obtain ⟨K, KX, c0⟩ := Y
    have c := c0.t.d
    have cx := c0.more
    have hmg : mg ("law" : PySem.Str) = some (.ref fa) := by
      have e : (HandSHeadRun.topDef (OpenLaw.row PySem.Challenge.rw_squarethreads_k43_refusals_of_drawings).prog 39).name = ("law" : PySem.Str) := by kernel_rfl
      rw [← e]
      exact hmg0
    obtain ⟨fd, hb, hF⟩ := Lw.facts (P := (PySem.Challenge.rw_squarethreads_k43_refusals_of_drawings).prog) (w := w) KX G hmg c cx
    exact ⟨K, fd, _, KX, hb, fun H a ns hl hbits _ hS => Ev.law_sp hS (Lw.pure_law ns hl hbits), hF⟩


