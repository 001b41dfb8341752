import PyProof.Rows.All
import Wide.All
import OpenK.AllK
import Wide.FinOn
import KE.KStateDown
import HandS.Head0
import HandS.Head1
import HandS.Head2
import HandS.HeadEnd
import HandS.HeadHook1
import HandS.HeadHook2
import HandS.HeadHook4
import HandS.Words
import HandS.Base
import HandS.Call
import HandS.HeadHook3
import HandS.ExcInit
import HandS.ExcField
import HandS.ExcIs
import HandS.List
import HandS.Comp
import HandS.Iter
import HandS.IsInst
import HandS.Wide
import HandS.More
import HandS.ExcOwn
import KE.KeyNested
import HandS.TupAny
import HandS.Deep
import HandS.TupMul
import HandS.Style
import HandS.Zip
import HandS.Walk
import HandS.WordsExc
import HandS.Defaults
import HandS.ExcCtx
import HandS.TupSets
import PyProof.LongRange
import PyProof.RangeFor
import HandS.Dict
import HandS.TupLen
import KE.KDictDisplayH
import KE.SortData
import HandS.DictTup
import KE.KDictZip
import HandS.DictComp
import PyProof.DictMoreH
import HandS.SetKeys
import PyProof.ListRange
import HandS.Sort
import HandS.WordsDict
import HandS.Small
import PyProof.Rows.RuleB_pow
import HandS.Text
import HandS.FStr
import HandS.EndBits
import PyProof.AutoSeq1
import HandS.Steps
import HandS.StrMore
import HandS.Hot
import HandS.HotCalls
import HandS.ExcInitHot
import PyProof.StrOps2
import HandS.Replace
import HandS.ReplaceLit
import KE.DatumOrd
import PyProof.ReprRoads
import HandS.WideBits
import HandS.ExcValue
import HandS.Exc
import PySem.Challenge.RW_squarethreads_k00_errors
set_option Elab.async false
set_option linter.all false
set_option maxRecDepth 100000
set_option Elab.async false
set_option linter.all false
set_option maxRecDepth 100000
namespace Ev
open PySem PySem.Spec PyProof.Rows L2
/-- whether an exception of the class c is one of the class h -/
def subE (c h : Str) : Bool := c == h || h == ("ThreadError" : Str)
abbrev iniP : Str × Option Str := ("ThreadError", some "__init__")
def oexB (K : PySem.W.Frag) (C : Addr) : Bool := match K.lookup C with
  | some ⟨.type t, _, .cls cd, sl⟩ => (match cd.mro, sl.toList with
    | .ref C' :: bm, [_, _, _, _, some (.builtin n), _] => decide (t = "type") && (decide (C' = C) && (decide (n = "ValueError.__new__") && (!cd.hasDel && (cd.hasDict && PySem.HandSPX.refsVE bm))))
    | _, _ => false)
  | _ => false
def exB1 (K : PySem.W.Frag) (cs : List Str) (c : Str) : Bool :=
  oexB K (He.ga K c) && (He.eqO (PySem.W.findIn K (.ref (He.ga K c)) "__setattr__") (some (some (.builtin "object.__setattr__"))) && (decide (PySem.W.subIn K (.ref (He.ga K c)) (.type "BaseException") = some true) &&
  (decide (PySem.W.typeIn K (.ref (He.ga K c)) = some (.type "type")) && (PySem.W.keepIn K (.ref (He.ga K c)) && (xfB K (He.ga K c) && (He.eqO (PySem.W.findIn K (.ref (He.ga K c)) "value") (some none) &&
  (He.eqO (PySem.W.findIn K (.ref (He.ga K c)) "__init__") (some (some (.ref (He.fAd K iniP)))) && ((He.Fa.glo c).ok K && cs.all fun h => decide (PySem.W.exmOne K (.ref (He.ga K c)) (.ref (He.ga K h)) = some (subE c h))))))))))
/-- what is asked of a class whose exceptions are kept -/
def exkB (K : PySem.W.Frag) (C : Addr) : Bool :=
  He.eqO (PySem.W.findIn K (.ref C) "__class__") (some (some (.builtin "object.__class__"))) && (He.eqO (PySem.W.specialIn K (.builtin "object.__class__") "__get__") (some (some (.builtin "getset_descriptor.__get__"))) &&
  (decide (PySem.W.takesIn K (.builtin "object.__class__") = some true) && (decide (PySem.W.mroIn K C (.type "object") = some true) && (decide (PySem.W.kitOne K (.ref C) (.type "ValueError") = some true) && (["int", "bool", "str", "list", "tuple", "dict"] : List String).all fun n => decide (PySem.W.kitOne K (.ref C) (.type n) = some false)))))
def exB (cs : List Str) (K : PySem.W.Frag) : Bool := decide (PySem.W.typeIn K (.ref (He.fAd K iniP)) = some (.type "function")) && cs.all fun c => exB1 K cs c && (exkB K (He.ga K c) && cs.all fun h => decide (PySem.W.kitOne K (.ref (He.ga K c)) (.ref (He.ga K h)) = some (subE c h)))
end Ev

set_option maxHeartbeats 4000000
namespace Lz
open PySem PySem.Spec PyProof.Rows L2
def top (i : Nat) : Stmt := PySem.Challenge.pw_squarethreads_k00_errors.main.body.getD i (.Pass ⟨0, 0, 0, 0⟩)
abbrev s__law_deck : Stmt := top 20
abbrev s__law_take : Stmt := top 21
abbrev s__law_same : Stmt := top 22
abbrev s__law_raise_first : Stmt := top 23
abbrev s__law_raise_second : Stmt := top 24
abbrev s__law_raise_named_first : Stmt := top 25
abbrev s__law_raise_named_second : Stmt := top 26
abbrev s__law_raised : Stmt := top 27
abbrev s__law_kinds : Stmt := top 28
abbrev s__law_given : Stmt := top 29
abbrev s__law_right : Stmt := top 30
abbrev s__law_base_right : Stmt := top 31
abbrev s_law : Stmt := top 32
def d__law_deck : He.DefD := ⟨("_law_deck", none), "_law_deck", "_law_deck", defArgs s__law_deck, defBody s__law_deck, defScope s__law_deck, [], []⟩
def d__law_take : He.DefD := ⟨("_law_take", none), "_law_take", "_law_take", defArgs s__law_take, defBody s__law_take, defScope s__law_take, [], []⟩
def d__law_same : He.DefD := ⟨("_law_same", none), "_law_same", "_law_same", defArgs s__law_same, defBody s__law_same, defScope s__law_same, [], []⟩
def d__law_raise_first : He.DefD := ⟨("_law_raise_first", none), "_law_raise_first", "_law_raise_first", defArgs s__law_raise_first, defBody s__law_raise_first, defScope s__law_raise_first, [], []⟩
def d__law_raise_second : He.DefD := ⟨("_law_raise_second", none), "_law_raise_second", "_law_raise_second", defArgs s__law_raise_second, defBody s__law_raise_second, defScope s__law_raise_second, [], []⟩
def d__law_raise_named_first : He.DefD := ⟨("_law_raise_named_first", none), "_law_raise_named_first", "_law_raise_named_first", defArgs s__law_raise_named_first, defBody s__law_raise_named_first, defScope s__law_raise_named_first, [], []⟩
def d__law_raise_named_second : He.DefD := ⟨("_law_raise_named_second", none), "_law_raise_named_second", "_law_raise_named_second", defArgs s__law_raise_named_second, defBody s__law_raise_named_second, defScope s__law_raise_named_second, [], []⟩
def d__law_raised : He.DefD := ⟨("_law_raised", none), "_law_raised", "_law_raised", defArgs s__law_raised, defBody s__law_raised, defScope s__law_raised, [], []⟩
def d__law_kinds : He.DefD := ⟨("_law_kinds", none), "_law_kinds", "_law_kinds", defArgs s__law_kinds, defBody s__law_kinds, defScope s__law_kinds, [], []⟩
def d__law_given : He.DefD := ⟨("_law_given", none), "_law_given", "_law_given", defArgs s__law_given, defBody s__law_given, defScope s__law_given, [], []⟩
def d__law_right : He.DefD := ⟨("_law_right", none), "_law_right", "_law_right", defArgs s__law_right, defBody s__law_right, defScope s__law_right, [], []⟩
def d__law_base_right : He.DefD := ⟨("_law_base_right", none), "_law_base_right", "_law_base_right", defArgs s__law_base_right, defBody s__law_base_right, defScope s__law_base_right, [], []⟩
def d_law : He.DefD := ⟨("law", none), "law", "law", defArgs s_law, defBody s_law, defScope s_law, [], []⟩
abbrev s_ini : Stmt := inClass (top 1) 0
def d_ini : He.DefD := ⟨("ThreadError", some "__init__"), "__init__", "ThreadError.__init__", defArgs s_ini, defBody s_ini, defScope s_ini, [], []⟩
def fn : List He.DefD := [d__law_deck, d__law_take, d__law_same, d__law_raise_first, d__law_raise_second, d__law_raise_named_first, d__law_raise_named_second, d__law_raised, d__law_kinds, d__law_given, d__law_right, d__law_base_right, d_law, d_ini]
def fa : List He.Fa := [.glo "_law_deck", .glo "_law_take", .glo "_law_same", .glo "_law_raise_first", .glo "_law_raise_second", .glo "_law_raise_named_first", .glo "_law_raise_named_second", .glo "_law_raised", .glo "_law_kinds", .glo "_law_given", .glo "_law_right", .glo "_law_base_right", .glo "law", .free "ValueError", .free "bool", .free "int", .free "isinstance", .free "len", .free "list", .free "max", .free "min", .free "range", .free "str", .free "tuple"]
def loose : List PySem.Str := (["__name__", "ThreadError", "InvalidBook", "InvalidKind", "InvalidDepth", "InvalidCell", "InvalidNumber", "InvalidBox", "InvalidPosture", "InvalidPair", "InvalidField", "InvalidPicture", "InvalidMake", "InvalidStore", "InvalidName", "UnknownName", "NothingToUndo", "Unreadable", "Unorderly", "_law_deck", "_law_take", "_law_same", "_law_raise_first", "_law_raise_second", "_law_raise_named_first", "_law_raise_named_second", "_law_raised", "_law_kinds", "_law_given", "_law_right"] : List PySem.Str) ++ (["_law_base_right"] : List PySem.Str)
abbrev R : PySem.W.OpenRow := PySem.W.OpenLaw.row PySem.Challenge.rw_squarethreads_k00_errors
abbrev hk : PySem.W.Hook := He.hookX 5 fa fn [] [] (Ev.exB (["ThreadError", "InvalidBook", "InvalidKind", "InvalidDepth", "InvalidCell", "InvalidNumber", "InvalidBox", "InvalidPosture", "InvalidPair", "InvalidField", "InvalidPicture", "InvalidMake", "InvalidStore", "InvalidName", "UnknownName", "NothingToUndo", "Unreadable", "Unorderly"] : List Str))
def ob (s : PySem.W.SharedT) : He.AlX := He.obsX 5 fa fn [] [] (Ev.exB (["ThreadError", "InvalidBook", "InvalidKind", "InvalidDepth", "InvalidCell", "InvalidNumber", "InvalidBox", "InvalidPosture", "InvalidPair", "InvalidField", "InvalidPicture", "InvalidMake", "InvalidStore", "InvalidName", "UnknownName", "NothingToUndo", "Unreadable", "Unorderly"] : List Str)) (HandSHeadRun.getT s)
theorem ob_eq (s : PySem.W.SharedT) : ob s = hk.obs s.abs := He.obsX_eq (HandSHeadRun.getT_eq s)
theorem run (w : World) : HandSHeadRun.RunEq R (PySem.W.view R.prog [32]) hk ob 8000 loose w := by
  intro os
  kernel_rfl

end Lz
set_option Elab.async false
set_option linter.all false
set_option maxRecDepth 100000
namespace Ev
open PySem PySem.Spec PyProof.Rows L2

abbrev T := PyData
abbrev Sg := L2.St
/-- the one object of a dict whose keys are ints and tuples of such, nested -/
def nObj (d : Addr) (xs : List (NestedKey × Addr × V)) : HO := .ext fun h => xs.length ≤ sizeLine ∧ (d == sysModules) = false ∧
  ∃ (ys : List (NestedKey × Addr × Value)), Paired (fun (a : NestedKey × Addr × V) (b : NestedKey × Addr × Value) => a.1 = b.1 ∧ a.2.1 = b.2.1 ∧ RelV a.2.2 b.2.2) xs ys ∧
    ∃ (P : Program) (w : World) (o : Obj) (es : Array DictEntry) (ep : Nat), h.get? d = some o ∧ o.ExactDict ∧ o.data = .dict es ep ∧ es.toList = ys.map (entryOfKey (nestedKind P w)) ∧ (ys.map (·.1)).Nodup
/-- a thing that a name alone holds -/
inductive Bx where
  | l (xs : List T)
  | d (kvs : List (T × T))
  | m (kvs : List (T × T))
  | n (kvs : List (T × T))
def Bx.t : Bx → T
  | .l xs => .list xs
  | .d kvs => .dict kvs
  | .m kvs => .dict kvs
  | .n kvs => .dict kvs
/-- what a name holds -/
inductive Sl where
  | un
  | v (t : T)
  | ow (lent : Bool) (b : Bx)
  | fz (b : Bx)
abbrev En := List Sl
inductive Out (α : Type) where
  | ok (a : α) (e : En)
  | exc (c : Str) (t : T) (e : En)
  | bad
@[simp] def Out.bind {α β : Type} : Out α → (α → En → Out β) → Out β
  | .ok a e, f => f a e
  | .exc c t e, _ => .exc c t e
  | .bad, _ => .bad
/-- what an expression yields: a tree, what the name i holds, a new thing -/
inductive Od where
  | r (t : T)
  | s (i : Nat)
  | b (b : Bx)

/-- a class whose exceptions are kept as trees -/
structure ExK (K : PySem.W.Frag) (C : Addr) : Prop where
  x : ExcC K C
  xf : XfC K C
  nov : PySem.W.findIn K (.ref C) "value" = some none
  kt : ∀ n ∈ (["int", "bool", "str", "list", "tuple", "dict"] : List String), PySem.W.kitOne K (.ref C) (.type n) = some false
/-- an exception that is kept: its class, its dict -/
def exk (a C dx : Addr) : HO := .ext fun h => ∃ o vs, h.get? a = some o ∧ o.cls = .ref C ∧ o.dict = some dx ∧ o.data = .fields vs
/-- an exception as a tree -/
def exT (c : Str) (t : T) : T := .dict [(.none, .str c), (.none, t)]
/-- a key of a dict as a tree -/
def kyT : Key → T
  | .inl i => .int i
  | .inr x => .str x
mutual
/-- a value is a tree; its tuples are known as such -/
inductive Dp (K : PySem.W.Frag) (H : Hp) : V → PyData → Prop
  | non : Dp K H .non .none
  | bl (b : Bool) : Dp K H (.bl b) (.bool b)
  | int (i : Int) : Dp K H (.int i) (.int i)
  | str (x : Str) : Dp K H (.str x) (.str x)
  | lst {a : Addr} {xs : List V} {ds : List PyData} : SqL K H a xs → DpAll K H xs ds → Dp K H (.ref a) (.list ds)
  | tup {a : Addr} {xs : List V} {ds : List PyData} : H a = some (.tup xs) → DpAll K H xs ds → Dp K H (.ref a) (.tuple ds)
  | dct {a : Addr} {ks : List (List Key × V)} {kvs : List (PyData × PyData)} : H a = some (.dT ks) → DpKvs K H ks kvs → Dp K H (.ref a) (.dict kvs)
  | dck {a : Addr} {ks : List (Key × V)} {kvs : List (PyData × PyData)} : H a = some (.dK ks) → DpKs K H ks kvs → Dp K H (.ref a) (.dict kvs)
  | exo {a dx : Addr} {c : Str} {y : V} {t : PyData} : ExK K (He.ga K c) → H a = some (exk a (He.ga K c) dx) → H dx = some (.xd [("value", y)]) → Dp K H y t → Dp K H (.ref a) (.dict [(.none, .str c), (.none, t)])
inductive DpAll (K : PySem.W.Frag) (H : Hp) : List V → List PyData → Prop
  | nil : DpAll K H [] []
  | cons {v : V} {vs : List V} {d : PyData} {ds : List PyData} : Dp K H v d → DpAll K H vs ds → DpAll K H (v :: vs) (d :: ds)
inductive DpKvs (K : PySem.W.Frag) (H : Hp) : List (List Key × V) → List (PyData × PyData) → Prop
  | nil : DpKvs K H [] []
  | cons {k : List Key} {v : V} {ks : List (List Key × V)} {d : PyData} {kvs : List (PyData × PyData)} : Dp K H v d → DpKvs K H ks kvs → DpKvs K H ((k, v) :: ks) ((.tuple (k.map kyT), d) :: kvs)
inductive DpKs (K : PySem.W.Frag) (H : Hp) : List (Key × V) → List (PyData × PyData) → Prop
  | nil : DpKs K H [] []
  | cons {k : Key} {v : V} {ks : List (Key × V)} {d : PyData} {kvs : List (PyData × PyData)} : Dp K H v d → DpKs K H ks kvs → DpKs K H ((k, v) :: ks) ((kyT k, d) :: kvs)
end
mutual
/-- no dict in it -/
def noD : T → Bool
  | .dict _ => false
  | .list ts => noDs ts
  | .tuple ts => noDs ts
  | .none => true
  | .bool _ => true
  | .int _ => true
  | .str _ => true
def noDs : List T → Bool
  | [] => true
  | t :: ts => noD t && noDs ts
end
mutual
theorem noD_lay : ∀ t : T, t.canLay0 = true → noD t = true
  | .none, _ => rfl
  | .bool _, _ => rfl
  | .int _, _ => rfl
  | .str _, _ => rfl
  | .list ts, c => by simp only [noD]; exact noDs_lay ts (by simpa [PyData.canLay0] using c)
  | .tuple ts, c => by simp only [noD]; exact noDs_lay ts (by simpa [PyData.canLay0] using c)
  | .dict _, c => nomatch c
theorem noDs_lay : ∀ ts : List T, PyData.canLayAll0 ts = true → noDs ts = true
  | [], _ => rfl
  | t :: ts, c => by
    have c' : t.canLay0 = true ∧ PyData.canLayAll0 ts = true := by simpa [PyData.canLayAll0] using c
    simp only [noDs, noD_lay t c'.1, noDs_lay ts c'.2, Bool.and_self]
end
mutual
theorem dp_hand {K : PySem.W.Frag} {H : Hp} : ∀ (t : T) {v : V}, noD t = true → Dp K H v t → L2.Dp K H v t
  | .none, _, _, h => by cases h; exact .non
  | .bool _, _, _, h => by cases h; exact .bl _
  | .int _, _, _, h => by cases h; exact .int _
  | .str _, _, _, h => by cases h; exact .str _
  | .list ts, _, c, h => by cases h with | lst a b => exact .lst a (dpAll_hand ts (by simpa [noD] using c) b)
  | .tuple ts, _, c, h => by cases h with | tup a b => exact .tup (SqT.of a) (dpAll_hand ts (by simpa [noD] using c) b)
  | .dict _, _, c, _ => nomatch c
theorem dpAll_hand {K : PySem.W.Frag} {H : Hp} : ∀ (ts : List T) {vs : List V}, noDs ts = true → DpAll K H vs ts → L2.DpAll K H vs ts
  | [], _, _, h => by cases h; exact .nil
  | t :: ts, _, c, h => by
    have c' : noD t = true ∧ noDs ts = true := by simpa [noDs] using c
    cases h with | cons a b => exact .cons (dp_hand t c'.1 a) (dpAll_hand ts c'.2 b)
end
theorem noD_sh {t : T} (h : SeqAt.shaped t = true) : noD t = true := noD_lay t (SeqAt.canLay_of_shaped h)
theorem dp_mono {K : PySem.W.Frag} {F F' : Hp} (ff : ∀ a o, F a = some o → F' a = some o) : ∀ (t : T) (v : V), Dp K F v t → Dp K F' v t := by
  have sl : ∀ {a xs}, SqL K F a xs → SqL K F' a xs := fun {a xs} h => by
    rcases h with h | h
    · rcases h with h | ⟨o, h⟩
      · exact .inl (.inl (ff _ _ h))
      · exact .inl (.inr ⟨o, ff _ _ h⟩)
    · exact .inr h
  intro t v h
  exact Dp.rec (motive_1 := fun v t _ => Dp K F' v t) (motive_2 := fun vs ts _ => DpAll K F' vs ts) (motive_3 := fun ks kvs _ => DpKvs K F' ks kvs) (motive_4 := fun ks kvs _ => DpKs K F' ks kvs)
    .non (fun b => .bl b) (fun i => .int i) (fun x => .str x) (fun h _ ih => .lst (sl h) ih) (fun h _ ih => .tup (ff _ _ h) ih) (fun h _ ih => .dct (ff _ _ h) ih) (fun h _ ih => .dck (ff _ _ h) ih) (fun x h1 h2 _ ih => .exo x (ff _ _ h1) (ff _ _ h2) ih) .nil (fun _ _ a b => .cons a b) .nil (fun _ _ a b => .cons a b) .nil (fun _ _ a b => .cons a b) h
theorem dpAll_mono {K : PySem.W.Frag} {F F' : Hp} (ff : ∀ a o, F a = some o → F' a = some o) : ∀ {ts : List T} {vs : List V}, DpAll K F vs ts → DpAll K F' vs ts
  | [], _, h => by cases h; exact .nil
  | _ :: _, _, h => by cases h with | cons a b => exact .cons (dp_mono ff _ _ a) (dpAll_mono ff b)
theorem dpAll_len {K : PySem.W.Frag} {F : Hp} : ∀ {ts : List T} {vs : List V}, DpAll K F vs ts → vs.length = ts.length
  | [], _, h => by cases h; rfl
  | _ :: _, _, h => by cases h with | cons a b => simp [dpAll_len b]
theorem dpAll_app {K : PySem.W.Frag} {F : Hp} : ∀ {ts us : List T} {vs ws : List V}, DpAll K F vs ts → DpAll K F ws us → DpAll K F (vs ++ ws) (ts ++ us)
  | [], _, _, _, h, g => by cases h; exact g
  | _ :: _, _, _, _, h, g => by cases h with | cons a b => exact .cons a (dpAll_app b g)
theorem dpAll_get {K : PySem.W.Frag} {F : Hp} : ∀ {ts : List T} {vs : List V} {i : Nat} {t : T}, DpAll K F vs ts → ts[i]? = some t → ∃ v, vs[i]? = some v ∧ Dp K F v t
  | [], _, _, _, _, e => by simp at e
  | _ :: _, _, 0, _, h, e => by cases h with | cons a b => simp at e; subst e; exact ⟨_, rfl, a⟩
  | _ :: _, _, i + 1, _, h, e => by cases h with | cons a b => simpa using dpAll_get b (by simpa using e)
theorem dpAll_set {K : PySem.W.Frag} {F : Hp} {t : T} {v : V} (d : Dp K F v t) : ∀ {ts : List T} {vs : List V} (n : Nat), DpAll K F vs ts → DpAll K F (vs.set n v) (ts.set n t)
  | [], _, _, h => by cases h; exact .nil
  | _ :: _, _, 0, h => by cases h with | cons a b => exact .cons d b
  | _ :: _, _, n + 1, h => by cases h with | cons a b => exact .cons a (dpAll_set d n b)

/-- a dict's entries -/
def KdR (K : PySem.W.Frag) (F : Hp) (ks : List (Key × V)) (kvs : List (T × T)) : Prop := Paired (fun p q => q.1 = kyT p.1 ∧ Dp K F p.2 q.2) ks kvs
theorem kdR_mono {K : PySem.W.Frag} {F F' : Hp} (ff : ∀ a o, F a = some o → F' a = some o) {ks : List (Key × V)} {kvs : List (T × T)} (h : KdR K F ks kvs) : KdR K F' ks kvs := by
  unfold KdR at h ⊢
  induction h with
  | nil => exact .nil
  | cons a _ ih => exact .cons ⟨a.1, dp_mono ff _ _ a.2⟩ ih
/-- the entries of a dict whose keys are tuples -/
def KmR (K : PySem.W.Frag) (F : Hp) (ks : List (List Key × V)) (kvs : List (T × T)) : Prop := Paired (fun p q => q.1 = .tuple (p.1.map kyT) ∧ Dp K F p.2 q.2) ks kvs
theorem kmR_mono {K : PySem.W.Frag} {F F' : Hp} (ff : ∀ a o, F a = some o → F' a = some o) {ks : List (List Key × V)} {kvs : List (T × T)} (h : KmR K F ks kvs) : KmR K F' ks kvs := by
  unfold KmR at h ⊢
  induction h with
  | nil => exact .nil
  | cons a _ ih => exact .cons ⟨a.1, dp_mono ff _ _ a.2⟩ ih
mutual
/-- a tree as such a key -/
def nkOf : T → Option NestedKey
  | .int i => some (.num i)
  | .tuple ts => (nkOfs ts).map .tup
  | .none => none
  | .bool _ => none
  | .str _ => none
  | .list _ => none
  | .dict _ => none
def nkOfs : List T → Option (List NestedKey)
  | [] => some []
  | t :: ts => match nkOf t, nkOfs ts with
    | some k, some ks => some (k :: ks)
    | _, _ => none
end
def nkD (t : T) : Option NestedKey := match nkOf t with
  | some k => if k.depth ≤ 8 then some k else none
  | none => none
def NmR (K : PySem.W.Frag) (F : Hp) (xs : List (NestedKey × Addr × V)) (kvs : List (T × T)) : Prop := Paired (fun q p => nkD p.1 = some q.1 ∧ Dp K F (.ref q.2.1) p.1 ∧ Dp K F q.2.2 p.2) xs kvs
theorem nmR_mono {K : PySem.W.Frag} {F F' : Hp} (ff : ∀ a o, F a = some o → F' a = some o) {xs : List (NestedKey × Addr × V)} {kvs : List (T × T)} (h : NmR K F xs kvs) : NmR K F' xs kvs := by
  unfold NmR at h ⊢
  induction h with
  | nil => exact .nil
  | cons a _ ih => exact .cons ⟨a.1, dp_mono ff _ _ a.2.1, dp_mono ff _ _ a.2.2⟩ ih
def BxAt (K : PySem.W.Frag) (F H : Hp) (p : Addr) : Bx → Prop
  | .l ts => ∃ xs, H p = some (.lst xs) ∧ DpAll K F xs ts
  | .d kvs => ∃ ks, H p = some (.dK ks) ∧ KdR K F ks kvs
  | .m kvs => ∃ ks, H p = some (.dT ks) ∧ KmR K F ks kvs
  | .n kvs => ∃ xs, H p = some (nObj p xs) ∧ NmR K F xs kvs
def RS (K : PySem.W.Frag) (F H : Hp) : Sl → Option V → Prop
  | .un, _ => True
  | .v t, o => ∃ x, o = some x ∧ Dp K F x t
  | .ow _ b, o => ∃ p, o = some (.ref p) ∧ F p = none ∧ BxAt K F H p b
  | .fz b, o => ∃ x, o = some x ∧ Dp K F x b.t
def Own (e : En) (σ : Sg) (p : Addr) : Prop := ∃ (i : Nat) (l : Bool) (b : Bx), e[i]? = some (Sl.ow l b) ∧ σ[i]? = some (some (V.ref p))
structure Rel (K : PySem.W.Frag) (e : En) (σ : Sg) (F H : Hp) : Prop where
  sub : ∀ a o, F a = some o → H a = some o
  len : e.length = σ.length
  at_ : ∀ (i : Nat) (s : Sl) (o : Option V), e[i]? = some s → σ[i]? = some o → RS K F H s o
  ne : ∀ (i j : Nat) (l : Bool) (b : Bx) (l' : Bool) (b' : Bx) (p : Addr), e[i]? = some (.ow l b) → e[j]? = some (.ow l' b') → σ[i]? = some (some (.ref p)) → σ[j]? = some (some (.ref p)) → i = j
def Lent (e : En) (i : Nat) : Prop := ∃ b, e[i]? = some (.ow true b) ∨ e[i]? = some (.fz b)
/-- what kinds of owning names there are stays -/
def SameKinds (e e1 : En) : Prop := ∀ (i : Nat) (l : Bool) (b : Bx), e1[i]? = some (Sl.ow l b) → ∃ b', e[i]? = some (Sl.ow l b')
structure Step (e e' : En) (σ : Sg) (F H F' H' : Hp) : Prop where
  ff : ∀ a o, F a = some o → F' a = some o
  keep : ∀ a o, H a = some o → ¬ Own e σ a → H' a = some o ∧ (F a = none → F' a = none)
  dom : ∀ a o, H a = some o → ∃ o', H' a = some o'
  own : ∀ a, Own e' σ a → Own e σ a
  lt : ∀ i, Lent e i → Lent e' i
  sk : SameKinds e e'
theorem Step.refl {e : En} {σ : Sg} {F H : Hp} : Step e e σ F H F H := ⟨fun _ _ h => h, fun _ _ h _ => ⟨h, fun x => x⟩, fun _ o h => ⟨o, h⟩, fun _ h => h, fun _ h => h, fun i l b h => ⟨b, h⟩⟩
theorem Step.trans {e e1 e2 : En} {σ : Sg} {F H F1 H1 F2 H2 : Hp} (a : Step e e1 σ F H F1 H1) (b : Step e1 e2 σ F1 H1 F2 H2) : Step e e2 σ F H F2 H2 where
  ff := fun x o h => b.ff _ _ (a.ff _ _ h)
  keep := fun x o h n => by
    obtain ⟨h1, f1⟩ := a.keep x o h n
    obtain ⟨h2, f2⟩ := b.keep x o h1 (fun z => n (a.own _ z))
    exact ⟨h2, fun z => f2 (f1 z)⟩
  dom := fun x o h => by
    obtain ⟨o1, h1⟩ := a.dom x o h
    exact b.dom x o1 h1
  own := fun x h => a.own _ (b.own _ h)
  lt := fun i h => b.lt _ (a.lt _ h)
  sk := fun i l z h => by
    obtain ⟨z1, h1⟩ := b.sk i l z h
    exact a.sk i l z1 h1
/-- an owned thing stands in the heap, apart from the trees -/
theorem Rel.owned {K : PySem.W.Frag} {e : En} {σ : Sg} {F H : Hp} {p : Addr} (R : Rel K e σ F H) (h : Own e σ p) : F p = none ∧ ∃ o, H p = some o := by
  obtain ⟨i, l, b, h1, h2⟩ := h
  obtain ⟨q, e1, f, x⟩ := R.at_ i _ _ h1 h2
  cases e1
  refine ⟨f, ?_⟩
  cases b with
  | l ts => obtain ⟨xs, hx, _⟩ := x; exact ⟨_, hx⟩
  | d kvs => obtain ⟨ks, hx, _⟩ := x; exact ⟨_, hx⟩
  | m kvs => obtain ⟨ks, hx, _⟩ := x; exact ⟨_, hx⟩
  | n kvs => obtain ⟨ks, hx, _⟩ := x; exact ⟨_, hx⟩

/-- what a value yielded is -/
def OdR (K : PySem.W.Frag) (σ : Sg) (Hs F H : Hp) (x : V) : Od → Prop
  | .r t => Dp K F x t
  | .s i => σ[i]? = some (some x)
  | .b b => ∃ p, x = .ref p ∧ Hs p = none ∧ F p = none ∧ BxAt K F H p b
abbrev SemE := En → Out Od
abbrev WX := Value → Option Addr → Sg → Hp → Prop
/-- an exception: of the class that the name c names, with the value t -/
def ExR (K : PySem.W.Frag) (F H : Hp) (c : Str) (t : T) (cls : Value) (d : Option Addr) : Prop :=
  cls = .ref (He.ga K c) ∧ ∃ dx v, d = some dx ∧ F dx = some (.xd [("value", v)]) ∧ Dp K F v t
end Ev

set_option Elab.async false
set_option linter.all false
set_option maxRecDepth 100000
namespace Ev
open PySem PySem.Spec PyProof.Rows L2
def Bx.tr : Bx → Option T
  | .l xs => some (.list xs)
  | .d _ => none
  | .m _ => none
  | .n _ => none
def slVal : Sl → Option T
  | .un => none
  | .v t => some t
  | .ow _ b => b.tr
  | .fz b => some b.t
def Od.val (e : En) : Od → Option T
  | .r t => some t
  | .s i => match e[i]? with
    | some z => slVal z
    | none => none
  | .b z => z.tr
section
variable {K : PySem.W.Frag} {W : WX} {e e1 e2 : En} {σ : Sg} {F H F1 H1 F2 H2 Hs : Hp} {p : Addr} {o : HO}
/-- a value; a list's own node may stand in H alone -/
def DpO (K : PySem.W.Frag) (F H : Hp) (x : V) : T → Prop
  | .list ts => ∃ p xs, x = .ref p ∧ SqL K H p xs ∧ DpAll K F xs ts
  | t => Dp K F x t
theorem sqL_mono {a : Addr} {xs : List V} (ff : ∀ a o, F a = some o → H a = some o) (h : SqL K F a xs) : SqL K H a xs := by
  rcases h with h | h
  · rcases h with h | ⟨o, h⟩
    · exact .inl (.inl (ff _ _ h))
    · exact .inl (.inr ⟨o, ff _ _ h⟩)
  · exact .inr h
theorem tupS {a : Addr} {xs : List V} (ff : ∀ a o, F a = some o → H a = some o) (h : F a = some (.tup xs)) : SqT K H a xs := SqT.of (ff _ _ h)
theorem dpo_of {x : V} {t : T} (ff : ∀ a o, F a = some o → H a = some o) (d : Dp K F x t) : DpO K F H x t := by
  cases d with
  | lst a b => exact ⟨_, _, rfl, sqL_mono ff a, b⟩
  | tup a b => exact .tup a b
  | dct a b => exact .dct a b
  | dck a b => exact .dck a b
  | exo a b c d => exact .exo a b c d
  | non => exact .non
  | bl b => exact .bl b
  | int i => exact .int i
  | str z => exact .str z
theorem DpO.dp {x : V} {t : T} (ff : ∀ a o, F a = some o → H a = some o) (d : DpO K F H x t) : Dp K H x t := by
  cases t with
  | list ts => obtain ⟨p, xs, rfl, a, b⟩ := d; exact .lst a (dpAll_mono ff b)
  | tuple ts => exact dp_mono ff _ _ d
  | none => exact dp_mono ff _ _ d
  | bool _ => exact dp_mono ff _ _ d
  | int _ => exact dp_mono ff _ _ d
  | str _ => exact dp_mono ff _ _ d
  | dict _ => exact dp_mono ff _ _ d
theorem bx_dpo {b : Bx} {t : T} (x : BxAt K F H p b) (h : b.tr = some t) : DpO K F H (.ref p) t := by
  cases b with
  | l ts => obtain ⟨xs, hx, d⟩ := x; cases h; exact ⟨_, xs, rfl, SqL.of hx, d⟩
  | d kvs => cases h
  | m kvs => cases h
  | n kvs => cases h
theorem val_ok {x : V} {r : Od} {t : T} (R : Rel K e σ F H) (O : OdR K σ Hs F H x r) (h : r.val e = some t) : DpO K F H x t := by
  cases r with
  | r u => cases h; exact dpo_of R.sub O
  | b b => obtain ⟨p, rfl, _, _, z⟩ := O; exact bx_dpo z (by simpa [Od.val] using h)
  | s i =>
    have O : σ[i]? = some (some x) := O
    simp only [Od.val] at h
    cases q : e[i]? with
    | none => rw [q] at h; cases h
    | some s =>
      rw [q] at h
      have z := R.at_ i s _ q O
      cases s with
      | un => cases h
      | v u => cases h; obtain ⟨y, ey, d⟩ := z; cases ey; exact dpo_of R.sub d
      | ow l b => obtain ⟨p, ey, _, d⟩ := z; cases ey; exact bx_dpo d h
      | fz b => cases h; obtain ⟨y, ey, d⟩ := z; cases ey; exact dpo_of R.sub d
theorem fresh_not_own (R : Rel K e σ F H) (S : Step e e1 σ F H F1 H1) (h : H p = none) : ¬ Own e1 σ p := fun z => by
  obtain ⟨_, o, q⟩ := R.owned (S.own _ z)
  rw [h] at q; cases q
theorem bx_keep {b : Bx} (x : BxAt K F1 H1 p b) (ff : ∀ a o, F1 a = some o → F2 a = some o) (hk : ∀ o, H1 p = some o → H2 p = some o) : BxAt K F2 H2 p b := by
  cases b with
  | l ts => obtain ⟨xs, hx, d⟩ := x; exact ⟨xs, hk _ hx, dpAll_mono ff d⟩
  | d kvs => obtain ⟨ks, hx, d⟩ := x; exact ⟨ks, hk _ hx, kdR_mono ff d⟩
  | m kvs => obtain ⟨ks, hx, d⟩ := x; exact ⟨ks, hk _ hx, kmR_mono ff d⟩
  | n kvs => obtain ⟨ks, hx, d⟩ := x; exact ⟨ks, hk _ hx, nmR_mono ff d⟩
theorem bx_some {b : Bx} (x : BxAt K F1 H1 p b) : ∃ o, H1 p = some o := by
  cases b with
  | l ts => obtain ⟨xs, hx, _⟩ := x; exact ⟨_, hx⟩
  | d kvs => obtain ⟨ks, hx, _⟩ := x; exact ⟨_, hx⟩
  | m kvs => obtain ⟨ks, hx, _⟩ := x; exact ⟨_, hx⟩
  | n kvs => obtain ⟨ks, hx, _⟩ := x; exact ⟨_, hx⟩
/-- a value stays what it is while others are worked out -/
theorem od_stay {x : V} {r : Od} (O : OdR K σ H F1 H1 x r) (no : ∀ p, H p = none → ¬ Own e1 σ p) (S : Step e1 e2 σ F1 H1 F2 H2) : OdR K σ H F2 H2 x r := by
  cases r with
  | r t => exact dp_mono S.ff _ _ O
  | s i => exact O
  | b b =>
    obtain ⟨p, rfl, hn, hf, z⟩ := O
    obtain ⟨o, ho⟩ := bx_some z
    have k := S.keep p o ho (no p hn)
    exact ⟨p, rfl, hn, k.2 hf, bx_keep z S.ff fun o' h' => by rw [ho] at h'; cases h'; exact k.1⟩
theorem od_back {x : V} {r : Od} (O : OdR K σ H1 F2 H2 x r) (S : Step e e1 σ F H F1 H1) : OdR K σ H F2 H2 x r := by
  cases r with
  | r t => exact O
  | s i => exact O
  | b b =>
    obtain ⟨p, rfl, hn, hf, z⟩ := O
    refine ⟨p, rfl, ?_, hf, z⟩
    cases q : H p with
    | none => rfl
    | some o => obtain ⟨o', e'⟩ := S.dom _ _ q; rw [hn] at e'; cases e'
/-! ### new things -/
theorem laid_own (R : Rel K e σ F H) (hp : H p = none) : Rel K e σ F (upd H p o) := by
  refine ⟨fun a u h => ?_, R.len, fun i s u h1 h2 => ?_, R.ne⟩
  · have := R.sub _ _ h
    rw [upd_ne (ne_of_none this hp)]; exact this
  · have z := R.at_ i s u h1 h2
    cases s with
    | un => trivial
    | v t => exact z
    | fz b => exact z
    | ow l b =>
      obtain ⟨q, eq, hf, x⟩ := z
      refine ⟨q, eq, hf, bx_keep x (fun _ _ h => h) fun o' h' => ?_⟩
      rw [upd_ne (ne_of_none h' hp)]; exact h'
theorem laid_own_step (hp : H p = none) : Step e e σ F H F (upd H p o) :=
  ⟨fun _ _ h => h, fun a u h _ => ⟨by rw [upd_ne (ne_of_none h hp)]; exact h, fun z => z⟩, fun a u h => ⟨u, by rw [upd_ne (ne_of_none h hp)]; exact h⟩, fun _ h => h, fun _ h => h, fun i l b h => ⟨b, h⟩⟩
theorem sub_none (R : Rel K e σ F H) (hp : H p = none) : F p = none := by
  cases q : F p with
  | none => rfl
  | some o => rw [R.sub _ _ q] at hp; cases hp
/-- F grows by what stands in H, apart from what is owned -/
theorem frz_rel (R : Rel K e σ F H) (hp : H p = some o) (no : ¬ Own e σ p) (hf : F p = none) : Rel K e σ (upd F p o) H := by
  have ff : ∀ a u, F a = some u → upd F p o a = some u := fun a u h => by rw [upd_ne (ne_of_none h hf)]; exact h
  refine ⟨fun a u h => ?_, R.len, fun i s u h1 h2 => ?_, R.ne⟩
  · by_cases q : a = p
    · subst q; rw [upd_same] at h; cases h; exact hp
    · rw [upd_ne q] at h; exact R.sub _ _ h
  · have z := R.at_ i s u h1 h2
    cases s with
    | un => trivial
    | v t => obtain ⟨x, ex, d⟩ := z; exact ⟨x, ex, dp_mono ff _ _ d⟩
    | fz b => obtain ⟨x, ex, d⟩ := z; exact ⟨x, ex, dp_mono ff _ _ d⟩
    | ow l b =>
      obtain ⟨q, eq, hf', x⟩ := z
      have ne : q ≠ p := fun z => no ⟨i, l, b, h1, by rw [h2, eq, z]⟩
      exact ⟨q, eq, by rw [upd_ne ne]; exact hf', bx_keep x ff fun _ h => h⟩
theorem frz_step (S : Step e e1 σ F H F1 H1) (hp : H p = none) (hf : F1 p = none) : Step e e1 σ F H (upd F1 p o) H1 :=
  ⟨fun a u h => by rw [upd_ne (ne_of_none (S.ff _ _ h) hf)]; exact S.ff _ _ h, fun a u h n => ⟨(S.keep a u h n).1, fun z => by rw [upd_ne (ne_of_none h hp)]; exact (S.keep a u h n).2 z⟩, S.dom, S.own, S.lt, S.sk⟩
theorem laid_frz (R : Rel K e σ F H) (hp : H p = none) : Rel K e σ (upd F p o) (upd H p o) :=
  frz_rel (laid_own R hp) upd_same (fun z => by obtain ⟨_, u, q⟩ := R.owned z; rw [hp] at q; cases q) (sub_none R hp)
theorem laid_frz_step (R : Rel K e σ F H) (S : Step e1 e σ F1 H1 F H) (hp : H p = none) : Step e1 e σ F1 H1 (upd F p o) (upd H p o) := by
  have h1 : H1 p = none := by
    cases q : H1 p with
    | none => rfl
    | some u => obtain ⟨o', e'⟩ := S.dom _ _ q; rw [hp] at e'; cases e'
  exact frz_step (S.trans (laid_own_step hp)) h1 (sub_none R hp)
/-! ### readings -/
/-- what an outcome asks of what is wanted behind it; rel: how a value is told (the heap ahead, F, H behind) -/
def OutX {α β : Type} (K : PySem.W.Frag) (W : WX) (rel : Hp → Hp → Hp → β → α → Prop) (r : Out α) (e : En) (σ : Sg) (F H : Hp) (Q : β → Hp → Prop) : Prop := match r with
  | .ok r e' => ∀ x F' H', Rel K e' σ F' H' → Step e e' σ F H F' H' → rel H F' H' x r → Q x H'
  | .exc c t e' => ∀ F' H' cls d, Rel K e' σ F' H' → Step e e' σ F H F' H' → ExR K F' H' c t cls d → W cls d σ H'
  | .bad => False
/-- the reading of a meaning -/
def tX {α β : Type} (K : PySem.W.Frag) (W : WX) (rel : Sg → Hp → Hp → Hp → β → α → Prop) (m : En → Out α) (σ : Sg) (H : Hp) (Q : β → Hp → Prop) : Prop := ∃ e F, Rel K e σ F H ∧ OutX K W (rel σ) (m e) e σ F H Q
theorem tX_bind {α β γ δ : Type} {rel : Sg → Hp → Hp → Hp → β → α → Prop} {rel' : Hp → Hp → Hp → δ → γ → Prop} {m : En → Out α} {f : α → En → Out γ} {Q : δ → Hp → Prop} (R1 : Rel K e1 σ F1 H1) (S1 : Step e e1 σ F H F1 H1) (h : OutX K W rel' ((m e1).bind f) e σ F H Q) :
    tX K W rel m σ H1 (fun x H2 => ∃ r e2 F2, Rel K e2 σ F2 H2 ∧ Step e1 e2 σ F1 H1 F2 H2 ∧ rel σ H1 F2 H2 x r ∧ OutX K W rel' (f r e2) e σ F H Q) := by
  refine ⟨e1, F1, R1, ?_⟩
  cases q : m e1 with
  | ok r e' => rw [q] at h; exact fun x F' H' R' S' O => ⟨r, e', F', R', S', O, h⟩
  | exc c t e' => rw [q] at h; exact fun F' H' cls d R' S' X => h F' H' cls d R' (S1.trans S') X
  | bad => rw [q] at h; exact h
theorem OutX.imp {α β : Type} {rel : Hp → Hp → Hp → β → α → Prop} {r : Out α} {Q Q' : β → Hp → Prop} (h : OutX K W rel r e σ F H Q) (m : ∀ x H', Q x H' → Q' x H') : OutX K W rel r e σ F H Q' := by
  cases r with
  | ok r e' => exact fun x F' H' R S O => m _ _ (h x F' H' R S O)
  | exc c t e' => exact h
  | bad => exact h
theorem tX_imp {α β : Type} {rel : Sg → Hp → Hp → Hp → β → α → Prop} {m : En → Out α} {Q Q' : β → Hp → Prop} (h : tX K W rel m σ H Q) (k : ∀ x H', Q x H' → Q' x H') : tX K W rel m σ H Q' := by
  obtain ⟨e, F, R, h⟩ := h
  exact ⟨e, F, R, h.imp k⟩
/-- what is asked where an operation hands r back, the heap being H -/
def Fin (K : PySem.W.Frag) (F H : Hp) (Q : VK) : Od → Prop
  | .r w => (∀ v, Dp K F v w → Q v H) ∧ ∀ ts p xs, w = .tuple ts → H p = none → DpAll K F xs ts → Q (.ref p) (upd H p (.tup xs))
  | .b (.l ts) => ∀ p xs, H p = none → DpAll K F xs ts → Q (.ref p) (upd H p (.lst xs))
  | _ => False
theorem step_none (S : Step e e1 σ F H F1 H1) (h : H1 p = none) : H p = none := by
  cases q : H p with
  | none => rfl
  | some u => obtain ⟨o', e'⟩ := S.dom _ _ q; rw [h] at e'; cases e'
/-- w is what operations hand back -/
def Back : Od → Prop
  | .r _ => True
  | .b (.l _) => True
  | _ => False
theorem fin_of {r : Od} {Q : VK} (R : Rel K e1 σ F1 H1) (S : Step e e1 σ F H F1 H1) (go : OutX K W (OdR K σ) (.ok r e1) e σ F H Q) (hr : Back r) : Fin K F1 H1 Q r := by
  cases r with
  | r w =>
    refine ⟨fun v d => go v F1 H1 R S d, fun ts p xs ew hp d => ?_⟩
    subst ew
    refine go _ _ _ (laid_frz R hp) (laid_frz_step R S hp) (.tup upd_same (dpAll_mono (fun a u q => ?_) d))
    rw [upd_ne (ne_of_none q (sub_none R hp))]; exact q
  | s i => exact hr.elim
  | b b =>
    cases b with
    | d _ => exact hr.elim
    | m _ => exact hr.elim
    | n _ => exact hr.elim
    | l ts => exact fun p xs hp d => go _ _ _ (laid_own R hp) (S.trans (laid_own_step hp)) ⟨p, rfl, step_none S hp, sub_none R hp, xs, upd_same, d⟩
end
theorem pe_mono {X : Cx} {ex : Expr} {t t' : TE} (h : PE X ex t) (m : ∀ σ H Q, t' σ H Q → t σ H Q) : PE X ex t' := ⟨fun pins s σ H Q I q => h.run pins s σ H Q I (m σ H Q q)⟩
theorem pt_mono {X : Cx} {ex : Expr} {t t' : TT} (h : PT X ex t) (m : ∀ σ H Q, t' σ H Q → t σ H Q) : PT X ex t' := ⟨fun pins s σ H Q I q => h.run pins s σ H Q I (m σ H Q q)⟩
theorem ps_mono {X : Cx} {ex : Stmt} {t t' : TS} (h : PS X ex t) (m : ∀ D σ H, t' D σ H → t D σ H) : PS X ex t' := ⟨fun pins s σ H D I q => h.run pins s σ H D I (m D σ H q)⟩
theorem pss_mono {X : Cx} {ex : List Stmt} {t t' : TS} (h : PSs X ex t) (m : ∀ D σ H, t' D σ H → t D σ H) : PSs X ex t' := ⟨fun pins s σ H D I q => h.run pins s σ H D I (m D σ H q)⟩
theorem pa_mono {X : Cx} {ex : List Expr} {t t' : TA} (h : PA X ex t) (m : ∀ σ H Q, t' σ H Q → t σ H Q) : PA X ex t' := ⟨fun pos pins s σ H Q I q => h.run pos pins s σ H Q I (m σ H Q q)⟩
abbrev tE (K : PySem.W.Frag) (W : WX) (m : SemE) : TE := tX K W (fun σ => OdR K σ) m
abbrev SemT := En → Out Bool
abbrev tT (K : PySem.W.Frag) (W : WX) (m : SemT) : TT := tX K W (fun _ _ _ _ (x : Bool) r => x = r) m
abbrev SemA := En → Out (List Od)
/-- the values of a list of things yielded; the new ones stand apart -/
inductive OdsR (K : PySem.W.Frag) (σ : Sg) (Hs F H : Hp) : List Od → List V → Prop
  | nil : OdsR K σ Hs F H [] []
  | cons {r : Od} {x : V} {rs : List Od} {xs : List V} : OdR K σ Hs F H x r → OdsR K σ Hs F H rs xs →
      (∀ (z : Bx) (p : Addr), r = .b z → x = .ref p → ∀ (j : Nat) (z' : Bx), rs[j]? = some (.b z') → xs[j]? ≠ some (.ref p)) → OdsR K σ Hs F H (r :: rs) (x :: xs)
abbrev tA (K : PySem.W.Frag) (W : WX) (m : SemA) : TA := tX K W (fun σ Hs F H xs rs => OdsR K σ Hs F H rs xs) m
abbrev QE (X : Cx) (W : WX) (ex : Expr) (m : SemE) : Prop := PE X ex (tE X.K W m)
abbrev QT (X : Cx) (W : WX) (ex : Expr) (m : SemT) : Prop := PT X ex (tT X.K W m)
abbrev QA (X : Cx) (W : WX) (ex : List Expr) (m : SemA) : Prop := PA X ex (tA X.K W m)

/-! ### names and constants -/
section
variable {X : Cx} {W : WX} {a b c : Expr} {ma mb mc : SemE} {pos : Pos}
def eVar (i : Nat) : SemE := fun e => match e[i]? with
  | some (.v t) => .ok (.r t) e
  | some (.fz b) => .ok (.r b.t) e
  | some (.ow _ _) => .ok (.s i) e
  | _ => .bad
theorem Rel.var {K : PySem.W.Frag} {e : En} {σ : Sg} {F H : Hp} (R : Rel K e σ F H) {i : Nat} {s : Sl} (h : e[i]? = some s) : ∃ o, σ[i]? = some o ∧ RS K F H s o := by
  have hi : i < σ.length := by rw [← R.len]; exact (List.getElem?_eq_some_iff.mp h).1
  exact ⟨_, List.getElem?_eq_getElem hi, R.at_ i s _ h (List.getElem?_eq_getElem hi)⟩
theorem qvar {i : Nat} {x : Str} (hN : X.N[i]? = some x) (hv : Vis X.env.scope x) (hd : (x == ("__debug__" : Str)) = false := by decide) (hcd : (x == ("__classdict__" : Str)) = false := by decide) : QE X W (.Name x pos) (eVar i) := by
  refine pe_mono (pe_var hN hv hd hcd) fun σ H Q h => ?_
  obtain ⟨e, F, R, h⟩ := h
  unfold eVar at h
  cases q : e[i]? with
  | none => rw [q] at h; exact h.elim
  | some s =>
    rw [q] at h
    obtain ⟨o, hs, z⟩ := R.var q
    cases s with
    | un => exact h.elim
    | v t => obtain ⟨y, rfl, d⟩ := z; exact ⟨y, hs, h y F H R .refl d⟩
    | fz b => obtain ⟨y, rfl, d⟩ := z; exact ⟨y, hs, h y F H R .refl d⟩
    | ow l b => obtain ⟨p, rfl, hf, x⟩ := z; exact ⟨_, hs, h _ F H R .refl hs⟩
def eK (t : T) : SemE := fun e => .ok (.r t) e
theorem qint {i j} : QE X W (.Constant (.int i) j pos) (eK (.int i)) := pe_mono pe_int fun σ H Q ⟨e, F, R, h⟩ => h _ F H R .refl (.int i)
theorem qbl {b j} : QE X W (.Constant (.bool b) j pos) (eK (.bool b)) := pe_mono pe_bl fun σ H Q ⟨e, F, R, h⟩ => h _ F H R .refl (.bl b)
theorem qnon {j} : QE X W (.Constant .none j pos) (eK .none) := pe_mono pe_non fun σ H Q ⟨e, F, R, h⟩ => h _ F H R .refl .non
theorem qstr {x j} : QE X W (.Constant (.str x) j pos) (eK (.str x)) := pe_mono pe_str fun σ H Q ⟨e, F, R, h⟩ => h _ F H R .refl (.str x)

/-! ### two operands -/
def eTwo {α : Type} (ma mb : SemE) (g : Od → Od → En → Out α) : En → Out α := fun e => (ma e).bind fun r e1 => (mb e1).bind fun r2 e2 => g r r2 e2
/-- the state behind two operands -/
def At2 {α β : Type} (K : PySem.W.Frag) (W : WX) (rel : Hp → Hp → Hp → β → α → Prop) (g : Od → Od → En → Out α) (σ : Sg) (x y : V) (H2 : Hp) (Q : β → Hp → Prop) : Prop :=
  ∃ e F H r r2 e2 F2, Rel K e σ F H ∧ Rel K e2 σ F2 H2 ∧ Step e e2 σ F H F2 H2 ∧ OdR K σ H F2 H2 x r ∧ OdR K σ H F2 H2 y r2 ∧ OutX K W rel (g r r2 e2) e σ F H Q
theorem two {α β : Type} {K : PySem.W.Frag} {rel : Sg → Hp → Hp → Hp → β → α → Prop} {g : Od → Od → En → Out α} {σ : Sg} {H : Hp} {Q : β → Hp → Prop} (h : tX K W rel (eTwo ma mb g) σ H Q) :
    tE K W ma σ H fun x H1 => tE K W mb σ H1 fun y H2 => At2 K W (rel σ) g σ x y H2 Q := by
  obtain ⟨e, F, R, h⟩ := h
  refine tX_imp (tX_bind R .refl h) fun x H1 ⟨r, e1, F1, R1, S1, O1, h1⟩ => ?_
  refine tX_imp (tX_bind R1 S1 h1) fun y H2 ⟨r2, e2, F2, R2, S2, O2, h2⟩ => ?_
  exact ⟨e, F, H, r, r2, e2, F2, R, R2, S1.trans S2, od_stay O1 (fun p hp => fresh_not_own R S1 hp) S2, od_back O2 S1, h2⟩
/-- the values of two operands -/
def v2 (g : T → T → Option Od) : Od → Od → En → Out Od := fun r r2 e => match r.val e, r2.val e with
  | some t, some u => (match g t u with
    | some w => .ok w e
    | none => .bad)
  | _, _ => .bad
/-- a rule of an operation on two values, met by g -/
def Does2 (K : PySem.W.Frag) (r : R2) (g : T → T → Option Od) : Prop :=
  ∀ x y t u w F H (Q : VK), (∀ a o, F a = some o → H a = some o) → DpO K F H x t → DpO K F H y u → g t u = some w → Back w ∧ (Fin K F H Q w → r x y H Q)
theorem does2 {K : PySem.W.Frag} {r : R2} {g : T → T → Option Od} (hr : Does2 K r g) {σ : Sg} {x y : V} {H : Hp} {Q : VK} (h : At2 K W (OdR K σ) (v2 g) σ x y H Q) : r x y H Q := by
  obtain ⟨e, F, H0, r1, r2, e2, F2, R, R2, S, O1, O2, go⟩ := h
  unfold v2 at go
  cases q1 : r1.val e2 with
  | none => rw [q1] at go; exact go.elim
  | some t =>
    cases q2 : r2.val e2 with
    | none => rw [q1, q2] at go; exact go.elim
    | some u =>
      rw [q1, q2] at go
      cases q3 : g t u with
      | none => simp only [q3] at go; exact go.elim
      | some w =>
        simp only [q3] at go
        obtain ⟨bk, z⟩ := hr x y t u w F2 H Q R2.sub (val_ok R2 O1 q1) (val_ok R2 O2 q2) q3
        exact z (fin_of R2 S go bk)
abbrev eOp2 (g : T → T → Option Od) (ma mb : SemE) : SemE := eTwo ma mb (v2 g)
theorem qop {f : Operator} {r : R2} {g : T → T → Option Od} (ho : OpR X (binaryOp f) r) (hr : Does2 X.K r g) (ha : QE X W a ma) (hb : QE X W b mb) : QE X W (.BinOp a f b pos) (eOp2 g ma mb) :=
  pe_mono (pe_op ho ha hb) fun σ H Q h => tX_imp (two h) fun x H1 h1 => tX_imp h1 fun y H2 h2 => does2 hr h2
theorem qcmp {f : CmpOp} {r : R2} {g : T → T → Option Od} (ho : OpR X (compareOp f) r) (hr : Does2 X.K r g) (ha : QE X W a ma) (hb : QE X W b mb) (hm : behindInMarks f b = false := by first | rfl | exact nomark _) : QE X W (.Compare a [f] [b] pos) (eOp2 g ma mb) :=
  pe_mono (pe_cmpR ho ha hb hm) fun σ H Q h => tX_imp (two h) fun x H1 h1 => tX_imp h1 fun y H2 h2 => does2 hr h2
end
end Ev

set_option Elab.async false
set_option linter.all false
set_option maxRecDepth 100000
namespace Ev
open PySem PySem.Spec PyProof.Rows L2
section
variable {X : Cx} {W : WX} {a b c : Expr} {ma mb mc : SemE} {pos : Pos}
/-! ### argument lists -/
def aNil : SemA := fun e => .ok [] e
def aCons (m : SemE) (r : SemA) : SemA := fun e => (m e).bind fun x e1 => (r e1).bind fun xs e2 => .ok (x :: xs) e2
theorem qa_nil : QA X W [] aNil := pa_mono pa_nil fun σ H Q ⟨e, F, R, h⟩ => h _ F H R .refl .nil
theorem ods_back {K : PySem.W.Frag} {σ : Sg} {e e1 : En} {F H F1 H1 F2 H2 : Hp} (S : Step e e1 σ F H F1 H1) : ∀ {rs xs}, OdsR K σ H1 F2 H2 rs xs → OdsR K σ H F2 H2 rs xs
  | _, _, .nil => .nil
  | _, _, .cons a b n => .cons (od_back a S) (ods_back S b) n
theorem ods_tmp {K : PySem.W.Frag} {σ : Sg} {Hs F H : Hp} : ∀ {rs : List Od} {xs : List V}, OdsR K σ Hs F H rs xs → ∀ (j : Nat) (z : Bx), rs[j]? = some (.b z) → ∃ p, xs[j]? = some (.ref p) ∧ Hs p = none ∧ F p = none ∧ BxAt K F H p z
  | _, _, .nil, j, z, h => by simp at h
  | _, _, .cons a b n, 0, z, h => by simp at h; subst h; obtain ⟨p, rfl, q⟩ := a; exact ⟨p, rfl, q⟩
  | _, _, .cons a b n, j + 1, z, h => by simpa using ods_tmp b j z (by simpa using h)
theorem qa_cons {es : List Expr} {mr : SemA} (ha : QE X W a ma) (hr : QA X W es mr) (hs : starEach (a :: es) X.env = (false, eval a X.env) :: starEach es X.env := by rfl) : QA X W (a :: es) (aCons ma mr) := by
  refine pa_mono (pa_cons ha hr hs) fun σ H Q h => ?_
  obtain ⟨e, F, R, h⟩ := h
  refine tX_imp (tX_bind R .refl h) fun x H1 ⟨r, e1, F1, R1, S1, O1, h1⟩ => ?_
  refine tX_imp (tX_bind (rel := fun σ Hs F H xs rs => OdsR X.K σ Hs F H rs xs) R1 S1 h1) fun xs H2 ⟨rs, e2, F2, R2, S2, O2, h2⟩ => ?_
  refine h2 _ F2 H2 R2 (S1.trans S2) (.cons (od_stay O1 (fun p hp => fresh_not_own R S1 hp) S2) (ods_back S1 O2) fun z p er ex j z' hj hx => ?_)
  subst er
  obtain ⟨p', ep, hn, hf, bx⟩ := O1
  rw [ex] at ep; cases ep
  obtain ⟨q, hq, hn2, _⟩ := ods_tmp O2 j z' hj
  rw [hx] at hq; cases hq
  obtain ⟨o, ho⟩ := bx_some bx
  rw [hn2] at ho; cases ho
def vals (e : En) : List Od → Option (List T)
  | [] => some []
  | r :: rs => match r.val e, vals e rs with
    | some t, some ts => some (t :: ts)
    | _, _ => none
abbrev DpOs (K : PySem.W.Frag) (F H : Hp) (ts : List T) (xs : List V) : Prop := Paired (fun t x => DpO K F H x t) ts xs
theorem vals_ok {K : PySem.W.Frag} {σ : Sg} {e : En} {F H Hs : Hp} (R : Rel K e σ F H) : ∀ {rs : List Od} {xs : List V} {ts : List T}, OdsR K σ Hs F H rs xs → vals e rs = some ts → DpOs K F H ts xs
  | _, _, _, .nil, h => by cases h; exact .nil
  | r :: rs, _, _, .cons a b n, h => by
    unfold vals at h
    cases q : r.val e with
    | none => rw [q] at h; cases h
    | some t =>
      cases q2 : vals e rs with
      | none => rw [q, q2] at h; cases h
      | some us => rw [q, q2] at h; cases h; exact .cons (val_ok R a q) (vals_ok R b q2)
/-- a built-in on values -/
def eFn (g : List T → Option Od) (ma : SemA) : SemE := fun e => (ma e).bind fun rs e1 => match vals e1 rs with
  | some ts => (match g ts with
    | some w => .ok w e1
    | none => .bad)
  | none => .bad
def DoesN (K : PySem.W.Frag) (r : List V → Hp → VK → Prop) (g : List T → Option Od) : Prop :=
  ∀ xs ts w F H (Q : VK), (∀ a o, F a = some o → H a = some o) → DpOs K F H ts xs → g ts = some w → Back w ∧ (Fin K F H Q w → r xs H Q)
theorem fn_read {K : PySem.W.Frag} {r : List V → Hp → VK → Prop} {g : List T → Option Od} {m : SemA} (hr : DoesN K r g) {σ : Sg} {H : Hp} {Q : VK} (h : tE K W (eFn g m) σ H Q) : tCB r (tA K W m) σ H Q := by
  obtain ⟨e, F, R, h⟩ := h
  refine tX_imp (tX_bind (rel := fun σ Hs F H xs rs => OdsR K σ Hs F H rs xs) R .refl h) fun xs H1 ⟨rs, e1, F1, R1, S1, O1, h1⟩ => ?_
  cases q : vals e1 rs with
  | none => simp only [q] at h1; exact h1.elim
  | some ts =>
    simp only [q] at h1
    cases q2 : g ts with
    | none => simp only [q2] at h1; exact h1.elim
    | some w =>
      simp only [q2] at h1
      obtain ⟨bk, z⟩ := hr xs ts w F1 H1 Q R1.sub (vals_ok R1 O1 q) q2
      exact z (fin_of R1 S1 h1 bk)
theorem qfnB {x : Str} {p : Pos} {es : List Expr} {id : String} {r : List V → Hp → VK → Prop} {g : List T → Option Od} {m : SemA} (hc : CallR X (.builtin id) r) (hr : DoesN X.K r g) (hg : Gl X x) (hm : X.mg x = none) (hv : bootBuiltins x = some (.builtin id)) (ha : QA X W (a :: es) m)
    (hn : x ≠ "__name__" := by decide) (hdb : (x == ("__debug__" : Str)) = false := by decide)
    (he : starEach (a :: es) X.env = (false, eval a X.env) :: starEach es X.env := by rfl) (hpl : (backTo pos (starEach es X.env)).any (·.1) = false := by rfl) : QE X W (.Call (.Name x p) (a :: es) [] pos) (eFn g m) :=
  pe_mono (pe_callB hc hg hm hv ha hn hdb he hpl) fun σ H Q h => fn_read hr h
theorem qfnT {x : Str} {p : Pos} {es : List Expr} {id : String} {r : List V → Hp → VK → Prop} {g : List T → Option Od} {m : SemA} (hc : CallR X (.type id) r) (hr : DoesN X.K r g) (hg : Gl X x) (hm : X.mg x = none) (hv : bootBuiltins x = some (.type id)) (ha : QA X W (a :: es) m)
    (hn : x ≠ "__name__" := by decide) (hdb : (x == ("__debug__" : Str)) = false := by decide)
    (he : starEach (a :: es) X.env = (false, eval a X.env) :: starEach es X.env := by rfl) (hpl : (backTo pos (starEach es X.env)).any (·.1) = false := by rfl) : QE X W (.Call (.Name x p) (a :: es) [] pos) (eFn g m) :=
  pe_mono (pe_callTy hc hg hm hv ha hn hdb he hpl) fun σ H Q h => fn_read hr h

/-! ### what a value becomes where it is kept in something else -/
def esc : Od → En → Option (T × En)
  | .r t, e => some (t, e)
  | .b z, e => match z.tr with
    | some t => some (t, e)
    | none => none
  | .s i, e => match e[i]? with
    | some (.v t) => some (t, e)
    | some (.fz z) => some (z.t, e)
    | some (.ow l z) => (match z.tr with
      | some t => some (t, e.set i (if l then .fz z else .v t))
      | none => none)
    | _ => none
theorem esc_own {K : PySem.W.Frag} {σ : Sg} {e : En} {F H : Hp} {i : Nat} {l : Bool} {z : Bx} {t : T} {x : V} (R : Rel K e σ F H) (h1 : e[i]? = some (.ow l z)) (h2 : σ[i]? = some (some x)) (hz : z.tr = some t) :
    ∃ F', Rel K (e.set i (if l then .fz z else .v t)) σ F' H ∧ Step e (e.set i (if l then .fz z else .v t)) σ F H F' H ∧ Dp K F' x t ∧ ∀ a, F' a = F a ∨ x = .ref a := by
  obtain ⟨p, ex, hf, bx⟩ := R.at_ i _ _ h1 h2
  cases ex
  cases z with
  | d _ => cases hz
  | m _ => cases hz
  | n _ => cases hz
  | l ts =>
    cases hz
    obtain ⟨xs, hx, d⟩ := bx
    have hi : i < e.length := (List.getElem?_eq_some_iff.mp h1).1
    have ff : ∀ a u, F a = some u → upd F p (.lst xs) a = some u := fun a u h => by rw [upd_ne (ne_of_none h hf)]; exact h
    have dx : Dp K (upd F p (.lst xs)) (.ref p) (.list ts) := .lst (SqL.of upd_same) (dpAll_mono ff d)
    have get : ∀ (j : Nat) (s : Sl), (e.set i (if l then .fz (.l ts) else .v (.list ts)))[j]? = some s → (j = i ∧ s = (if l then .fz (.l ts) else .v (.list ts))) ∨ (j ≠ i ∧ e[j]? = some s) := fun j s h => by
      by_cases q : i = j
      · subst q; rw [List.getElem?_set_self hi] at h; cases h; exact .inl ⟨rfl, rfl⟩
      · rw [List.getElem?_set_ne q] at h; exact .inr ⟨fun z => q z.symm, h⟩
    have notow : ∀ l' b', (if l then (Sl.fz (.l ts)) else .v (.list ts)) ≠ .ow l' b' := fun l' b' q => by cases l <;> cases q
    have own : ∀ a, Own (e.set i (if l then .fz (.l ts) else .v (.list ts))) σ a → Own e σ a := fun a ⟨j, l', b', g1, g2⟩ => by
      rcases get j _ g1 with ⟨_, q⟩ | ⟨_, q⟩
      · exact absurd q.symm (notow _ _)
      · exact ⟨j, l', b', q, g2⟩
    refine ⟨upd F p (.lst xs), ⟨fun a u h => ?_, by rw [List.length_set]; exact R.len, fun j s u g1 g2 => ?_, fun j k l1 b1 l2 b2 q g1 g2 g3 g4 => ?_⟩, ⟨ff, fun a u h n => ⟨h, fun z => ?_⟩, fun a u h => ⟨u, h⟩, own, fun j hj => ?_, fun j l' b' h => ?_⟩, dx, fun a => ?_⟩
    · by_cases q : a = p
      · subst q; rw [upd_same] at h; cases h; exact hx
      · rw [upd_ne q] at h; exact R.sub _ _ h
    · rcases get j s g1 with ⟨rfl, rfl⟩ | ⟨nj, q⟩
      · rw [h2] at g2; cases g2
        cases l with
        | true => exact ⟨_, rfl, dx⟩
        | false => exact ⟨_, rfl, dx⟩
      · have z := R.at_ j s u q g2
        cases s with
        | un => trivial
        | v t => obtain ⟨y, ey, d⟩ := z; exact ⟨y, ey, dp_mono ff _ _ d⟩
        | fz b => obtain ⟨y, ey, d⟩ := z; exact ⟨y, ey, dp_mono ff _ _ d⟩
        | ow l' b =>
          obtain ⟨p', ey, hf', bx'⟩ := z
          subst ey
          have np : p' ≠ p := fun z => by subst z; exact nj (R.ne j i l' b l (.l ts) p' q h1 g2 h2)
          exact ⟨p', rfl, by rw [upd_ne np]; exact hf', bx_keep bx' ff fun _ h => h⟩
    · rcases get j _ g1 with ⟨_, q'⟩ | ⟨_, g1'⟩
      · exact absurd q'.symm (notow _ _)
      · rcases get k _ g2 with ⟨_, q'⟩ | ⟨_, g2'⟩
        · exact absurd q'.symm (notow _ _)
        · exact R.ne j k l1 b1 l2 b2 q g1' g2' g3 g4
    · have np : a ≠ p := fun z => n ⟨i, l, .l ts, h1, by rw [h2, z]⟩
      rw [upd_ne np]; exact z
    · obtain ⟨b', q⟩ := hj
      by_cases qi : i = j
      · subst qi
        rw [h1] at q
        rcases q with q | q
        · cases q; exact ⟨.l ts, .inr (by rw [List.getElem?_set_self hi]; rfl)⟩
        · cases q
      · exact ⟨b', by rw [List.getElem?_set_ne qi]; exact q⟩
    · rcases get j _ h with ⟨_, q⟩ | ⟨_, q⟩
      · exact absurd q.symm (notow _ _)
      · exact ⟨b', q⟩
    · by_cases q : a = p
      · exact .inr (by rw [q])
      · exact .inl (upd_ne q)
theorem ods_grow {K : PySem.W.Frag} {σ : Sg} {Hs F F' H : Hp} (ff : ∀ a o, F a = some o → F' a = some o) : ∀ {rs : List Od} {xs : List V}, OdsR K σ Hs F H rs xs → (∀ (p : Addr) (j : Nat) (z : Bx), rs[j]? = some (.b z) → xs[j]? = some (.ref p) → Hs p = none → F' p = F p) → OdsR K σ Hs F' H rs xs
  | _, _, .nil, _ => .nil
  | _, _, .cons (r := r) a b n, k => by
    refine .cons ?_ (ods_grow ff b fun p j z h1 h2 => k p (j + 1) z (by simpa using h1) (by simpa using h2)) n
    cases r with
    | r t => exact dp_mono ff _ _ a
    | s i => exact a
    | b z =>
      obtain ⟨p, rfl, hn, hf, bx⟩ := a
      exact ⟨p, rfl, hn, by rw [k p 0 z rfl rfl hn]; exact hf, bx_keep bx ff fun _ h => h⟩
theorem esc_ok {K : PySem.W.Frag} {σ : Sg} {e0 e e' : En} {F0 H0 F H : Hp} {x : V} {r : Od} {t : T} (R0 : Rel K e0 σ F0 H0) (R : Rel K e σ F H) (S : Step e0 e σ F0 H0 F H) (O : OdR K σ H0 F H x r) (h : esc r e = some (t, e')) :
    ∃ F', Rel K e' σ F' H ∧ Step e0 e' σ F0 H0 F' H ∧ Dp K F' x t ∧ (∀ a o, F a = some o → F' a = some o) ∧ ∀ a, F' a = F a ∨ (x = .ref a ∧ ((∃ z, r = .b z) ∨ Own e σ a)) := by
  cases r with
  | r u => cases h; exact ⟨F, R, S, O, fun _ _ h => h, fun a => .inl rfl⟩
  | b z =>
    obtain ⟨p, rfl, hn, hf, bx⟩ := O
    simp only [esc] at h
    cases q : z.tr with
    | none => rw [q] at h; cases h
    | some u =>
      rw [q] at h; cases h
      cases z with
      | d _ => cases q
      | m _ => cases q
      | n _ => cases q
      | l ts =>
        cases q
        obtain ⟨xs, hx, d⟩ := bx
        have ff : ∀ a u, F a = some u → upd F p (.lst xs) a = some u := fun a u h => by rw [upd_ne (ne_of_none h hf)]; exact h
        refine ⟨upd F p (.lst xs), frz_rel R hx (fresh_not_own R0 S hn) hf, frz_step S hn hf, .lst (SqL.of upd_same) (dpAll_mono ff d), ff, fun a => ?_⟩
        by_cases q : a = p
        · subst q; exact .inr ⟨rfl, .inl ⟨_, rfl⟩⟩
        · exact .inl (upd_ne q)
  | s i =>
    have O : σ[i]? = some (some x) := O
    simp only [esc] at h
    cases q : e[i]? with
    | none => rw [q] at h; cases h
    | some s =>
      rw [q] at h
      have z := R.at_ i s _ q O
      cases s with
      | un => cases h
      | v u => cases h; obtain ⟨y, ey, d⟩ := z; cases ey; exact ⟨F, R, S, d, fun _ _ h => h, fun a => .inl rfl⟩
      | fz u => cases h; obtain ⟨y, ey, d⟩ := z; cases ey; exact ⟨F, R, S, d, fun _ _ h => h, fun a => .inl rfl⟩
      | ow l b =>
        cases q2 : b.tr with
        | none => simp only [q2] at h; cases h
        | some u =>
          simp only [q2] at h
          cases h
          obtain ⟨F', R', S', d', only⟩ := esc_own R q O q2
          exact ⟨F', R', S.trans S', d', S'.ff, fun a => (only a).imp id fun ea => ⟨ea, .inr ⟨i, l, b, q, by rw [O, ea]⟩⟩⟩
def escs : List Od → En → Option (List T × En)
  | [], e => some ([], e)
  | r :: rs, e => match esc r e with
    | some (t, e1) => (match escs rs e1 with
      | some (ts, e2) => some (t :: ts, e2)
      | none => none)
    | none => none
theorem escs_ok {K : PySem.W.Frag} {σ : Sg} {e0 : En} {F0 H0 H : Hp} (R0 : Rel K e0 σ F0 H0) : ∀ {rs : List Od} {xs : List V} {ts : List T} {e e' : En} {F : Hp}, Rel K e σ F H → Step e0 e σ F0 H0 F H → OdsR K σ H0 F H rs xs → escs rs e = some (ts, e') →
    ∃ F', Rel K e' σ F' H ∧ Step e0 e' σ F0 H0 F' H ∧ DpAll K F' xs ts ∧ ∀ a o, F a = some o → F' a = some o
  | [], _, _, _, _, F, R, S, .nil, h => by cases h; exact ⟨F, R, S, .nil, fun _ _ h => h⟩
  | r :: rs, _, _, e, _, F, R, S, .cons (x := x) (xs := xs) a b n, h => by
    unfold escs at h
    cases q : esc r e with
    | none => rw [q] at h; cases h
    | some te =>
      obtain ⟨t, e1⟩ := te
      simp only [q] at h
      cases q2 : escs rs e1 with
      | none => rw [q2] at h; cases h
      | some te2 =>
        obtain ⟨ts, e2⟩ := te2
        simp only [q2] at h
        cases h
        obtain ⟨F1, R1, S1, d1, ff1, only⟩ := esc_ok R0 R S a q
        have b1 : OdsR K σ H0 F1 H rs xs := ods_grow ff1 b fun p j z hj hx hn => by
          rcases only p with e | ⟨ex, e | e⟩
          · exact e
          · obtain ⟨z', e'⟩ := e
            exact absurd hx (n z' p e' ex j z hj)
          · exact absurd (S.own _ e) (fun w => by obtain ⟨_, o, q⟩ := R0.owned w; rw [hn] at q; cases q)
        obtain ⟨F2, R2, S2, d2, ff2⟩ := escs_ok R0 R1 S1 b1 q2
        exact ⟨F2, R2, S2, .cons (dp_mono ff2 _ _ d1) d2, fun a o h => ff2 _ _ (ff1 _ _ h)⟩
end
end Ev

set_option Elab.async false
set_option linter.all false
set_option maxRecDepth 100000
namespace Ev
open PySem PySem.Spec PyProof.Rows L2
section
variable {X : Cx} {W : WX} {a b c : Expr} {ma mb mc : SemE} {pos : Pos}
/-! ### displays -/
def eDisp (k : List T → Od) (m : SemA) : SemE := fun e => (m e).bind fun rs e1 => match escs rs e1 with
  | some (ts, e2) => if ts.length ≤ sizeLine then .ok (k ts) e2 else .bad
  | none => .bad
def eTup (m : SemA) : SemE := eDisp (fun ts => .r (.tuple ts)) m
def eLst (m : SemA) : SemE := eDisp (fun ts => .b (.l ts)) m
theorem qtup {es : List Expr} {k : Nat} {m : SemA} (h : QA X W es m) : QE X W (.Tuple es k pos) (eTup m) := by
  refine pe_mono (pe_tup h) fun σ H Q h => ?_
  obtain ⟨e, F, R, h⟩ := h
  refine tX_imp (tX_bind (rel := fun σ Hs F H xs rs => OdsR X.K σ Hs F H rs xs) R .refl h) fun xs H1 ⟨rs, e1, F1, R1, S1, O1, h1⟩ => ?_
  cases q : escs rs e1 with
  | none => simp only [q] at h1; exact h1.elim
  | some te =>
    obtain ⟨ts, e2⟩ := te
    simp only [q] at h1
    obtain ⟨F2, R2, S2, d2, _⟩ := escs_ok R R1 S1 O1 q
    by_cases hl : ts.length ≤ sizeLine
    · rw [if_pos hl] at h1
      refine ⟨by rw [dpAll_len d2]; exact hl, fun p hp => ?_⟩
      exact (fin_of R2 S2 h1 True.intro).2 ts p xs rfl hp d2
    · rw [if_neg hl] at h1; exact h1.elim
theorem qlst {es : List Expr} {m : SemA} (h : QA X W es m) : QE X W (.List es pos) (eLst m) := by
  refine pe_mono (pe_lst h) fun σ H Q h => ?_
  obtain ⟨e, F, R, h⟩ := h
  refine tX_imp (tX_bind (rel := fun σ Hs F H xs rs => OdsR X.K σ Hs F H rs xs) R .refl h) fun xs H1 ⟨rs, e1, F1, R1, S1, O1, h1⟩ => ?_
  cases q : escs rs e1 with
  | none => simp only [q] at h1; exact h1.elim
  | some te =>
    obtain ⟨ts, e2⟩ := te
    simp only [q] at h1
    obtain ⟨F2, R2, S2, d2, _⟩ := escs_ok R R1 S1 O1 q
    by_cases hl : ts.length ≤ sizeLine
    · rw [if_pos hl] at h1
      refine ⟨by rw [dpAll_len d2]; exact hl, fun p hp => ?_⟩
      exact (fin_of R2 S2 h1 True.intro : Fin X.K F2 H1 Q (.b (.l ts))) p xs hp d2
    · rw [if_neg hl] at h1; exact h1.elim

/-! ### a call of a def -/
abbrev FSem := List Sl → Out Od
/-- what a def is asked to do -/
def spF (K : PySem.W.Frag) (n : Nat) (m : FSem) : Sp := fun vs H Q E => vs.length = n ∧ tX K (fun cls d _ H' => E cls d H') (fun σ => OdR K σ) m (vs.map some) H Q
def toSl (e : En) : Od → Option Sl
  | .r t => some (.v t)
  | .b z => some (.ow true z)
  | .s i => match e[i]? with
    | some (.v t) => some (.v t)
    | some (.fz z) => some (.v z.t)
    | some (.ow _ z) => some (.ow true z)
    | _ => none
def toSls (e : En) : List Od → Option (List Sl)
  | [] => some []
  | r :: rs => match toSl e r, toSls e rs with
    | some s, some ss => some (s :: ss)
    | _, _ => none
def sIdx : List Od → List Nat
  | [] => []
  | .s i :: rs => i :: sIdx rs
  | _ :: rs => sIdx rs
def bk (l : Bool) : Sl → Sl
  | .ow _ z => .ow l z
  | .fz z => if l then .fz z else .v z.t
  | s => s
/-- what the callee did with what names hold -/
def wb : List Od → List Sl → En → En
  | .s i :: rs, s :: ss, e => wb rs ss (match e[i]? with
    | some (.ow l _) => e.set i (bk l s)
    | _ => e)
  | _ :: rs, _ :: ss, e => wb rs ss e
  | _, _, e => e
theorem wb_len : ∀ (rs : List Od) (ss : List Sl) (e : En), (wb rs ss e).length = e.length
  | [], _, _ => rfl
  | .s i :: rs, [], _ => rfl
  | .r _ :: rs, [], _ => rfl
  | .b _ :: rs, [], _ => rfl
  | .r _ :: rs, _ :: ss, e => wb_len rs ss e
  | .b _ :: rs, _ :: ss, e => wb_len rs ss e
  | .s i :: rs, s :: ss, e => by
    unfold wb
    rw [wb_len rs ss]
    split <;> simp
theorem wb_out {k : Nat} : ∀ (rs : List Od) (ss : List Sl) (e : En), (∀ l z, e[k]? = some (.ow l z) → Od.s k ∉ rs) → (wb rs ss e)[k]? = e[k]?
  | [], _, _, _ => rfl
  | .s i :: rs, [], _, _ => rfl
  | .r _ :: rs, [], _, _ => rfl
  | .b _ :: rs, [], _, _ => rfl
  | .r _ :: rs, _ :: ss, e, h => wb_out rs ss e fun l z q m => h l z q (List.mem_cons_of_mem _ m)
  | .b _ :: rs, _ :: ss, e, h => wb_out rs ss e fun l z q m => h l z q (List.mem_cons_of_mem _ m)
  | .s i :: rs, s :: ss, e, h => by
    unfold wb
    by_cases q : i = k
    · subst q
      have n : ∀ l z, e[i]? ≠ some (.ow l z) := fun l z q => h l z q List.mem_cons_self
      have e1 : (match e[i]? with
        | some (.ow l _) => e.set i (bk l s)
        | _ => e) = e := by
        cases w : e[i]? with
        | none => rfl
        | some y =>
          cases y with
          | ow l z => exact absurd w (n l z)
          | un => rfl
          | v _ => rfl
          | fz _ => rfl
      rw [e1]
      exact wb_out rs ss e fun l z q => absurd q (n l z)
    · have e1 : (match e[i]? with
        | some (.ow l _) => e.set i (bk l s)
        | _ => e)[k]? = e[k]? := by
        split
        · rw [List.getElem?_set_ne q]
        · rfl
      rw [wb_out rs ss _ fun l z w m => h l z (by rw [e1] at w; exact w) (List.mem_cons_of_mem _ m)]
      exact e1
theorem mem_sIdx {k : Nat} : ∀ {rs : List Od}, Od.s k ∈ rs → k ∈ sIdx rs
  | [], h => by cases h
  | .s i :: rs, h => by
    rcases List.mem_cons.mp h with h | h
    · cases h; exact List.mem_cons_self
    · exact List.mem_cons_of_mem _ (mem_sIdx h)
  | .r _ :: rs, h => by
    rcases List.mem_cons.mp h with h | h
    · cases h
    · exact mem_sIdx (rs := rs) h
  | .b _ :: rs, h => by
    rcases List.mem_cons.mp h with h | h
    · cases h
    · exact mem_sIdx (rs := rs) h
theorem wb_in {k : Nat} {l : Bool} {z : Bx} : ∀ {rs : List Od} {ss : List Sl} {e : En} {j : Nat} {s : Sl}, (sIdx rs).Nodup → rs[j]? = some (.s k) → ss[j]? = some s → e[k]? = some (.ow l z) → (wb rs ss e)[k]? = some (bk l s)
  | [], _, _, _, _, _, h, _, _ => by simp at h
  | _ :: _, [], _, _, _, _, _, h, _ => by simp at h
  | .s i :: rs, s' :: ss, e, 0, s, nd, h1, h2, h3 => by
    simp at h1 h2
    subst h1 h2
    unfold wb
    rw [h3]
    have hk : i < e.length := (List.getElem?_eq_some_iff.mp h3).1
    rw [wb_out]
    · exact List.getElem?_set_self hk
    · intro _ _ _ m
      exact (List.nodup_cons.mp nd).1 (mem_sIdx m)
  | .r _ :: rs, s' :: ss, e, 0, s, nd, h1, h2, h3 => by simp at h1
  | .b _ :: rs, s' :: ss, e, 0, s, nd, h1, h2, h3 => by simp at h1
  | .r _ :: rs, s' :: ss, e, j + 1, s, nd, h1, h2, h3 => wb_in (rs := rs) (j := j) nd (by simpa using h1) (by simpa using h2) h3
  | .b _ :: rs, s' :: ss, e, j + 1, s, nd, h1, h2, h3 => wb_in (rs := rs) (j := j) nd (by simpa using h1) (by simpa using h2) h3
  | .s i :: rs, s' :: ss, e, j + 1, s, nd, h1, h2, h3 => by
    unfold wb
    have hm : Od.s k ∈ rs := List.mem_of_getElem? (i := j) (by simpa using h1)
    have hik : i ≠ k := fun q => by subst q; exact (List.nodup_cons.mp nd).1 (mem_sIdx hm)
    refine wb_in (z := z) (rs := rs) (ss := ss) (j := j) (List.nodup_cons.mp nd).2 (by simpa using h1) (by simpa using h2) ?_
    split
    · rw [List.getElem?_set_ne hik]; exact h3
    · exact h3
/-- a call: what is handed over, what comes back -/
def eCallR (m : FSem) (rs : List Od) (e1 : En) : Out Od := match toSls e1 rs with
  | some ss => if (sIdx rs).Nodup then (match m ss with
    | .ok (.s _) _ => .bad
    | .ok r ss' => .ok r (wb rs ss' e1)
    | .exc c t ss' => .exc c t (wb rs ss' e1)
    | .bad => .bad) else .bad
  | none => .bad
def eCall (n : Nat) (m : FSem) (ma : SemA) : SemE := fun e => (ma e).bind fun rs e1 => if rs.length = n then eCallR m rs e1 else .bad
theorem toSls_get {e : En} : ∀ {rs : List Od} {ss : List Sl}, toSls e rs = some ss → rs.length = ss.length ∧ ∀ (j : Nat) (s : Sl), ss[j]? = some s → ∃ r, rs[j]? = some r ∧ toSl e r = some s
  | [], _, h => by cases h; exact ⟨rfl, fun j s h => by simp at h⟩
  | r :: rs, _, h => by
    unfold toSls at h
    cases q : toSl e r with
    | none => rw [q] at h; cases h
    | some s =>
      cases q2 : toSls e rs with
      | none => rw [q, q2] at h; cases h
      | some ss =>
        rw [q, q2] at h; cases h
        obtain ⟨l, g⟩ := toSls_get q2
        refine ⟨by simp [l], fun j s' hj => ?_⟩
        cases j with
        | zero => simp at hj; subst hj; exact ⟨r, rfl, q⟩
        | succ j => simpa using g j s' (by simpa using hj)
theorem ods_len {K : PySem.W.Frag} {σ : Sg} {Hs F H : Hp} : ∀ {rs : List Od} {xs : List V}, OdsR K σ Hs F H rs xs → rs.length = xs.length
  | _, _, .nil => rfl
  | _, _, .cons a b _ => by simp [ods_len b]
theorem ods_get {K : PySem.W.Frag} {σ : Sg} {Hs F H : Hp} : ∀ {rs : List Od} {xs : List V} {j : Nat} {r : Od}, OdsR K σ Hs F H rs xs → rs[j]? = some r → ∃ x, xs[j]? = some x ∧ OdR K σ Hs F H x r
  | _, _, _, _, .nil, h => by simp at h
  | _, _, 0, _, .cons a b _, h => by simp at h; subst h; exact ⟨_, rfl, a⟩
  | _, _, j + 1, _, .cons a b _, h => by simpa using ods_get b (by simpa using h)
theorem ods_ne {K : PySem.W.Frag} {σ : Sg} {Hs F H : Hp} {p : Addr} {z z' : Bx} : ∀ {rs : List Od} {xs : List V} {i j : Nat}, OdsR K σ Hs F H rs xs → rs[i]? = some (.b z) → rs[j]? = some (.b z') → xs[i]? = some (.ref p) → xs[j]? = some (.ref p) → i = j
  | _, _, _, _, .nil, h, _, _, _ => by simp at h
  | _, _, 0, 0, .cons a b n, _, _, _, _ => rfl
  | _, _, 0, j + 1, .cons a b n, h1, h2, h3, h4 => by
    simp at h1 h3
    exact absurd (by simpa using h4) (n z p h1 h3 j z' (by simpa using h2))
  | _, _, i + 1, 0, .cons a b n, h1, h2, h3, h4 => by
    simp at h2 h4
    exact absurd (by simpa using h3) (n z' p h2 h4 i z (by simpa using h1))
  | _, _, i + 1, j + 1, .cons a b n, h1, h2, h3, h4 => by rw [ods_ne (i := i) (j := j) b (by simpa using h1) (by simpa using h2) (by simpa using h3) (by simpa using h4)]
theorem s_inj {k : Nat} : ∀ {rs : List Od} {i j : Nat}, (sIdx rs).Nodup → rs[i]? = some (.s k) → rs[j]? = some (.s k) → i = j
  | [], _, _, _, h, _ => by simp at h
  | _ :: _, 0, 0, _, _, _ => rfl
  | .s m :: rs, 0, j + 1, nd, h1, h2 => by
    simp at h1; subst h1
    exact absurd (mem_sIdx (List.mem_of_getElem? (i := j) (by simpa using h2))) (List.nodup_cons.mp nd).1
  | .s m :: rs, i + 1, 0, nd, h1, h2 => by
    simp at h2; subst h2
    exact absurd (mem_sIdx (List.mem_of_getElem? (i := i) (by simpa using h1))) (List.nodup_cons.mp nd).1
  | .r _ :: rs, 0, j + 1, nd, h1, h2 => by simp at h1
  | .b _ :: rs, 0, j + 1, nd, h1, h2 => by simp at h1
  | .r _ :: rs, i + 1, 0, nd, h1, h2 => by simp at h2
  | .b _ :: rs, i + 1, 0, nd, h1, h2 => by simp at h2
  | .s m :: rs, i + 1, j + 1, nd, h1, h2 => by rw [s_inj (rs := rs) (i := i) (j := j) (List.nodup_cons.mp nd).2 (by simpa using h1) (by simpa using h2)]
  | .r _ :: rs, i + 1, j + 1, nd, h1, h2 => by rw [s_inj (rs := rs) (i := i) (j := j) nd (by simpa using h1) (by simpa using h2)]
  | .b _ :: rs, i + 1, j + 1, nd, h1, h2 => by rw [s_inj (rs := rs) (i := i) (j := j) nd (by simpa using h1) (by simpa using h2)]
theorem map_some_get {xs : List V} {j : Nat} {o : Option V} (h : (xs.map some)[j]? = some o) : ∃ x, o = some x ∧ xs[j]? = some x := by
  rw [List.getElem?_map] at h
  cases q : xs[j]? with
  | none => rw [q] at h; cases h
  | some x => rw [q] at h; cases h; exact ⟨x, rfl, rfl⟩
/-- what is handed over, as the callee sees it -/
theorem args_rel {K : PySem.W.Frag} {σ : Sg} {e0 e : En} {F0 H0 F H : Hp} {rs : List Od} {xs : List V} {ss : List Sl} (R0 : Rel K e0 σ F0 H0) (R : Rel K e σ F H) (S : Step e0 e σ F0 H0 F H) (O : OdsR K σ H0 F H rs xs) (hs : toSls e rs = some ss) (nd : (sIdx rs).Nodup) :
    Rel K ss (xs.map some) F H ∧ ∀ p, Own ss (xs.map some) p → Own e σ p ∨ H0 p = none := by
  obtain ⟨hl, g⟩ := toSls_get hs
  have cases_ow : ∀ (j : Nat) (l : Bool) (z : Bx) (p : Addr), ss[j]? = some (.ow l z) → (xs.map some)[j]? = some (some (.ref p)) → xs[j]? = some (.ref p) ∧ ((∃ z', rs[j]? = some (.b z') ∧ H0 p = none) ∨ ∃ i l' z', rs[j]? = some (.s i) ∧ e[i]? = some (.ow l' z') ∧ σ[i]? = some (some (.ref p))) := by
    intro j l z p h1 h2
    obtain ⟨r, hr, ht⟩ := g j _ h1
    obtain ⟨x, ex, hx⟩ := map_some_get h2
    cases ex
    refine ⟨hx, ?_⟩
    obtain ⟨x', hx', o⟩ := ods_get O hr
    rw [hx] at hx'; cases hx'
    cases r with
    | r t => cases ht
    | b z' =>
      obtain ⟨p', ep, hn, _⟩ := o
      cases ep
      exact .inl ⟨z', hr, hn⟩
    | s i =>
      simp only [toSl] at ht
      cases q : e[i]? with
      | none => rw [q] at ht; cases ht
      | some y =>
        rw [q] at ht
        cases y with
        | un => cases ht
        | v _ => cases ht
        | fz _ => cases ht
        | ow l' z' => exact .inr ⟨i, l', z', hr, q, o⟩
  refine ⟨⟨R.sub, by rw [List.length_map, ← hl, ods_len O], fun j s o h1 h2 => ?_, fun i j l b l' b' p h1 h2 h3 h4 => ?_⟩, fun p ⟨j, l, z, h1, h2⟩ => ?_⟩
  · obtain ⟨r, hr, ht⟩ := g j _ h1
    obtain ⟨x, ex, hx⟩ := map_some_get h2
    cases ex
    obtain ⟨x', hx', od⟩ := ods_get O hr
    rw [hx] at hx'; cases hx'
    cases r with
    | r t => cases ht; exact ⟨x, rfl, od⟩
    | b z =>
      cases ht
      obtain ⟨p, ep, _, hf, bx⟩ := od
      cases ep
      exact ⟨p, rfl, hf, bx⟩
    | s i =>
      simp only [toSl] at ht
      have od : σ[i]? = some (some x) := od
      cases q : e[i]? with
      | none => rw [q] at ht; cases ht
      | some y =>
        rw [q] at ht
        have z := R.at_ i y _ q od
        cases y with
        | un => cases ht
        | v _ => cases ht; exact z
        | fz _ => cases ht; exact z
        | ow l' z' => cases ht; exact z
  · obtain ⟨a1, c1⟩ := cases_ow i l b p h1 h3
    obtain ⟨a2, c2⟩ := cases_ow j l' b' p h2 h4
    rcases c1 with ⟨z1, r1, n1⟩ | ⟨i1, l1, z1, r1, e1, s1⟩
    · rcases c2 with ⟨z2, r2, n2⟩ | ⟨i2, l2, z2, r2, e2, s2⟩
      · exact ods_ne O r1 r2 a1 a2
      · exact absurd ⟨i2, l2, z2, e2, s2⟩ (fresh_not_own R0 S n1)
    · rcases c2 with ⟨z2, r2, n2⟩ | ⟨i2, l2, z2, r2, e2, s2⟩
      · exact absurd ⟨i1, l1, z1, e1, s1⟩ (fresh_not_own R0 S n2)
      · have q := R.ne i1 i2 _ _ _ _ p e1 e2 s1 s2
        subst q
        exact s_inj nd r1 r2
  · obtain ⟨a1, c1⟩ := cases_ow j l z p h1 h2
    rcases c1 with ⟨z1, r1, n1⟩ | ⟨i1, l1, z1, r1, e1, s1⟩
    · exact .inr n1
    · exact .inl ⟨i1, l1, z1, e1, s1⟩
/-- behind a call -/
theorem back_rel {K : PySem.W.Frag} {σ : Sg} {e0 e : En} {F0 H0 F H F' H' : Hp} {rs : List Od} {xs : List V} {ss ss' : List Sl} (R0 : Rel K e0 σ F0 H0) (R : Rel K e σ F H) (S : Step e0 e σ F0 H0 F H) (O : OdsR K σ H0 F H rs xs) (hs : toSls e rs = some ss) (nd : (sIdx rs).Nodup)
    (R' : Rel K ss' (xs.map some) F' H') (S' : Step ss ss' (xs.map some) F H F' H') : Rel K (wb rs ss' e) σ F' H' ∧ Step e0 (wb rs ss' e) σ F0 H0 F' H' := by
  obtain ⟨RA, ow⟩ := args_rel R0 R S O hs nd
  obtain ⟨hl, g⟩ := toSls_get hs
  have hl' : ss'.length = rs.length := by rw [R'.len, List.length_map, ods_len O]
  -- each name: as it was, or as the callee left it
  have at2 : ∀ (k : Nat) (s : Sl), (wb rs ss' e)[k]? = some s → (e[k]? = some s ∧ ∀ l z, s = Sl.ow l z → Od.s k ∉ rs) ∨ ∃ (j : Nat) (l : Bool) (z : Bx) (s' : Sl) (x : V), rs[j]? = some (Od.s k) ∧ ss'[j]? = some s' ∧ e[k]? = some (Sl.ow l z) ∧ s = bk l s' ∧ ss[j]? = some (Sl.ow true z) ∧ (∃ z', s' = Sl.ow true z' ∨ s' = Sl.fz z') ∧ xs[j]? = some x ∧ σ[k]? = some (some x) := by
    intro k s h
    by_cases c : ∃ l z, e[k]? = some (.ow l z) ∧ Od.s k ∈ rs
    · obtain ⟨l, z, c1, c2⟩ := c
      obtain ⟨j, hj⟩ := List.getElem?_of_mem c2
      have hjl : j < ss'.length := by rw [hl']; exact (List.getElem?_eq_some_iff.mp hj).1
      have hj2 : ss'[j]? = some ss'[j] := List.getElem?_eq_getElem hjl
      rw [wb_in nd hj hj2 c1] at h
      cases h
      have hss : ss[j]? = some (.ow true z) := by
        have hjl2 : j < ss.length := by rw [← hl]; exact (List.getElem?_eq_some_iff.mp hj).1
        obtain ⟨r, hr, ht⟩ := g j _ (List.getElem?_eq_getElem hjl2)
        rw [hj] at hr; cases hr
        simp only [toSl, c1] at ht
        cases ht'' : ss[j]
        all_goals rw [ht''] at ht
        all_goals cases ht
        rw [List.getElem?_eq_getElem hjl2, ht'']
      obtain ⟨b', hb⟩ := S'.lt j ⟨z, .inl hss⟩
      obtain ⟨x, hx, od⟩ := ods_get O hj
      refine .inr ⟨j, l, z, _, x, hj, hj2, c1, rfl, hss, ⟨b', ?_⟩, hx, od⟩
      rw [hj2] at hb
      rcases hb with hb | hb
      · exact .inl (Option.some.inj hb)
      · exact .inr (Option.some.inj hb)
    · rw [wb_out rs ss' e fun l z q m => c ⟨l, z, q, m⟩] at h
      exact .inl ⟨h, fun l z q m => c ⟨l, z, by rw [h, q], m⟩⟩
  have own2 : ∀ (k : Nat) (l : Bool) (b : Bx), (wb rs ss' e)[k]? = some (Sl.ow l b) → ∃ l' b', e[k]? = some (Sl.ow l' b') := fun k l b h => by
    rcases at2 k _ h with ⟨h, _⟩ | ⟨j, l1, z, s', x, _, _, h, _⟩
    · exact ⟨l, b, h⟩
    · exact ⟨l1, z, h⟩
  have own : ∀ p, Own (wb rs ss' e) σ p → Own e σ p := fun p ⟨k, l, b, h1, h2⟩ => by
    obtain ⟨l', b', h⟩ := own2 k l b h1
    exact ⟨k, l', b', h, h2⟩
  refine ⟨⟨R'.sub, by rw [wb_len]; exact R.len, fun k s o h1 h2 => ?_, fun i j l b l' b' p h1 h2 h3 h4 => ?_⟩, ⟨fun a o h => S'.ff _ _ (S.ff _ _ h), fun a o h n => ?_, fun a o h => ?_, fun p h => S.own _ (own p h), fun i hi => ?_, fun i l b h => ?_⟩⟩
  · rcases at2 k s h1 with ⟨h, no⟩ | ⟨j, l, z, s', x, hr, hs', he, es, hss, lent, hx, hσ⟩
    · have q := R.at_ k s o h h2
      cases s with
      | un => trivial
      | v t => obtain ⟨y, ey, d⟩ := q; exact ⟨y, ey, dp_mono S'.ff _ _ d⟩
      | fz b => obtain ⟨y, ey, d⟩ := q; exact ⟨y, ey, dp_mono S'.ff _ _ d⟩
      | ow l b =>
        obtain ⟨p, ep, hf, bx⟩ := q
        subst ep
        obtain ⟨u, hu⟩ := bx_some bx
        have na : ¬ Own ss (xs.map some) p := fun ⟨j, l1, z1, g1, g2⟩ => by
          obtain ⟨r, hr, ht⟩ := g j _ g1
          obtain ⟨x, ex, hx⟩ := map_some_get g2
          cases ex
          obtain ⟨x', hx', od⟩ := ods_get O hr
          rw [hx] at hx'; cases hx'
          cases r with
          | r t => cases ht
          | b z' =>
            obtain ⟨p', ep, hn, _⟩ := od
            cases ep
            exact fresh_not_own R0 S hn ⟨k, l, b, h, h2⟩
          | s i =>
            simp only [toSl] at ht
            cases q : e[i]? with
            | none => rw [q] at ht; cases ht
            | some y =>
              rw [q] at ht
              cases y with
              | un => cases ht
              | v _ => cases ht
              | fz _ => cases ht
              | ow l' z' =>
                have ik := R.ne i k _ _ _ _ p q h od h2
                subst ik
                exact no l b rfl (List.mem_of_getElem? hr)
        obtain ⟨k1, k2⟩ := S'.keep p u hu na
        exact ⟨p, rfl, k2 hf, bx_keep bx S'.ff fun o' h' => by rw [hu] at h'; cases h'; exact k1⟩
    · rw [hσ] at h2; cases h2
      have q := R'.at_ j s' (some x) hs' (by rw [List.getElem?_map, hx]; rfl)
      subst es
      obtain ⟨z', lent⟩ := lent
      rcases lent with e' | e'
      · subst e'; exact q
      · subst e'
        cases l with
        | true => exact q
        | false => exact q
  · obtain ⟨l1, b1, q1⟩ := own2 i _ _ h1
    obtain ⟨l2, b2, q2⟩ := own2 j _ _ h2
    exact R.ne i j _ _ _ _ p q1 q2 h3 h4
  · obtain ⟨k1, k2⟩ := S.keep a o h n
    have na : ¬ Own ss (xs.map some) a := fun z => by
      rcases ow a z with z | z
      · exact n (S.own _ z)
      · rw [h] at z; cases z
    obtain ⟨k3, k4⟩ := S'.keep a o k1 na
    exact ⟨k3, fun z => k4 (k2 z)⟩
  · obtain ⟨o1, h1⟩ := S.dom a o h
    exact S'.dom a o1 h1
  · obtain ⟨b, hb⟩ := S.lt i hi
    rcases hb with hb | hb
    · by_cases m : Od.s i ∈ rs
      · obtain ⟨j, hj⟩ := List.getElem?_of_mem m
        have hjl : j < ss'.length := by rw [hl']; exact (List.getElem?_eq_some_iff.mp hj).1
        have w := wb_in nd hj (List.getElem?_eq_getElem hjl) hb
        rcases at2 i _ w with ⟨h, no⟩ | ⟨j', l, z, s', x, hr, hs', he, es, hss, ⟨z', lent⟩, hx, hσ⟩
        · exact ⟨b, .inl (by rw [wb_in nd hj (List.getElem?_eq_getElem hjl) hb] at w ⊢; rw [← h, hb])⟩
        · rw [hb] at he; cases he
          rcases lent with e' | e'
          · subst e'; exact ⟨z', .inl (by rw [w, es]; rfl)⟩
          · subst e'; exact ⟨z', .inr (by rw [w, es]; rfl)⟩
      · exact ⟨b, .inl (by rw [wb_out rs ss' e fun _ _ _ m' => m m']; exact hb)⟩
    · exact ⟨b, .inr (by rw [wb_out rs ss' e fun l z q _ => by rw [hb] at q; cases q]; exact hb)⟩
  · rcases at2 i _ h with ⟨q, _⟩ | ⟨j, l1, z, s', x, _, _, q, es, _, ⟨z', lent⟩, _⟩
    · exact S.sk i l b q
    · rcases lent with e' | e'
      · subst e'; cases es; exact S.sk i l z q
      · subst e'
        cases l1 with
        | true => cases es
        | false => cases es
theorem call_read {n : Nat} {m : FSem} {ma : SemA} {K : PySem.W.Frag} {σ : Sg} {H : Hp} {Q : VK} (h : tE K W (eCall n m ma) σ H Q) : tA K W ma σ H fun vs H1 => spF K n m vs H1 Q (WE W σ) := by
  obtain ⟨e, F, R, h⟩ := h
  refine tX_imp (tX_bind (rel := fun σ Hs F H xs rs => OdsR K σ Hs F H rs xs) R .refl h) fun xs H1 ⟨rs, e1, F1, R1, S1, O1, h1⟩ => ?_
  by_cases hl : rs.length = n
  · rw [if_pos hl] at h1
    refine ⟨by rw [← ods_len O1]; exact hl, ?_⟩
    unfold eCallR at h1
    cases q : toSls e1 rs with
    | none => rw [q] at h1; exact h1.elim
    | some ss =>
      simp only [q] at h1
      by_cases nd : (sIdx rs).Nodup
      · rw [if_pos nd] at h1
        obtain ⟨RA, _⟩ := args_rel R R1 S1 O1 q nd
        refine ⟨ss, F1, RA, ?_⟩
        cases w : m ss with
        | bad => rw [w] at h1; exact h1
        | exc c t ss' =>
          rw [w] at h1
          exact fun F' H' cls d R' S' x => let ⟨a, b⟩ := back_rel R R1 S1 O1 q nd R' S'; h1 F' H' cls d a b x
        | ok r ss' =>
          rw [w] at h1
          intro x F' H' R' S' o
          obtain ⟨a, b⟩ := back_rel R R1 S1 O1 q nd R' S'
          cases r with
          | s i => exact h1.elim
          | r t => exact h1 x F' H' a b o
          | b z => obtain ⟨p, ep, hn, hf, bx⟩ := o; exact h1 x F' H' a b ⟨p, ep, step_none S1 hn, hf, bx⟩
      · rw [if_neg nd] at h1; exact h1.elim
  · rw [if_neg hl] at h1; exact h1.elim
theorem qcall {CX : CXT} {k : Nat} {f : Addr} {fd : FuncData} {ps : List Str} {m : FSem} {ma : SemA} {x : Str} {p : Pos} {es : List Expr} {n : Nat} (Fn : FnOk X.prog X.w X.K X.mg X.base CX k f fd ps (spF X.K n m)) (hr : Room k X.A) (hg : Gl X x) (hm : X.mg x = some (.ref f)) (hk : PySem.W.keepIn X.K (.ref f) = true)
    (hb : Binds X.K fd ps []) (hx : ∀ σ, PassesAt CX X σ (WE W σ)) (ha : QA X W (a :: es) ma) (hdb : (x == ("__debug__" : Str)) = false := by decide) (he : starEach (a :: es) X.env = (false, eval a X.env) :: starEach es X.env := by rfl)
    (hpl : (backTo pos (starEach es X.env)).any (·.1) = false := by rfl) : QE X W (.Call (.Name x p) (a :: es) [] pos) (eCall n m ma) :=
  pe_mono (pe_callS (E := fun σ => WE W σ) Fn hr hg hm hk hb hx ha hdb he hpl) fun σ H Q h => call_read h
end
end Ev

set_option Elab.async false
set_option linter.all false
set_option maxRecDepth 100000
namespace Ev
open PySem PySem.Spec PyProof.Rows L2
/-- the entry of the def whose body runs -/
structure Bd where
  e : En
  σ : Sg
  F : Hp
  H : Hp
structure BOk (B : Bd) (e : En) (σ : Sg) (F H : Hp) : Prop where
  ff : ∀ a o, B.F a = some o → F a = some o
  keep : ∀ a o, B.H a = some o → ¬ Own B.e B.σ a → H a = some o ∧ (B.F a = none → F a = none)
  dom : ∀ a o, B.H a = some o → ∃ o', H a = some o'
  fresh : ∀ (i : Nat) (b : Bx) (p : Addr), e[i]? = some (Sl.ow false b) → σ[i]? = some (some (V.ref p)) → B.H p = none
  own : ∀ (i : Nat) (b : Bx), e[i]? = some (Sl.ow true b) → σ[i]? = B.σ[i]? ∧ ∃ b', B.e[i]? = some (Sl.ow true b')
  lent : ∀ (i : Nat) (b : Bx), B.e[i]? = some (Sl.ow true b) → Lent e i ∧ σ[i]? = B.σ[i]?
section
variable {K : PySem.W.Frag} {W : WX} {B : Bd} {e e1 e2 : En} {σ σ1 : Sg} {F H F1 H1 F2 H2 : Hp}
theorem BOk.own' (k : BOk B e σ F H) {p : Addr} (h : Own e σ p) : Own B.e B.σ p ∨ B.H p = none := by
  obtain ⟨i, l, b, h1, h2⟩ := h
  cases l with
  | true => obtain ⟨q, b', q2⟩ := k.own i b h1; exact .inl ⟨i, true, b', q2, by rw [← q]; exact h2⟩
  | false => exact .inr (k.fresh i b p h1 h2)
theorem BOk.step (k : BOk B e σ F H) (S : Step e e1 σ F H F1 H1) : BOk B e1 σ F1 H1 where
  ff := fun a o h => S.ff _ _ (k.ff _ _ h)
  keep := fun a o h n => by
    obtain ⟨h1, h2⟩ := k.keep a o h n
    obtain ⟨h3, h4⟩ := S.keep a o h1 fun z => by
      rcases k.own' z with z | z
      · exact n z
      · rw [h] at z; cases z
    exact ⟨h3, fun z => h4 (h2 z)⟩
  dom := fun a o h => by
    obtain ⟨o1, h1⟩ := k.dom a o h
    exact S.dom a o1 h1
  fresh := fun i b p h1 h2 => by
    obtain ⟨b', q⟩ := S.sk i _ _ h1
    exact k.fresh i b' p q h2
  own := fun i b h1 => by
    obtain ⟨b', q⟩ := S.sk i _ _ h1
    exact k.own i b' q
  lent := fun i b h => ⟨S.lt i (k.lent i b h).1, (k.lent i b h).2⟩

/-! ### statements -/
inductive Fl where
  | nx
  | rt (r : Od)
  | bk
  | ct
abbrev SemS := En → Out Fl
def OutS (K : PySem.W.Frag) (W : WX) (B : Bd) (o : Out Fl) (D : Ends) : Prop := match o with
  | .ok .nx e' => ∀ σ' F' H', Rel K e' σ' F' H' → BOk B e' σ' F' H' → D.nx σ' H'
  | .ok .bk e' => ∀ σ' F' H', Rel K e' σ' F' H' → BOk B e' σ' F' H' → D.bk σ' H'
  | .ok .ct e' => ∀ σ' F' H', Rel K e' σ' F' H' → BOk B e' σ' F' H' → D.ct σ' H'
  | .ok (.rt r) e' => ∀ x σ' F' H', Rel K e' σ' F' H' → BOk B e' σ' F' H' → OdR K [] B.H F' H' x r → D.rt x H'
  | .exc c t e' => ∀ σ' F' H' cls d, Rel K e' σ' F' H' → BOk B e' σ' F' H' → ExR K F' H' c t cls d → W cls d σ' H'
  | .bad => False
def tS (K : PySem.W.Frag) (W : WX) (B : Bd) (m : SemS) : TS := fun D σ H => ∃ e F, Rel K e σ F H ∧ BOk B e σ F H ∧ OutS K W B (m e) D
theorem tS_bind {α β : Type} {rel : Sg → Hp → Hp → Hp → β → α → Prop} {m : En → Out α} {f : α → En → Out Fl} {D : Ends} (R : Rel K e σ F H) (k : BOk B e σ F H) (h : OutS K W B ((m e).bind f) D) :
    tX K W rel m σ H (fun x H1 => ∃ r e1 F1, Rel K e1 σ F1 H1 ∧ Step e e1 σ F H F1 H1 ∧ BOk B e1 σ F1 H1 ∧ rel σ H F1 H1 x r ∧ OutS K W B (f r e1) D) := by
  refine ⟨e, F, R, ?_⟩
  cases q : m e with
  | ok r e' => rw [q] at h; exact fun x F' H' R' S' O => ⟨r, e', F', R', S', k.step S', O, h⟩
  | exc c t e' => rw [q] at h; exact fun F' H' cls d R' S' X => h σ F' H' cls d R' (k.step S') X
  | bad => rw [q] at h; exact h
abbrev QS (X : Cx) (W : WX) (B : Bd) (st : Stmt) (m : SemS) : Prop := PS X st (tS X.K W B m)
abbrev QSs (X : Cx) (W : WX) (B : Bd) (st : List Stmt) (m : SemS) : Prop := PSs X st (tS X.K W B m)
def isLent (e : En) (i : Nat) : Bool := match e[i]? with
  | some (.ow true _) => true
  | some (.fz _) => true
  | _ => false
theorem isLent_no {i : Nat} (h : isLent e i = false) : ¬ Lent e i := fun ⟨b, q⟩ => by
  rcases q with q | q <;> simp [isLent, q] at h
theorem set_v {i : Nat} {x : V} {t : T} (R : Rel K e σ F H) (k : BOk B e σ F H) (d : Dp K F x t) (n : ¬ Lent e i) : Rel K (e.set i (.v t)) (σ.set i (some x)) F H ∧ BOk B (e.set i (.v t)) (σ.set i (some x)) F H := by
  have get : ∀ (j : Nat) (s : Sl), (e.set i (.v t))[j]? = some s → (j = i ∧ s = .v t ∧ i < e.length) ∨ (i ≠ j ∧ e[j]? = some s) := fun j s h => by
    by_cases q : i = j
    · subst q
      have hi : i < e.length := by have := (List.getElem?_eq_some_iff.mp h).1; simpa using this
      rw [List.getElem?_set_self hi] at h; cases h; exact .inl ⟨rfl, rfl, hi⟩
    · rw [List.getElem?_set_ne q] at h; exact .inr ⟨q, h⟩
  have sg : ∀ (j : Nat), i ≠ j → (σ.set i (some x))[j]? = σ[j]? := fun j q => List.getElem?_set_ne q
  refine ⟨⟨R.sub, by simp [R.len], fun j s o h1 h2 => ?_, fun j j' l b l' b' p h1 h2 h3 h4 => ?_⟩, ⟨k.ff, k.keep, k.dom, fun j b p h1 h2 => ?_, fun j b h1 => ?_, fun j b h => ?_⟩⟩
  · rcases get j s h1 with ⟨rfl, rfl, hi⟩ | ⟨q, h⟩
    · rw [List.getElem?_set_self (by rw [← R.len]; exact hi)] at h2; cases h2; exact ⟨x, rfl, d⟩
    · rw [sg j q] at h2; exact R.at_ j s o h h2
  · rcases get j _ h1 with ⟨_, z, _⟩ | ⟨q, g1⟩
    · cases z
    · rcases get j' _ h2 with ⟨_, z, _⟩ | ⟨q', g2⟩
      · cases z
      · rw [sg j q] at h3; rw [sg j' q'] at h4; exact R.ne j j' l b l' b' p g1 g2 h3 h4
  · rcases get j _ h1 with ⟨_, z, _⟩ | ⟨q, g1⟩
    · cases z
    · rw [sg j q] at h2; exact k.fresh j b p g1 h2
  · rcases get j _ h1 with ⟨_, z, _⟩ | ⟨q, g1⟩
    · cases z
    · rw [sg j q]; exact k.own j b g1
  · obtain ⟨l, q⟩ := k.lent j b h
    have ne : i ≠ j := fun z => n (by rw [z]; exact l)
    refine ⟨?_, by rw [sg j ne]; exact q⟩
    obtain ⟨b', l⟩ := l
    exact ⟨b', by rw [List.getElem?_set_ne ne]; exact l⟩
theorem set_b {i : Nat} {p : Addr} {z : Bx} (R : Rel K e σ F H) (k : BOk B e σ F H) (hf : F p = none) (bx : BxAt K F H p z) (hB : B.H p = none) (no : ¬ Own e σ p) (n : ¬ Lent e i) : Rel K (e.set i (.ow false z)) (σ.set i (some (.ref p))) F H ∧ BOk B (e.set i (.ow false z)) (σ.set i (some (.ref p))) F H := by
  have get : ∀ (j : Nat) (s : Sl), (e.set i (.ow false z))[j]? = some s → (j = i ∧ s = .ow false z ∧ i < e.length) ∨ (i ≠ j ∧ e[j]? = some s) := fun j s h => by
    by_cases q : i = j
    · subst q
      have hi : i < e.length := by have := (List.getElem?_eq_some_iff.mp h).1; simpa using this
      rw [List.getElem?_set_self hi] at h; cases h; exact .inl ⟨rfl, rfl, hi⟩
    · rw [List.getElem?_set_ne q] at h; exact .inr ⟨q, h⟩
  have sg : ∀ (j : Nat), i ≠ j → (σ.set i (some (V.ref p)))[j]? = σ[j]? := fun j q => List.getElem?_set_ne q
  have si : i < e.length → (σ.set i (some (V.ref p)))[i]? = some (some (V.ref p)) := fun h => List.getElem?_set_self (by rw [← R.len]; exact h)
  refine ⟨⟨R.sub, by simp [R.len], fun j s o h1 h2 => ?_, fun j j' l b l' b' p' h1 h2 h3 h4 => ?_⟩, ⟨k.ff, k.keep, k.dom, fun j b p' h1 h2 => ?_, fun j b h1 => ?_, fun j b h => ?_⟩⟩
  · rcases get j s h1 with ⟨rfl, rfl, hi⟩ | ⟨q, h⟩
    · rw [si hi] at h2; cases h2; exact ⟨p, rfl, hf, bx⟩
    · rw [sg j q] at h2; exact R.at_ j s o h h2
  · rcases get j _ h1 with ⟨e1, _, hi⟩ | ⟨q, g1⟩
    · rcases get j' _ h2 with ⟨e2, _, _⟩ | ⟨q', g2⟩
      · rw [e1, e2]
      · subst e1
        rw [si hi] at h3; cases h3
        rw [sg j' q'] at h4
        exact absurd ⟨j', l', b', g2, h4⟩ no
    · rcases get j' _ h2 with ⟨e2, _, hi⟩ | ⟨q', g2⟩
      · subst e2
        rw [si hi] at h4; cases h4
        rw [sg j q] at h3
        exact absurd ⟨j, l, b, g1, h3⟩ no
      · rw [sg j q] at h3; rw [sg j' q'] at h4; exact R.ne j j' l b l' b' p' g1 g2 h3 h4
  · rcases get j _ h1 with ⟨e1, _, hi⟩ | ⟨q, g1⟩
    · subst e1; rw [si hi] at h2; cases h2; exact hB
    · rw [sg j q] at h2; exact k.fresh j b p' g1 h2
  · rcases get j _ h1 with ⟨_, z, _⟩ | ⟨q, g1⟩
    · cases z
    · rw [sg j q]; exact k.own j b g1
  · obtain ⟨l, q⟩ := k.lent j b h
    have ne : i ≠ j := fun z => n (by rw [z]; exact l)
    refine ⟨?_, by rw [sg j ne]; exact q⟩
    obtain ⟨b', l⟩ := l
    exact ⟨b', by rw [List.getElem?_set_ne ne]; exact l⟩
/-- name = value -/
def setO (i : Nat) (r : Od) (e : En) : Out Fl := if isLent e i then .bad else match r with
  | .b z => .ok .nx (e.set i (.ow false z))
  | r => match esc r e with
    | some (t, e') => .ok .nx (e'.set i (.v t))
    | none => .bad
theorem esc_lent {r : Od} {t : T} {i : Nat} (h : esc r e = some (t, e1)) (n : ¬ Lent e i) : ¬ Lent e1 i := by
  cases r with
  | r u => cases h; exact n
  | b z =>
    simp only [esc] at h
    split at h
    · cases h; exact n
    · cases h
  | s j =>
    simp only [esc] at h
    cases q : e[j]? with
    | none => rw [q] at h; cases h
    | some s =>
      rw [q] at h
      cases s with
      | un => cases h
      | v u => cases h; exact n
      | fz u => cases h; exact n
      | ow l b =>
        simp only at h
        split at h
        · cases h
          rintro ⟨b', w⟩
          by_cases ij : j = i
          · subst ij
            have hj : j < e.length := (List.getElem?_eq_some_iff.mp q).1
            rw [List.getElem?_set_self hj] at w
            cases l with
            | true => exact n ⟨b, .inl q⟩
            | false => rcases w with w | w <;> cases w
          · rw [List.getElem?_set_ne ij] at w
            exact n ⟨b', w⟩
        · cases h
theorem set_ok {i : Nat} {r : Od} {x : V} {D : Ends} {e0 : En} {F0 H0 : Hp} (R0 : Rel K e0 σ F0 H0) (k0 : BOk B e0 σ F0 H0) (R : Rel K e σ F H) (S : Step e0 e σ F0 H0 F H) (O : OdR K σ H0 F H x r) (h : OutS K W B (setO i r e) D) : D.nx (σ.set i (some x)) H := by
  unfold setO at h
  cases l : isLent e i with
  | true => rw [l] at h; exact h.elim
  | false =>
    rw [l, if_neg (by decide)] at h
    have n := isLent_no l
    have tree : ∀ t e', esc r e = some (t, e') → OutS K W B (.ok .nx (e'.set i (.v t))) D → D.nx (σ.set i (some x)) H := fun t e' q h => by
      obtain ⟨F', R', S', d, _⟩ := esc_ok R0 R S O q
      obtain ⟨a, b⟩ := set_v R' (k0.step S') d (esc_lent q n)
      exact h _ _ _ a b
    cases r with
    | b z =>
      obtain ⟨p, rfl, hn, hf, bx⟩ := O
      have hB : B.H p = none := by
        cases q : B.H p with
        | none => rfl
        | some o => obtain ⟨o', e'⟩ := k0.dom _ _ q; rw [hn] at e'; cases e'
      obtain ⟨a, b⟩ := set_b R (k0.step S) hf bx hB (fresh_not_own R0 S hn) n
      exact h _ _ _ a b
    | r t =>
      cases q : esc (.r t) e with
      | none => simp only [q] at h; exact h.elim
      | some te => obtain ⟨t', e'⟩ := te; simp only [q] at h; exact tree t' e' q h
    | s j =>
      cases q : esc (.s j) e with
      | none => simp only [q] at h; exact h.elim
      | some te => obtain ⟨t', e'⟩ := te; simp only [q] at h; exact tree t' e' q h
end
section
variable {X : Cx} {W : WX} {B : Bd} {a b c : Expr} {ma mb mc : SemE} {pos : Pos} {st : Stmt} {sts : List Stmt} {m1 m2 : SemS}
def sSet (i : Nat) (m : SemE) : SemS := fun e => (m e).bind fun r e1 => setO i r e1
theorem asg_read {i : Nat} {m : SemE} {K : PySem.W.Frag} {D : Ends} {σ : Sg} {H : Hp} (h : tS K W B (sSet i m) D σ H) : tAsg (tE K W m) (gName i) D σ H := by
  obtain ⟨e, F, R, k, h⟩ := h
  exact tX_imp (tS_bind (rel := fun σ => OdR K σ) R k h) fun x H1 ⟨r, e1, F1, R1, S1, k1, O, h1⟩ => set_ok R k R1 S1 O h1
theorem qset {i : Nat} {x : Str} {pos' : Pos} (hN : X.N.Nodup) (hi : X.N[i]? = some x) (hx : Loc X.env.scope x) (he : QE X W a ma) (hs : swapsWith a (some (.Name x pos')) pos.line X.env = pure false := by rfl)
    (hf : X.fn x = true ∨ X.env.scope.names.lookup x = some .local := by first | exact .inl rfl | exact .inr rfl | assumption) : QS X W B (.Assign [.Name x pos'] a pos) (sSet i ma) :=
  ps_mono (ps_set hN hi hx he hs hf) fun D σ H h => asg_read h
def sDrop (m : SemE) : SemS := fun e => (m e).bind fun _ e1 => .ok .nx e1
theorem qexpr (he : QE X W a ma) (hs : swapsWith a none pos.line X.env = pure false := by rfl) : QS X W B (.Expr a pos) (sDrop ma) := by
  refine ps_mono (ps_expr he hs) fun D σ H h => ?_
  obtain ⟨e, F, R, k, h⟩ := h
  exact tX_imp (tS_bind (rel := fun σ => OdR X.K σ) R k h) fun x H1 ⟨r, e1, F1, R1, S1, k1, O, h1⟩ => h1 _ _ _ R1 k1
def sNil : SemS := fun e => .ok .nx e
theorem qnil : QSs X W B [] sNil := pss_mono pss_nil fun D σ H ⟨e, F, R, k, h⟩ => h _ _ _ R k
def sBrk : SemS := fun e => .ok .bk e
def sCnt : SemS := fun e => .ok .ct e
def sNever : SemS := fun _ => .bad
theorem qnevers : QSs X W B sts sNever := pss_mono pss_never fun D σ H ⟨e, F, R, k, h⟩ => h.elim
def sSeq (m1 m2 : SemS) : SemS := fun e => match m1 e with
  | .ok .nx e1 => m2 e1
  | o => o
theorem qcons (h1 : QS X W B st m1) (h2 : QSs X W B sts m2) : QSs X W B (st :: sts) (sSeq m1 m2) := by
  refine pss_mono (pss_cons h1 h2) fun D σ H h => ?_
  obtain ⟨e, F, R, k, h⟩ := h
  refine ⟨e, F, R, k, ?_⟩
  unfold sSeq at h
  cases q : m1 e with
  | bad => rw [q] at h; exact h
  | exc c t e' => rw [q] at h; exact h
  | ok f e' =>
    rw [q] at h
    cases f with
    | nx => exact fun σ' F' H' R' k' => ⟨e', F', R', k', h⟩
    | rt r => exact h
    | bk => exact h
    | ct => exact h
theorem qone (h1 : QS X W B st m1) : QSs X W B [st] m1 := pss_one h1
def sIf (c : SemT) (m1 m2 : SemS) : SemS := fun e => (c e).bind fun k e1 => if k then m1 e1 else m2 e1
theorem qif {mt : SemT} {s1 s2 : List Stmt} (hc : QT X W c mt) (h1 : QSs X W B s1 m1) (h2 : QSs X W B s2 m2) : QS X W B (.If c s1 s2 pos) (sIf mt m1 m2) := by
  refine ps_mono (ps_if hc h1 h2) fun D σ H h => ?_
  obtain ⟨e, F, R, k, h⟩ := h
  refine tX_imp (tS_bind (rel := fun _ _ _ _ (x : Bool) r => x = r) R k h) fun x H1 ⟨r, e1, F1, R1, S1, k1, O, h1⟩ => ?_
  subst O
  cases x with
  | true => exact ⟨e1, F1, R1, k1, h1⟩
  | false => exact ⟨e1, F1, R1, k1, h1⟩
/-- return: what a name alone holds goes with it -/
def retO (r : Od) (e : En) : Out Fl := match r with
  | .r t => .ok (.rt (.r t)) e
  | .b z => .ok (.rt (.b z)) e
  | .s i => match e[i]? with
    | some (.ow false z) => .ok (.rt (.b z)) (e.set i .un)
    | _ => (match esc (.s i) e with
      | some (t, e') => .ok (.rt (.r t)) e'
      | none => .bad)
def sRet (m : SemE) : SemS := fun e => (m e).bind fun r e1 => retO r e1
end
end Ev

set_option Elab.async false
set_option linter.all false
set_option maxRecDepth 100000
namespace Ev
open PySem PySem.Spec PyProof.Rows L2
section
variable {K : PySem.W.Frag} {W : WX} {B : Bd} {e e1 e2 : En} {σ σ1 : Sg} {F H F1 H1 F2 H2 : Hp}
theorem set_un {i : Nat} (R : Rel K e σ F H) (k : BOk B e σ F H) (n : ¬ Lent e i) : Rel K (e.set i .un) σ F H ∧ BOk B (e.set i .un) σ F H := by
  have get : ∀ (j : Nat) (s : Sl), (e.set i .un)[j]? = some s → s = .un ∨ e[j]? = some s := fun j s h => by
    by_cases q : i = j
    · subst q
      have hi : i < e.length := by have := (List.getElem?_eq_some_iff.mp h).1; simpa using this
      rw [List.getElem?_set_self hi] at h; cases h; exact .inl rfl
    · rw [List.getElem?_set_ne q] at h; exact .inr h
  have gow : ∀ (j : Nat) (l : Bool) (b : Bx), (e.set i .un)[j]? = some (.ow l b) → e[j]? = some (.ow l b) := fun j l b h => by
    rcases get j _ h with z | z
    · cases z
    · exact z
  refine ⟨⟨R.sub, by simp [R.len], fun j s o h1 h2 => ?_, fun j j' l b l' b' p h1 h2 => R.ne j j' l b l' b' p (gow _ _ _ h1) (gow _ _ _ h2)⟩, ⟨k.ff, k.keep, k.dom, fun j b p h1 => k.fresh j b p (gow _ _ _ h1), fun j b h1 => k.own j b (gow _ _ _ h1), fun j b h => ?_⟩⟩
  · rcases get j s h1 with rfl | z
    · trivial
    · exact R.at_ j s o z h2
  · obtain ⟨⟨b', l⟩, q⟩ := k.lent j b h
    have ne : i ≠ j := fun z => n (by rw [z]; exact ⟨b', l⟩)
    exact ⟨⟨b', by rw [List.getElem?_set_ne ne]; exact l⟩, q⟩
theorem ret_ok {r : Od} {x : V} {D : Ends} {e0 : En} {F0 H0 : Hp} (R0 : Rel K e0 σ F0 H0) (k0 : BOk B e0 σ F0 H0) (R : Rel K e σ F H) (S : Step e0 e σ F0 H0 F H) (O : OdR K σ H0 F H x r) (h : OutS K W B (retO r e) D) : D.rt x H := by
  have k := k0.step S
  have hB : ∀ p, H0 p = none → B.H p = none := fun p hn => by
    cases q : B.H p with
    | none => rfl
    | some o => obtain ⟨o', e'⟩ := k0.dom _ _ q; rw [hn] at e'; cases e'
  cases r with
  | r t => exact h x σ F H R k O
  | b z => obtain ⟨p, ep, hn, hf, bx⟩ := O; exact h x σ F H R k ⟨p, ep, hB p hn, hf, bx⟩
  | s i =>
    have hs : σ[i]? = some (some x) := O
    have tree : ∀ t e', esc (.s i) e = some (t, e') → OutS K W B (.ok (.rt (.r t)) e') D → D.rt x H := fun t e' q h => by
      obtain ⟨F', R', S', d, _⟩ := esc_ok R0 R S O q
      exact h x σ F' H R' (k0.step S') d
    have other : (match esc (.s i) e with
      | some (t, e') => OutS K W B (.ok (.rt (.r t)) e') D
      | none => False) → D.rt x H := fun h => by
      cases q : esc (.s i) e with
      | none => rw [q] at h; exact h.elim
      | some te => obtain ⟨t, e'⟩ := te; rw [q] at h; exact tree t e' q h
    have conv : OutS K W B (match esc (.s i) e with
      | some (t, e') => .ok (.rt (.r t)) e'
      | none => .bad) D → D.rt x H := fun h => by
      cases q : esc (.s i) e with
      | none => rw [q] at h; exact h.elim
      | some te => obtain ⟨t, e'⟩ := te; rw [q] at h; exact tree t e' q h
    simp only [retO] at h
    cases q : e[i]? with
    | none => rw [q] at h; exact conv h
    | some s =>
      rw [q] at h
      cases s with
      | un => exact conv h
      | v _ => exact conv h
      | fz _ => exact conv h
      | ow l z =>
        cases l with
        | true => exact conv h
        | false =>
          obtain ⟨p, ep, hf, bx⟩ := R.at_ i _ _ q hs
          cases ep
          have n : ¬ Lent e i := fun ⟨b, w⟩ => by rw [q] at w; rcases w with w | w <;> cases w
          obtain ⟨R', k'⟩ := set_un R k n
          exact h _ σ F H R' k' ⟨p, rfl, k.fresh i z p q hs, hf, bx⟩
end
section
variable {X : Cx} {W : WX} {B : Bd} {a b c : Expr} {ma mb mc : SemE} {pos : Pos} {st : Stmt} {sts : List Stmt} {m1 m2 : SemS} {t1 t2 : SemT}
theorem qret (he : QE X W a ma) : QS X W B (.Return (some a) pos) (sRet ma) := by
  refine ps_mono (ps_ret he) fun D σ H h => ?_
  obtain ⟨e, F, R, k, h⟩ := h
  exact tX_imp (tS_bind (rel := fun σ => OdR X.K σ) R k h) fun x H1 ⟨r, e1, F1, R1, S1, k1, O, h1⟩ => ret_ok R k R1 S1 O h1
def sRetN : SemS := fun e => .ok (.rt (.r .none)) e
/-! ### tests -/
/-- the truth of a bool -/
def tb (m : SemE) : SemT := fun e => (m e).bind fun r e1 => match r.val e1 with
  | some (.bool k) => .ok k e1
  | _ => .bad
theorem tb_read {m : SemE} {σ : Sg} {H : Hp} {K : PySem.W.Frag} {Q : Bool → Hp → Prop} (h : tT K W (tb m) σ H Q) : tE K W m σ H fun x H' => ∃ k, x = .bl k ∧ Q k H' := by
  obtain ⟨e, F, R, h⟩ := h
  refine tX_imp (tX_bind R .refl h) fun x H1 ⟨r, e1, F1, R1, S1, O1, h1⟩ => ?_
  cases q : r.val e1 with
  | none => simp only [q] at h1; exact h1.elim
  | some t =>
    have d := val_ok R1 O1 q
    cases t with
    | bool k => simp only [q] at h1; cases d; exact ⟨k, rfl, h1 k F1 H1 R1 S1 rfl⟩
    | none => simp only [q] at h1; exact h1.elim
    | int _ => simp only [q] at h1; exact h1.elim
    | str _ => simp only [q] at h1; exact h1.elim
    | list _ => simp only [q] at h1; exact h1.elim
    | tuple _ => simp only [q] at h1; exact h1.elim
    | dict _ => simp only [q] at h1; exact h1.elim
theorem qtval (h : QE X W a ma) (he : ∀ whole, isTrue a X.env whole = (do let v ← whole; standAt a.pos; holding [v] (truthy v)) := by intro _; rfl) : QT X W a (tb ma) :=
  pt_mono (pt_val h he) fun σ H Q h => tb_read h
theorem qtcmp {f : CmpOp} {r : R2} {g : T → T → Option Od} (ho : OpR X (compareOp f) r) (hr : Does2 X.K r g) (ha : QE X W a ma) (hb : QE X W b mb) (hm : behindInMarks f b = false := by first | rfl | exact nomark _) : QT X W (.Compare a [f] [b] pos) (tb (eOp2 g ma mb)) :=
  pt_mono (pt_cmpR ho ha hb hm) fun σ H Q h => tX_imp (two (tb_read h)) fun x H1 h1 => tX_imp h1 fun y H2 h2 => does2 hr h2
def tNot (t : SemT) : SemT := fun e => (t e).bind fun k e1 => .ok (!k) e1
theorem qtnot (h : QT X W a t1) : QT X W (.UnaryOp .Not a pos) (tNot t1) := by
  refine pt_mono (pt_not h) fun σ H Q h => ?_
  obtain ⟨e, F, R, h⟩ := h
  exact tX_imp (tX_bind (rel := fun _ _ _ _ (x : Bool) r => x = r) R .refl h) fun x H1 ⟨r, e1, F1, R1, S1, O1, h1⟩ => by subst O1; exact h1 _ F1 H1 R1 S1 rfl
abbrev QW (X : Cx) (W : WX) (ex : Expr) (m : SemT) : Prop := PW X ex (tT X.K W m)
theorem pw_mono {X : Cx} {ex : Expr} {t t' : TT} (h : PW X ex t) (m : ∀ σ H Q, t' σ H Q → t σ H Q) : PW X ex t' := ⟨fun wh pins s σ H Q I q => h.run wh pins s σ H Q I (m σ H Q q)⟩
def tAnd (t1 t2 : SemT) : SemT := fun e => (t1 e).bind fun k e1 => if k then t2 e1 else .ok false e1
def tOr (t1 t2 : SemT) : SemT := fun e => (t1 e).bind fun k e1 => if k then .ok true e1 else t2 e1
theorem qw_and1 (h : QT X W a t1) : QW X W (.BoolOp .And [a] pos) t1 := pw_and1 h
theorem qw_or1 (h : QT X W a t1) : QW X W (.BoolOp .Or [a] pos) t1 := pw_or1 h
theorem outT_trans {K : PySem.W.Frag} {m : SemT} {e e1 : En} {σ : Sg} {F H F1 H1 : Hp} {Q : Bool → Hp → Prop} (R : Rel K e1 σ F1 H1) (S : Step e e1 σ F H F1 H1) (h : OutX K W (fun _ _ _ (x : Bool) r => x = r) (m e1) e σ F H Q) : tT K W m σ H1 Q := by
  refine ⟨e1, F1, R, ?_⟩
  cases q : m e1 with
  | bad => rw [q] at h; exact h
  | exc c t e' => rw [q] at h; exact fun F' H' cls d R' S' => h F' H' cls d R' (S.trans S')
  | ok r e' => rw [q] at h; exact fun x F' H' R' S' => h x F' H' R' (S.trans S')
theorem qw_and {rest : List Expr} (ha : QT X W a t1) (hb : QW X W (.BoolOp .And (b :: rest) pos) t2) : QW X W (.BoolOp .And (a :: b :: rest) pos) (tAnd t1 t2) := by
  refine pw_mono (pw_and ha hb) fun σ H Q h => ?_
  obtain ⟨e, F, R, h⟩ := h
  refine tX_imp (tX_bind (rel := fun _ _ _ _ (x : Bool) r => x = r) R .refl h) fun x H1 ⟨r, e1, F1, R1, S1, O1, h1⟩ => ?_
  subst O1
  cases x with
  | true => exact outT_trans R1 S1 h1
  | false => exact h1 _ F1 H1 R1 S1 rfl
theorem qw_or {rest : List Expr} (ha : QT X W a t1) (hb : QW X W (.BoolOp .Or (b :: rest) pos) t2) : QW X W (.BoolOp .Or (a :: b :: rest) pos) (tOr t1 t2) := by
  refine pw_mono (pw_or ha hb) fun σ H Q h => ?_
  obtain ⟨e, F, R, h⟩ := h
  refine tX_imp (tX_bind (rel := fun _ _ _ _ (x : Bool) r => x = r) R .refl h) fun x H1 ⟨r, e1, F1, R1, S1, O1, h1⟩ => ?_
  subst O1
  cases x with
  | true => exact h1 _ F1 H1 R1 S1 rfl
  | false => exact outT_trans R1 S1 h1
theorem QW.t (h : QW X W a t1) : QT X W a t1 := h.pt
/-! ### and, or, not, if as values -/
theorem outE_trans {K : PySem.W.Frag} {m : SemE} {e e1 : En} {σ : Sg} {F H F1 H1 : Hp} {Q : VK} (R : Rel K e1 σ F1 H1) (S : Step e e1 σ F H F1 H1) (h : OutX K W (OdR K σ) (m e1) e σ F H Q) : tE K W m σ H1 Q := by
  refine ⟨e1, F1, R, ?_⟩
  cases q : m e1 with
  | bad => rw [q] at h; exact h
  | exc c t e' => rw [q] at h; exact fun F' H' cls d R' S' => h F' H' cls d R' (S.trans S')
  | ok r e' => rw [q] at h; exact fun x F' H' R' S' O => h x F' H' R' (S.trans S') (od_back O S)
def eAnd (ma mb : SemE) : SemE := fun e => (tb ma e).bind fun k e1 => if k then mb e1 else .ok (.r (.bool false)) e1
def eOr (ma mb : SemE) : SemE := fun e => (tb ma e).bind fun k e1 => if k then .ok (.r (.bool true)) e1 else mb e1
theorem qone_ {op : BoolOp} (h : QE X W a ma) : QE X W (.BoolOp op [a] pos) ma := pe_one h
theorem qand {rest : List Expr} (ha : QE X W a ma) (hb : QE X W (.BoolOp .And (b :: rest) pos) mb) : QE X W (.BoolOp .And (a :: b :: rest) pos) (eAnd ma mb) := by
  refine pe_mono (pe_and ha hb) fun σ H Q h => ?_
  obtain ⟨e, F, R, h⟩ := h
  have z := tX_bind (m := tb ma) (rel := fun _ _ _ _ (x : Bool) r => x = r) R .refl h
  refine tX_imp (tb_read z) fun x H1 ⟨k, ex, r, e1, F1, R1, S1, O1, h1⟩ => ⟨k, ex, ?_⟩
  subst O1
  cases k with
  | true => exact outE_trans R1 S1 h1
  | false => exact h1 _ F1 H1 R1 S1 (.bl false)
def eNot (ma : SemE) : SemE := fun e => (tb ma e).bind fun k e1 => .ok (.r (.bool !k)) e1
theorem qnot (ha : QE X W a ma) : QE X W (.UnaryOp .Not a pos) (eNot ma) := by
  refine pe_mono (pe_not ha) fun σ H Q h => ?_
  obtain ⟨e, F, R, h⟩ := h
  have z := tX_bind (m := tb ma) (rel := fun _ _ _ _ (x : Bool) r => x = r) R .refl h
  refine tX_imp (tb_read z) fun x H1 ⟨k, ex, r, e1, F1, R1, S1, O1, h1⟩ => ⟨k, ex, ?_⟩
  subst O1
  exact h1 _ F1 H1 R1 S1 (.bl _)
def eIf (t : SemT) (ma mb : SemE) : SemE := fun e => (t e).bind fun k e1 => if k then ma e1 else mb e1
end
end Ev

set_option Elab.async false
set_option linter.all false
set_option maxRecDepth 100000
namespace Ev
open PySem PySem.Spec PyProof.Rows L2
section
variable {X : Cx}
theorem opr_or {f : Value → Value → Sem Value} {r r' : R2} (h : OpR X f r) (h' : OpR X f r') : OpR X f (fun x y H Q => r x y H Q ∨ r' x y H Q) := by
  intro pins s σ H x y v u Q I rx ry q
  rcases q with q | q
  · exact h pins s σ H x y v u Q I rx ry q
  · exact h' pins s σ H x y v u Q I rx ry q
def rCatS (K : PySem.W.Frag) : R2 := fun x y H Q => ∃ l b xs zs, x = .ref l ∧ y = .ref b ∧ SqL K H l xs ∧ SqL K H b zs ∧ xs.length + zs.length ≤ sizeLine ∧ ∀ p, H p = none → Q (.ref p) (upd H p (.lst (xs ++ zs)))
theorem op_catS : OpR X (binaryOp .Add) (rCatS X.K) := by
  intro pins s σ H x y v u Q I rx ry h
  obtain ⟨l, b, xs, zs, rfl, rfl, hH, hB, hz, q⟩ := h
  cases rx
  cases ry
  obtain ⟨its, r, ⟨⟨cls, dd, data, sl⟩, n, ho, hc, hd0, hd⟩, _⟩ := I.list hH
  obtain ⟨its2, r2, ⟨⟨cls2, dd2, data2, sl2⟩, n2, ho2, hc2, hd02, hd2⟩, _⟩ := I.list hB
  simp only at hc hd hc2 hd2 hd0 hd02
  subst hc hd hc2 hd2 hd0 hd02
  have hl := r.length
  have hl2 := r2.length
  refine concat_meets ⟨_, ho, rfl⟩ ⟨_, ho2, rfl⟩ noFill_list_add seq_list_add PySem.F.slot_list_add PySem.F.entry_list_add (PySem.F.args_list_add_2 _ _) (list_addW l b its.toArray its2.toArray n n2 none none sl sl2 (by simp; omega)) ⟨ho, ho2, ?_⟩
  have ea : its.toArray ++ its2.toArray = (its ++ its2).toArray := by simp
  rw [ea]
  exact ⟨.ref _, _, I.lnew (t' := s.toks) (r.append r2) (by rw [List.length_append]; omega), rfl, q _ I.fresh⟩
end
/-! ### what operations hand back -/
def gAdd : T → T → Option Od
  | .int i, .int j => some (.r (.int (i + j)))
  | .str i, .str j => if i.length + j.length ≤ sizeLine then some (.r (.str (i ++ j))) else none
  | .list xs, .list ys => if xs.length + ys.length ≤ sizeLine then some (.b (.l (xs ++ ys))) else none
  | .tuple xs, .tuple ys => if xs.length + ys.length ≤ sizeLine then some (.r (.tuple (xs ++ ys))) else none
  | _, _ => none
def rAdd4 (K : PySem.W.Frag) : R2 := fun x y H Q => (((∃ i j, x = .int i ∧ y = .int j ∧ Q (.int (i + j)) H) ∨ ∃ i j, x = .str i ∧ y = .str j ∧ i.length + j.length ≤ sizeLine ∧ Q (.str (i ++ j)) H) ∨ rCatS K x y H Q) ∨ rCatA K x y H Q
theorem op_add4 {X : Cx} : OpR X (binaryOp .Add) (rAdd4 X.K) := opr_or (opr_or (opr_or op_add op_add_str) op_catS) op_catA
theorem does_add {K : PySem.W.Frag} : Does2 K (rAdd4 K) gAdd := by
  intro x y t u w F H Q ff dx dy hg
  cases t with
  | int i =>
    cases u with
    | int j => cases hg; cases dx; cases dy; exact ⟨trivial, fun q => .inl (.inl (.inl ⟨i, j, rfl, rfl, q.1 _ (.int _)⟩))⟩
    | _ => cases hg
  | str i =>
    cases u with
    | str j =>
      simp only [gAdd] at hg
      split at hg
      · cases hg; cases dx; cases dy; rename_i hl; exact ⟨trivial, fun q => .inl (.inl (.inr ⟨i, j, rfl, rfl, hl, q.1 _ (.str _)⟩))⟩
      · cases hg
    | _ => cases hg
  | list xs =>
    cases u with
    | list ys =>
      simp only [gAdd] at hg
      split at hg
      · cases hg
        rename_i hl
        obtain ⟨p, vs, rfl, h1, d1⟩ := dx
        obtain ⟨p2, vs2, rfl, h2, d2⟩ := dy
        refine ⟨trivial, fun q => .inl (.inr ⟨p, p2, vs, vs2, rfl, rfl, h1, h2, by rw [dpAll_len d1, dpAll_len d2]; exact hl, fun p hp => q p _ hp (dpAll_app d1 d2)⟩)⟩
      · cases hg
    | _ => cases hg
  | tuple xs =>
    cases u with
    | tuple ys =>
      simp only [gAdd] at hg
      split at hg
      · cases hg
        rename_i hl
        have dx0 : Dp K F x (.tuple xs) := dx
        have dy0 : Dp K F y (.tuple ys) := dy
        cases dx with
        | tup h1 d1 =>
          cases dy with
          | tup h2 d2 =>
            refine ⟨trivial, fun q => .inr ⟨_, _, _, _, rfl, rfl, tupS ff h1, tupS ff h2, by rw [dpAll_len d1, dpAll_len d2]; exact hl, fun e => ?_, fun _ e => ?_, fun _ _ p hp => q.2 _ p _ rfl hp (dpAll_app d1 d2)⟩⟩
            · subst e; cases d1; exact q.1 _ dy0
            · subst e; cases d2; rw [List.append_nil] at q; exact q.1 _ dx0
      · cases hg
    | _ => cases hg
  | _ => cases hg
/-- ints -/
def gII (c : Int → Int → Bool) (g : Int → Int → T) : T → T → Option Od
  | .int i, .int j => if c i j then some (.r (g i j)) else none
  | _, _ => none
theorem does_ii {K : PySem.W.Frag} {C : Int → Int → Prop} {c : Int → Int → Bool} {g : Int → Int → V} {g' : Int → Int → T} (hc : ∀ i j, c i j = true → C i j) (hg : ∀ i j F, Dp K F (g i j) (g' i j)) : Does2 K (rI C g) (gII c g') := by
  intro x y t u w F H Q ff dx dy h
  cases t with
  | int i =>
    cases u with
    | int j =>
      simp only [gII] at h
      split at h
      · rename_i hl; cases h; cases dx; cases dy; exact ⟨trivial, fun q => ⟨i, j, rfl, rfl, hc i j hl, q.1 _ (hg i j F)⟩⟩
      · cases h
    | _ => cases h
  | _ => cases h
theorem does_ii0 {K : PySem.W.Frag} {g : Int → Int → V} {g' : Int → Int → T} (hg : ∀ i j F, Dp K F (g i j) (g' i j)) : Does2 K (rI0 g) (gII (fun _ _ => true) g') := by
  intro x y t u w F H Q ff dx dy h
  obtain ⟨a, b⟩ := does_ii (C := fun _ _ => True) (c := fun _ _ => true) (fun _ _ _ => trivial) hg x y t u w F H Q ff dx dy h
  refine ⟨a, fun q => ?_⟩
  obtain ⟨i, j, h1, h2, _, h3⟩ := b q
  exact ⟨i, j, h1, h2, h3⟩
abbrev gSub : T → T → Option Od := gII (fun _ _ => true) fun i j => .int (i - j)
theorem does_sub {K : PySem.W.Frag} : Does2 K (rI0 fun i j => .int (i - j)) gSub := does_ii0 fun _ _ _ => .int _
abbrev gMod : T → T → Option Od := gII (fun _ j => decide (0 < j)) fun i j => .int (i % j)
theorem does_mod {K : PySem.W.Frag} : Does2 K (rI (fun _ j => 0 < j) fun i j => .int (i % j)) gMod := does_ii (fun _ _ h => of_decide_eq_true h) fun _ _ _ => .int _
abbrev gDiv : T → T → Option Od := gII (fun _ j => decide (0 < j ∧ j.natAbs.log2 < 9000)) fun i j => .int (i / j)
theorem does_div {K : PySem.W.Frag} : Does2 K (rI CDivW fun i j => .int (i / j)) gDiv := does_ii (fun i j h => of_decide_eq_true (p := 0 < j ∧ j.natAbs.log2 < 9000) h) fun _ _ _ => .int _
abbrev gPow : T → T → Option Od := gII (fun i j => decide (0 ≤ j ∧ j ≤ 1000000 ∧ i.natAbs < 2 ^ 64)) fun i j => .int (i ^ j.toNat)
theorem does_pow {K : PySem.W.Frag} : Does2 K (rI CPow fun i j => .int (i ^ j.toNat)) gPow := does_ii (fun i j h => of_decide_eq_true (p := 0 ≤ j ∧ j ≤ 1000000 ∧ i.natAbs < 2 ^ 64) h) fun _ _ _ => .int _
def mulOk (i j : Int) : Bool := decide (i.natAbs.log2 + j.natAbs.log2 < 1000000)
def gMul : T → T → Option Od
  | .int i, .int j => if mulOk i j then some (.r (.int (i * j))) else none
  | _, _ => none
theorem does_mul {K : PySem.W.Frag} : Does2 K (rI CMulW fun i j => .int (i * j)) gMul := by
  intro x y t u w F H Q ff dx dy h
  refine does_ii (K := K) (C := CMulW) (c := mulOk) (g' := fun i j => .int (i * j)) (fun i j h => of_decide_eq_true (p := i.natAbs.log2 + j.natAbs.log2 < 1000000) h) (fun _ _ _ => .int _) x y t u w F H Q ff dx dy ?_
  cases t <;> cases u <;> first | exact h | cases h
abbrev gLt : T → T → Option Od := gII (fun _ _ => true) fun i j => .bool (decide (i < j))
abbrev gLe : T → T → Option Od := gII (fun _ _ => true) fun i j => .bool (decide (i ≤ j))
abbrev gGt : T → T → Option Od := gII (fun _ _ => true) fun i j => .bool (decide (j < i))
abbrev gGe : T → T → Option Od := gII (fun _ _ => true) fun i j => .bool (decide (j ≤ i))
theorem does_lt {K : PySem.W.Frag} : Does2 K (rI0 fun i j => .bl (decide (i < j))) gLt := does_ii0 fun _ _ _ => .bl _
theorem does_gt {K : PySem.W.Frag} : Does2 K (rI0 fun i j => .bl (decide (j < i))) gGt := does_ii0 fun _ _ _ => .bl _
/-- == on data -/
def gEq (k : Bool → Bool) : T → T → Option Od := fun t u => if SeqAt.shaped t && SeqAt.shaped u then some (.r (.bool (k (PyData.eqv t u)))) else none
theorem does_eq {K : PySem.W.Frag} : Does2 K (rEqD K) (gEq id) := by
  intro x y t u w F H Q ff dx dy h
  simp only [gEq] at h
  split at h
  · rename_i hs
    rw [Bool.and_eq_true] at hs
    cases h
    exact ⟨trivial, fun q => ⟨t, u, dp_hand _ (noD_sh hs.1) (dx.dp ff), dp_hand _ (noD_sh hs.2) (dy.dp ff), hs.1, hs.2, q.1 _ (.bl _)⟩⟩
  · cases h
theorem does_ne {K : PySem.W.Frag} : Does2 K (rNeD K) (gEq not) := by
  intro x y t u w F H Q ff dx dy h
  simp only [gEq] at h
  split at h
  · rename_i hs
    rw [Bool.and_eq_true] at hs
    cases h
    exact ⟨trivial, fun q => ⟨t, u, dp_hand _ (noD_sh hs.1) (dx.dp ff), dp_hand _ (noD_sh hs.2) (dy.dp ff), hs.1, hs.2, q.1 _ (.bl _)⟩⟩
  · cases h
def isN : T → Bool
  | .none => true
  | _ => false
/-- is None -/
def gIsN (k : Bool → Bool) : T → T → Option Od := fun t u => match u with
  | .none => some (.r (.bool (k (isN t))))
  | _ => none
theorem dpo_non {K : PySem.W.Frag} {F H : Hp} {x : V} {t : T} (d : DpO K F H x t) : decide (x = .non) = isN t := by
  cases t with
  | list ts => obtain ⟨p, xs, rfl, _⟩ := d; rfl
  | none => cases d; rfl
  | bool _ => cases d; rfl
  | int _ => cases d; rfl
  | str _ => cases d; rfl
  | tuple _ => cases d; rfl
  | dict _ => cases d <;> rfl
theorem does_isN {K : PySem.W.Frag} : Does2 K (fun x y H Q => y = .non ∧ Q (.bl (decide (x = .non))) H) (gIsN id) := by
  intro x y t u w F H Q ff dx dy h
  cases u with
  | none => cases h; cases dy; exact ⟨trivial, fun q => ⟨rfl, by rw [dpo_non dx]; exact q.1 _ (.bl _)⟩⟩
  | _ => cases h
/-! ### in -/
def flatT : T → Bool
  | .none => true
  | .bool _ => true
  | .int _ => true
  | .str _ => true
  | _ => false
def gIn (k : Bool → Bool) : T → T → Option Od := fun t u => match u with
  | .list ds => if SeqAt.shaped t && SeqAt.shaped (.list ds) then some (.r (.bool (k (ds.any fun z => PyData.eqv z t)))) else none
  | .tuple ds => if flatT t && ds.all flatT then some (.r (.bool (k (ds.any fun z => PyData.eqv z t)))) else none
  | _ => none
theorem dp_flat {K : PySem.W.Frag} {F : Hp} {x : V} {t : T} (d : Dp K F x t) (h : flatT t = true) : flatV x = true := by
  cases d <;> first | rfl | cases h
theorem dp_flats {K : PySem.W.Frag} {F : Hp} : ∀ {ts : List T} {xs : List V}, DpAll K F xs ts → ts.all flatT = true → xs.all flatV = true
  | [], _, h, _ => by cases h; rfl
  | t :: ts, _, .cons a b, h => by
    rw [List.all_cons, Bool.and_eq_true] at h
    rw [List.all_cons, dp_flat a h.1, dp_flats b h.2]
    rfl
theorem flat_eqv {K : PySem.W.Frag} {F : Hp} {x y : V} {t u : T} (d : Dp K F x t) (d' : Dp K F y u) (h : flatT t = true) (h' : flatT u = true) : eqV x y = PyData.eqv t u := by
  cases d <;> cases d' <;> first | (simp only [eqV, PyData.eqv]; done) | cases h | cases h' | (simp [eqV, PyData.eqv]; done) | (unfold eqV PyData.eqv; rfl)
theorem flat_any {K : PySem.W.Frag} {F : Hp} {x : V} {t : T} (d : Dp K F x t) (h : flatT t = true) : ∀ {ts : List T} {xs : List V}, DpAll K F xs ts → ts.all flatT = true → inV x xs = ts.any fun z => PyData.eqv z t
  | [], _, h1, _ => by cases h1; rfl
  | u :: ts, _, .cons a b, h1 => by
    rw [List.all_cons, Bool.and_eq_true] at h1
    have e := flat_any d h b h1.2
    unfold inV at e ⊢
    rw [List.any_cons, List.any_cons, e, flat_eqv a d h1.1 h]
def rIn2 (K : PySem.W.Frag) : R2 := fun x y H Q => rInD K x y H Q ∨ rIn K false x y H Q
theorem op_in2 {X : Cx} (hu : X.A.units + 65 < cLine) : OpR X (compareOp .In) (rIn2 X.K) := opr_or (op_inD hu) op_in_seq
theorem does_in {K : PySem.W.Frag} : Does2 K (rIn2 K) (gIn id) := by
  intro x y t u w F H Q ff dx dy h
  cases u with
  | list ds =>
    simp only [gIn] at h
    split at h
    · rename_i hs
      rw [Bool.and_eq_true] at hs
      cases h
      exact ⟨trivial, fun q => .inl ⟨t, ds, dp_hand _ (noD_sh hs.1) (dx.dp ff), dp_hand _ (noD_sh hs.2) (dy.dp ff), hs.1, hs.2, q.1 _ (.bl _)⟩⟩
    · cases h
  | tuple ds =>
    simp only [gIn] at h
    split at h
    · rename_i hs
      rw [Bool.and_eq_true] at hs
      cases h
      cases dy with
      | tup h1 d1 =>
        have dx' : Dp K F x t := by cases t <;> first | exact dx | (cases hs.1)
        exact ⟨trivial, fun q => .inr ⟨_, _, rfl, .inr (tupS ff h1), dp_flat dx' hs.1, dp_flats d1 hs.2, by rw [flat_any dx' hs.1 d1 hs.2]; exact q.1 _ (.bl _)⟩⟩
    · cases h
  | _ => cases h
/-! ### an item -/
def gIx : T → T → Option Od
  | .list ts, .int i => (atI ts i).map .r
  | .tuple ts, .int i => (atI ts i).map .r
  | _, _ => none
theorem atI_dp {K : PySem.W.Frag} {F : Hp} {ts : List T} {xs : List V} {i : Int} {t : T} (d : DpAll K F xs ts) (h : atI ts i = some t) : ∃ v, atI xs i = some v ∧ Dp K F v t := by
  unfold atI at h ⊢
  rw [dpAll_len d]
  cases q : ixN ts.length i with
  | none => rw [q] at h; cases h
  | some j => rw [q] at h; exact dpAll_get d h
def rIx2 (K : PySem.W.Frag) : R2 := fun x y H Q => rIxL K x y H Q ∨ rIxT K x y H Q
theorem ix2 {X : Cx} : IxR X (rIx2 X.K) := by
  intro value slice pins s σ H x y v u Q I rx ry h hs
  rcases h with h | h
  · exact ix_list value slice pins s σ H x y v u Q I rx ry h hs
  · exact ix_tup value slice pins s σ H x y v u Q I rx ry h hs
theorem does_ix {K : PySem.W.Frag} : Does2 K (rIx2 K) gIx := by
  intro x y t u w F H Q ff dx dy h
  cases t with
  | list ts =>
    cases u with
    | int i =>
      simp only [gIx] at h
      cases q : atI ts i with
      | none => rw [q] at h; cases h
      | some t' =>
        rw [q] at h; cases h
        obtain ⟨p, xs, rfl, h1, d1⟩ := dx
        cases dy
        obtain ⟨v, hv, dv⟩ := atI_dp d1 q
        exact ⟨trivial, fun k => .inl ⟨p, xs, i, v, rfl, rfl, h1, hv, k.1 _ dv⟩⟩
    | _ => cases h
  | tuple ts =>
    cases u with
    | int i =>
      simp only [gIx] at h
      cases q : atI ts i with
      | none => rw [q] at h; cases h
      | some t' =>
        rw [q] at h; cases h
        cases dy
        cases dx with
        | tup h1 d1 =>
          obtain ⟨v, hv, dv⟩ := atI_dp d1 q
          exact ⟨trivial, fun k => .inr ⟨_, _, i, v, rfl, rfl, tupS ff h1, hv, k.1 _ dv⟩⟩
    | _ => cases h
  | _ => cases h
section
variable {X : Cx} {W : WX} {a b c : Expr} {ma mb mc : SemE} {pos : Pos}
theorem qix (ha : QE X W a ma) (hb : QE X W b mb) (hs : ∀ o i, subscripted b false o i = operate [o, i] (getItem o i) := by intros; rfl) : QE X W (.Subscript a b pos) (eOp2 gIx ma mb) :=
  pe_mono (pe_ix ix2 ha hb hs) fun σ H Q h => tX_imp (two h) fun x H1 h1 => tX_imp h1 fun y H2 h2 => does2 does_ix h2
def eNeg (m : SemE) : SemE := fun e => (m e).bind fun r e1 => match r.val e1 with
  | some (.int i) => .ok (.r (.int (-i))) e1
  | _ => .bad
theorem qneg (ha : QE X W a ma) : QE X W (.UnaryOp .USub a pos) (eNeg ma) := by
  refine pe_mono (pe_un un_neg ha) fun σ H Q h => ?_
  obtain ⟨e, F, R, h⟩ := h
  refine tX_imp (tX_bind (rel := fun σ => OdR X.K σ) R .refl h) fun x H1 ⟨r, e1, F1, R1, S1, O1, h1⟩ => ?_
  cases q : r.val e1 with
  | none => simp only [q] at h1; exact h1.elim
  | some t =>
    have d := val_ok R1 O1 q
    cases t with
    | int i => simp only [q] at h1; cases d; exact ⟨i, rfl, h1 _ F1 H1 R1 S1 (.int _)⟩
    | none => simp only [q] at h1; exact h1.elim
    | bool _ => simp only [q] at h1; exact h1.elim
    | str _ => simp only [q] at h1; exact h1.elim
    | list _ => simp only [q] at h1; exact h1.elim
    | tuple _ => simp only [q] at h1; exact h1.elim
    | dict _ => simp only [q] at h1; exact h1.elim
end
end Ev

set_option Elab.async false
set_option linter.all false
set_option maxRecDepth 100000
namespace Ev
open PySem PySem.Spec PyProof.Rows L2
/-! ### isinstance -/
def kindT : T → String
  | .none => "NoneType"
  | .bool _ => "bool"
  | .int _ => "int"
  | .str _ => "str"
  | .list _ => "list"
  | .tuple _ => "tuple"
  | .dict _ => "dict"
def isInt : T → Bool
  | .bool _ => true
  | .int _ => true
  | _ => false
def isBool : T → Bool
  | .bool _ => true
  | _ => false
def isStr : T → Bool
  | .str _ => true
  | _ => false
def isList : T → Bool
  | .list _ => true
  | _ => false
def isTuple : T → Bool
  | .tuple _ => true
  | _ => false
/-- an exception as a tree -/
def isXk : List (T × T) → Bool
  | [(.none, .str _), (.none, _)] => true
  | _ => false
def isX : T → Bool
  | .dict kvs => isXk kvs
  | _ => false
def isDict : T → Bool
  | .dict kvs => !isXk kvs
  | _ => false
def isTL : T → Bool
  | .tuple _ => true
  | .list _ => true
  | _ => false
theorem k_int (t : T) (_ : isX t = false) : kitB (kindT t) "int" = some (isInt t) := by cases t <;> (simp only [kindT, isInt]; decide +kernel)
theorem k_bool (t : T) (_ : isX t = false) : kitB (kindT t) "bool" = some (isBool t) := by cases t <;> (simp only [kindT, isBool]; decide +kernel)
theorem k_str (t : T) (_ : isX t = false) : kitB (kindT t) "str" = some (isStr t) := by cases t <;> (simp only [kindT, isStr]; decide +kernel)
theorem k_list (t : T) (_ : isX t = false) : kitB (kindT t) "list" = some (isList t) := by cases t <;> (simp only [kindT, isList]; decide +kernel)
theorem k_tuple (t : T) (_ : isX t = false) : kitB (kindT t) "tuple" = some (isTuple t) := by cases t <;> (simp only [kindT, isTuple]; decide +kernel)
theorem k_tl {K : PySem.W.Frag} (t : T) (hX : isX t = false) : PySem.W.kitAny K (.type (kindT t)) [.type "tuple", .type "list"] = some (isTL t) := by
  refine kitAny_cons (kit_ty (k_tuple t hX)) (fun h => kitAny_cons (r := isTL t) (kit_ty (k_list t hX)) (fun h2 => ?_) (fun h2 => ?_)) (fun h => ?_)
  · cases t <;> first | rfl | exact Bool.noConfusion h | exact Bool.noConfusion h2
  · cases t <;> first | rfl | exact Bool.noConfusion h | exact Bool.noConfusion h2
  · cases t <;> first | rfl | exact Bool.noConfusion h
theorem sqL_ty {K : PySem.W.Frag} {H : Hp} {p : Addr} {xs : List V} (h : SqL K H p xs) : TyX K H (.ref p) (.type "list") := by
  rcases h with h | ⟨o, its, n, hk, hc, _⟩
  · rcases h with h | ⟨o, h⟩
    · exact .base (.lst h)
    · exact .base (.frz h)
  · exact .kList hk hc
theorem sqT_ty {K : PySem.W.Frag} {H : Hp} {p : Addr} {xs : List V} (h : SqT K H p xs) : TyX K H (.ref p) (.type "tuple") := by
  rcases h with h | ⟨o, its, n, hk, hc, _⟩
  · rcases h with h | ⟨o, h⟩
    · exact .base (.tup h)
    · exact .fTuple h
  · exact .kTuple hk hc
theorem kvs_noX {K : PySem.W.Frag} {F : Hp} {ks : List (List Key × V)} {kvs : List (T × T)} (h : DpKvs K F ks kvs) : isXk kvs = false := by
  cases h with
  | nil => rfl
  | cons _ _ => rfl
theorem ks_noX {K : PySem.W.Frag} {F : Hp} {ks : List (Key × V)} {kvs : List (T × T)} (h : DpKs K F ks kvs) : isXk kvs = false := by
  cases h with
  | nil => rfl
  | @cons k _ _ _ _ _ _ => cases k <;> rfl
/-- a kept exception -/
def IsEx (K : PySem.W.Frag) (H : Hp) (x : V) (C : Addr) : Prop := ∃ a dx fs, x = .ref a ∧ ExK K C ∧ H a = some (exk a C dx) ∧ H dx = some (.xd fs)
def TyA (K : PySem.W.Frag) (H : Hp) (x : V) (t : T) : Prop := (isX t = false ∧ TyX K H x (.type (kindT t))) ∨ (isX t = true ∧ ∃ C, IsEx K H x C)
theorem dpo_ty {K : PySem.W.Frag} {F H : Hp} {x : V} {t : T} (ff : ∀ a o, F a = some o → H a = some o) (d : DpO K F H x t) : TyA K H x t := by
  cases t with
  | list ts => obtain ⟨p, xs, rfl, h, _⟩ := d; exact .inl ⟨rfl, sqL_ty h⟩
  | none => cases d; exact .inl ⟨rfl, .base .non⟩
  | bool _ => cases d; exact .inl ⟨rfl, .base (.bl _)⟩
  | int _ => cases d; exact .inl ⟨rfl, .base (.int _)⟩
  | str _ => cases d; exact .inl ⟨rfl, .base (.str _)⟩
  | tuple _ => cases d with | tup h _ => exact .inl ⟨rfl, sqT_ty (tupS ff h)⟩
  | dict _ => cases d with
    | dct h k => exact .inl ⟨kvs_noX k, .base (.dT (ff _ _ h))⟩
    | dck h k => exact .inl ⟨ks_noX k, .base (.dK (ff _ _ h))⟩
    | exo x h1 h2 _ => exact .inr ⟨rfl, _, _, _, _, rfl, x, ff _ _ h1, ff _ _ h2⟩
/-! ### isinstance of a kept exception -/
section
open PySem.W PySem.Calls
variable {prog : Program} {w : World} {A : Around} {E : Value → Shared → Prop} {s : Shared} {K : Frag} {x D : Addr} {ox : Obj} {od : Option Obj}
theorem findObj_dataD {C : Addr} {name : Str} {a g : Value} (hc : (clsIn K C).isSome = true) (ha : findIn K (.ref C) name = some (some a)) (hg : specialIn K a "__get__" = some (some g)) (ht : takesIn K a = some true) : findObj K C od name = some (.bind g a) := by
  obtain ⟨cd, hc⟩ := Option.isSome_iff_exists.mp hc
  unfold findObj
  rw [hc, Option.bind_some, ha, Option.bind_some]
  simp [hg, ht]
theorem exk_class {Q : Option Value → Shared → Prop} (T : ExcC K D) (X : K.In s.heap) (I : InstAt s.heap x ox D od) (h : Q (some (.ref D)) { s with toks := s.toks + 1 }) : wpAny (model prog w) A (getAttr? (.ref x) "__class__") Q E s := by
  have hf : findObj K D od "__class__" = some (.bind (.builtin "getset_descriptor.__get__") (.builtin "object.__class__")) := findObj_dataD (by obtain ⟨cd, hc, _⟩ := any_some T.hd; rw [hc]; rfl) T.ha T.hn T.ht
  obtain ⟨hp, g, d, t, os⟩ := s
  have L0 := I.type (M := model prog w)
  have L1 := looks_findIn (M := model prog w) X T.hg
  have L2 := looks_findIn (M := model prog w) X T.hk
  have L3 := looks_find (M := model prog w) X I hf
  have sub : Looks (model prog w) hp (isInstance (.ref x) (.type "BaseException")) true := L0.andThen (looks_subIn X T.hs)
  have hx0 : (false && onTheHeap (Value.builtin "BaseException.__getattribute__")) = false := rfl
  have hx2 : (Value.builtin "BaseException.__getattribute__" == Value.builtin "object.__getattribute__") = false := by decide +kernel
  have hx1 : (onTheHeap (Value.ref D) && Value.builtin "BaseException.__getattribute__" == Value.builtin "object.__getattribute__") = false := by rw [hx2]; rfl
  unfold getAttr? getAttrBy? getAttrBy
  refine wpAny_bind (wpAny_mkText (wpAny_bind (wpAny_attempt (wpAny_holding (wpAny_bind (L0.at (wpAny_bind (L1.at ?_))))))))
  show wpAny _ _ (if (onTheHeap (Value.ref D) && Value.builtin "BaseException.__getattribute__" == Value.builtin "object.__getattribute__") = true then _ else _) _ _ _
  rw [hx1, if_neg Bool.false_ne_true]
  unfold getAttrByItsOwn hookBefore
  refine wpAny_bind ?_
  rw [if_pos (show onTheHeap (Value.ref D) = true from rfl)]
  refine L2.at ?_
  refine wpAny_bind (wpAny_attempt (wpAny_holding ?_))
  unfold callGetattribute
  rw [hx0, if_neg Bool.false_ne_true]
  unfold boundAndCalled
  rw [PySem.F.excAttr_ValueError.ga.bind (.ref x)]
  refine wpAny_bind (wpAny_pure ?_)
  show wpAny _ _ (call (.builtin "BaseException.__getattribute__") [.ref x, .str "__class__" t]) _ _ _
  refine wpAny_call (codeAny_call_builtin PySem.F.excAttr_ValueError.ga.plain PySem.F.entry_bexc_ga ?_)
  refine @check_slot (model prog w) _ _ ⟨hp, g, d, t + 1, os⟩ "BaseException.__getattribute__" "BaseException" "__getattribute__" (.ref x) [.str "__class__" t] [] _ (by decide +kernel) (by decide +kernel) sub (PySem.F.args_bexc_ga (.ref x) (.str "__class__" t)) ?_
  unfold Builtin.«object.__getattribute__»
  refine wpAny_bind (wpAny_of_eq (a := ((Value.ref x : Value), [Value.str "__class__" t])) (by first | rfl | (simp only [slotArgs]; rfl)) ?_)
  refine wpAny_bind (wpAny_pure (wpAny_bind (L0.at (wpAny_bind (L3.at ?_)))))
  show wpAny _ _ (holding [Value.builtin "object.__class__"] (call (.builtin "getset_descriptor.__get__") [.builtin "object.__class__", .ref x, .ref D]) >>= ret) _ _ _
  refine wpAny_bind (wpAny_holding (wpAny_call (class_get (s := ⟨hp, g, d, t + 1, os⟩) (ox := ox) (od := od) X I T.hm ?_)))
  refine wpAny_pure ?_
  show wpAny _ _ (handedOut (.ref D)) _ _ _
  rw [handedOut_of (v := .ref D) rfl]
  first
    | exact wpAny_pure (wpAny_pure h)
    | exact wpAny_pure h
    | exact wpAny_pure (wpAny_bind (wpAny_pure (wpAny_pure h)))
theorem exk_kit (T : ExcC K D) : KitX K (.ref x) (.ref D) (fun h => InstAt h x ox D od) where
  ty := fun _ _ _ I => I.type
  it := fun _ _ X _ => by
    obtain ⟨cdD, hcD, _⟩ := any_some T.hd
    unfold clsIn at hcD
    split at hcD
    · rename_i c' d' cd' sl' ho
      intro A' Q' E' s' k q
      unfold isType loadHead
      exact wpAny_bind (wpAny_loadPart (k _ _ (X _ _ ho)) (wpAny_pure q))
    · cases hcD
  ne := fun h tp dd its n sl X htp => by
    obtain ⟨cdD, hcD, _⟩ := any_some T.hd
    refine Bool.eq_false_iff.mpr fun q => ?_
    have e : D = tp := Value.ref.inj (beq_iff_eq.mp q)
    subst e
    unfold clsIn at hcD
    split at hcD
    · rename_i c' d' cd' sl' ho
      have z := (X _ _ ho).symm.trans htp
      cases z
    · cases hcD
  ca := fun X I k => exk_class T X I k
end
section
variable {X : Cx}
theorem exk_inst {pins : List (Addr × Obj)} {σ : L2.St} {H : Hp} {s : Shared} {a C dx : Addr} {fs : List (Str × V)} (I : Inv X pins σ H s) (h1 : H a = some (exk a C dx)) (h2 : H dx = some (.xd fs)) :
    ∃ o od, PySem.W.InstAt s.heap a o C (some od) ∧ ∃ mA : Str → Option Value, (∀ f, RelO (fs.lookup f) (mA f)) ∧ ∀ n, PySem.W.lookIn n od = some (mA n) := by
  obtain ⟨⟨o, vs, e1, e2, e3, e4⟩, _⟩ := (show ObjOk X.prog X.w H s.heap a (exk a C dx) from I.hok a _ h1)
  have hx : ObjOk X.prog X.w H s.heap dx (.xd fs) := I.hok dx _ h2
  obtain ⟨mA, hns, hr⟩ := hx
  obtain ⟨od, ho, hl⟩ := lookIn_ns hns
  exact ⟨o, od, ⟨e1, e2, by unfold PySem.W.notCls; rw [e4] <;> rfl, by rw [e3]; exact ho⟩, mA, hr, hl⟩
def rIsX (K : PySem.W.Frag) : List V → Hp → VK → Prop := fun xs H Q => ∃ (x c : V) (C : Addr) (u : Value) (b : Bool), xs = [x, c] ∧ ClsV c u ∧ IsEx K H x C ∧ PySem.W.kitOne K (.ref C) u = some b ∧ Q (.bl b) H
def rIsXT (K : PySem.W.Frag) : List V → Hp → VK → Prop := fun xs H Q => ∃ (x : V) (tp : Addr) (cs : List V) (C : Addr) (us : List Value) (b : Bool), xs = [x, .ref tp] ∧ H tp = some (.tup cs) ∧ Paired ClsV cs us ∧ IsEx K H x C ∧ PySem.W.kitAny K (.ref C) us = some b ∧ Q (.bl b) H
theorem call_isX : CallR X (.builtin "isinstance") (rIsX X.K) := by
  intro pins s σ H xs us Q I r h
  obtain ⟨x, c, C, u, b, rfl, k, ⟨a, dx, fs, rfl, T, h1, h2⟩, e, q⟩ := h
  obtain ⟨u1, u2, rfl, r1, r2⟩ := vals2 r
  have e2 := k.eq r2
  subst e2
  cases (show u1 = Value.ref a from r1)
  obtain ⟨o, od, J, _⟩ := exk_inst I h1 h2
  exact PySem.W.kia_one (exk_kit (ox := o) (od := some od) T.x) I.kIn J e (fun z => nomatch z) fun tk => ⟨.bl b, H, I.tok tk, rfl, q⟩
theorem call_isXT : CallR X (.builtin "isinstance") (rIsXT X.K) := by
  intro pins s σ H xs us Q I r h
  obtain ⟨x, tp, cs, C, ws, b, rfl, hT, k, ⟨a, dx, fs, rfl, T, h1, h2⟩, e, q⟩ := h
  obtain ⟨u1, u2, rfl, r1, r2⟩ := vals2 r
  cases (show u2 = Value.ref tp from r2)
  cases (show u1 = Value.ref a from r1)
  obtain ⟨o, od, J, _⟩ := exk_inst I h1 h2
  obtain ⟨_, its, rv, o', h1', h2', n, h3⟩ := (show ObjOk X.prog X.w H s.heap tp (.tup cs) from I.hok tp _ hT)
  have e3 := ClsV.all k rv
  subst e3
  obtain ⟨oc, od', dt, sl⟩ := o'
  simp only at h2' h3
  subst h2' h3
  exact PySem.W.kia_tup (exk_kit (ox := o) (od := some od) T.x) I.kIn J h1' e (fun z => nomatch z) fun tk => ⟨.bl b, H, I.tok tk, rfl, q⟩
end
section
variable {X : Cx} {W : WX} {a b c : Expr} {ma mb mc : SemE} {pos : Pos}
def eIsi (f : T → Bool) (m : SemE) : SemE := fun e => (m e).bind fun r e1 => match r.val e1 with
  | some t => .ok (.r (.bool (f t))) e1
  | none => .bad
theorem isi_read {K : PySem.W.Frag} {f : T → Bool} {m : SemE} {σ : Sg} {H : Hp} {Q : VK} (h : tE K W (eIsi f m) σ H Q) :
    tE K W m σ H fun x H1 => ∃ t, TyA K H1 x t ∧ Q (.bl (f t)) H1 ∧ ∀ y p, H1 p = none → TyA K (upd H1 p (.tup y)) x t ∧ Q (.bl (f t)) (upd H1 p (.tup y)) := by
  obtain ⟨e, F, R, h⟩ := h
  refine tX_imp (tX_bind (rel := fun σ => OdR K σ) R .refl h) fun x H1 ⟨r, e1, F1, R1, S1, O1, h1⟩ => ?_
  cases q : r.val e1 with
  | none => simp only [q] at h1; exact h1.elim
  | some t =>
    simp only [q] at h1
    have d := val_ok R1 O1 q
    refine ⟨t, dpo_ty R1.sub d, h1 _ F1 H1 R1 S1 (.bl _), fun y p hp => ?_⟩
    have R2 := laid_own (o := .tup y) R1 hp
    have S2 := laid_own_step (e := e1) (σ := σ) (F := F1) (o := .tup y) hp
    have d2 : DpO K F1 (upd H1 p (.tup y)) x t := by
      cases t with
      | list ts => obtain ⟨q, xs, rfl, h, z⟩ := d; exact ⟨q, xs, rfl, sqL_mono (fun a o w => by rw [upd_ne (ne_of_none w hp)]; exact w) h, z⟩
      | _ => exact d
    exact ⟨dpo_ty R2.sub d2, h1 _ F1 _ R2 (S1.trans S2) (.bl _)⟩
theorem qisi {n : Str} {T' : String} {f : T → Bool} {p p2 : Pos} (hk : ∀ t, isX t = false → kitB (kindT t) T' = some (f t)) (hg : Gl X "isinstance") (hm : X.mg "isinstance" = none) (hgn : Gl X n) (hmn : X.mg n = none) (hv : bootBuiltins n = some (.type T')) (ha : QE X W a ma)
    (hn : n ≠ "__name__" := by decide) (hd : (n == ("__debug__" : Str)) = false := by decide) (hT : T' ∈ (["int", "bool", "str", "list", "tuple", "dict"] : List String) := by decide) (hxk : ∀ t, isX t = true → f t = false := by intro t h; cases t <;> first | rfl | exact Bool.noConfusion h | (show (!isXk _) = false; rw [show isXk _ = true from h]; rfl))
    (he : starEach [a, .Name n p2] X.env = (false, eval a X.env) :: starEach [.Name n p2] X.env := by rfl) (he2 : starEach [.Name n p2] X.env = [(false, eval (.Name n p2) X.env)] := by rfl) (hpl : (backTo pos (starEach [.Name n p2] X.env)).any (·.1) = false := by rfl) :
    QE X W (.Call (.Name "isinstance" p) [a, .Name n p2] [] pos) (eIsi f ma) := by
  refine pe_mono (pe_callB (CallR.or call_isi call_isX) hg hm (by decide +kernel) (pa_cons ha (pa_cons (pe_bltn hgn hmn hv (v := .ty T') rfl hn hd) pa_nil he2) he) (by decide) (by decide) he hpl) fun σ H Q h => ?_
  refine tX_imp (isi_read h) fun x H1 ⟨t, ty, q, _⟩ => ?_
  rcases ty with ⟨nx, ty⟩ | ⟨yx, C, ty⟩
  · exact .inl ⟨x, .ty T', _, .type T', f t, rfl, .ty T', ty, kit_ty (hk t nx), q⟩
  · obtain ⟨a, dx, fs, ea, T, h1, h2⟩ := ty
    exact .inr ⟨x, .ty T', C, .type T', f t, rfl, .ty T', ⟨a, dx, fs, ea, T, h1, h2⟩, by rw [hxk t yx]; exact T.kt T' hT, q⟩
theorem qisi2 {n n' : Str} {T1 T2 : String} {f : T → Bool} {p p2 p3 p4 : Pos} {kk : Nat} (hk : ∀ t, isX t = false → PySem.W.kitAny X.K (.type (kindT t)) [.type T1, .type T2] = some (f t)) (hg : Gl X "isinstance") (hm : X.mg "isinstance" = none) (hgn : Gl X n) (hmn : X.mg n = none) (hv : bootBuiltins n = some (.type T1))
    (hgn' : Gl X n') (hmn' : X.mg n' = none) (hv' : bootBuiltins n' = some (.type T2)) (ha : QE X W a ma)
    (hn : n ≠ "__name__" := by decide) (hd : (n == ("__debug__" : Str)) = false := by decide) (hn' : n' ≠ "__name__" := by decide) (hd' : (n' == ("__debug__" : Str)) = false := by decide) (hT1 : T1 ∈ (["int", "bool", "str", "list", "tuple", "dict"] : List String) := by decide) (hT2 : T2 ∈ (["int", "bool", "str", "list", "tuple", "dict"] : List String) := by decide) (hxk : ∀ t, isX t = true → f t = false := by intro t h; cases t <;> first | rfl | exact Bool.noConfusion h | (show (!isXk _) = false; rw [show isXk _ = true from h]; rfl))
    (he : starEach [a, .Tuple [.Name n p2, .Name n' p3] kk p4] X.env = (false, eval a X.env) :: starEach [.Tuple [.Name n p2, .Name n' p3] kk p4] X.env := by rfl) (he2 : starEach [.Tuple [.Name n p2, .Name n' p3] kk p4] X.env = [(false, eval (.Tuple [.Name n p2, .Name n' p3] kk p4) X.env)] := by rfl)
    (he3 : starEach [.Name n p2, .Name n' p3] X.env = (false, eval (.Name n p2) X.env) :: starEach [.Name n' p3] X.env := by rfl) (he4 : starEach [.Name n' p3] X.env = [(false, eval (.Name n' p3) X.env)] := by rfl)
    (hpl : (backTo pos (starEach [.Tuple [.Name n p2, .Name n' p3] kk p4] X.env)).any (·.1) = false := by rfl) :
    QE X W (.Call (.Name "isinstance" p) [a, .Tuple [.Name n p2, .Name n' p3] kk p4] [] pos) (eIsi f ma) := by
  refine pe_mono (pe_callB (CallR.or call_isiT call_isXT) hg hm (by decide +kernel) (pa_cons ha (pa_cons (pe_tup (pa_cons (pe_bltn hgn hmn hv (v := .ty T1) rfl hn hd) (pa_cons (pe_bltn hgn' hmn' hv' (v := .ty T2) rfl hn' hd') pa_nil he4) he3)) pa_nil he2) he) (by decide) (by decide) he hpl) fun σ H Q h => ?_
  refine tX_imp (isi_read h) fun x H1 ⟨t, ty, q, z⟩ => ?_
  refine ⟨(by show 2 ≤ sizeLine; decide), fun p hp => ?_⟩
  obtain ⟨ty2, q2⟩ := z [.ty T1, .ty T2] p hp
  rcases ty2 with ⟨nx, ty2⟩ | ⟨yx, C, ty2⟩
  · exact .inl ⟨x, p, [.ty T1, .ty T2], _, [.type T1, .type T2], f t, rfl, upd_same, .cons (.ty T1) (.cons (.ty T2) .nil), ty2, hk t nx, q2⟩
  · obtain ⟨a, dx, fs, ea, T, h1, h2⟩ := ty2
    exact .inr ⟨x, p, [.ty T1, .ty T2], C, [.type T1, .type T2], f t, rfl, upd_same, .cons (.ty T1) (.cons (.ty T2) .nil), ⟨a, dx, fs, ea, T, h1, h2⟩, by
      rw [hxk t yx]
      unfold PySem.W.kitAny
      rw [T.kt T1 hT1]
      unfold PySem.W.kitAny
      rw [T.kt T2 hT2]
      rfl, q2⟩

/-! ### slices -/
abbrev SemP := En → Out (Option Int)
def pNo : SemP := fun e => .ok none e
def pSo (m : SemE) : SemP := fun e => (m e).bind fun r e1 => match r.val e1 with
  | some (.int i) => .ok (some i) e1
  | _ => .bad
def cutT {α : Type} (xs : List α) (lo hi : Option Int) : List α := (xs.drop (HT.sIx xs.length 0 lo)).take (HT.sIx xs.length xs.length hi - HT.sIx xs.length 0 lo)
def eSl (m : SemE) (lo hi : SemP) : SemE := fun e => (m e).bind fun r e1 => (lo e1).bind fun l e2 => (hi e2).bind fun h e3 => match r.val e3 with
  | some (.list ts) => .ok (.b (.l (cutT ts l h))) e3
  | some (.tuple ts) => .ok (.r (.tuple (cutT ts l h))) e3
  | _ => .bad
end
/-! ### xs[::-1] of a list and of a tuple -/
section
variable {prog : Program} {w : World} {A : Around} {E : Value → Shared → Prop} {s : Shared}
end
end Ev
namespace Ev
open PySem PySem.Spec PyProof.Rows L2 HT
section
variable {prog : Program} {w : World} {A : Around} {E : Value → Shared → Prop} {s : Shared}
end
section
variable {X : Cx} {W : WX} {a : Expr} {ma : SemE} {pos : Pos}
def eRev (m : SemE) : SemE := fun e => (m e).bind fun r e1 => match r.val e1 with
  | some (.list ts) => .ok (.b (.l ts.reverse)) e1
  | some (.tuple ts) => .ok (.r (.tuple ts.reverse)) e1
  | _ => .bad
end
end Ev

set_option Elab.async false
set_option linter.all false
set_option maxRecDepth 100000
namespace Ev
open PySem PySem.Spec PyProof.Rows L2
section
variable {K : PySem.W.Frag} {W : WX} {e e1 : En} {σ : Sg} {F H : Hp}
/-- what a name alone holds is changed -/
theorem upd_own {i : Nat} {l : Bool} {z : Bx} {ts' : List T} {p : Addr} {xs' : List V} (R : Rel K e σ F H) (h1 : e[i]? = some (.ow l z)) (h2 : σ[i]? = some (some (.ref p))) (d : DpAll K F xs' ts') :
    Rel K (e.set i (.ow l (.l ts'))) σ F (upd H p (.lst xs')) ∧ Step e (e.set i (.ow l (.l ts'))) σ F H F (upd H p (.lst xs')) := by
  have hi : i < e.length := (List.getElem?_eq_some_iff.mp h1).1
  have ow : Own e σ p := ⟨i, l, z, h1, h2⟩
  have hf := (R.owned ow).1
  have get : ∀ (j : Nat) (s : Sl), (e.set i (.ow l (.l ts')))[j]? = some s → (j = i ∧ s = .ow l (.l ts')) ∨ (i ≠ j ∧ e[j]? = some s) := fun j s h => by
    by_cases q : i = j
    · subst q; rw [List.getElem?_set_self hi] at h; cases h; exact .inl ⟨rfl, rfl⟩
    · rw [List.getElem?_set_ne q] at h; exact .inr ⟨q, h⟩
  have kind : ∀ (j : Nat) (l' : Bool) (b' : Bx), (e.set i (.ow l (.l ts')))[j]? = some (.ow l' b') → ∃ b, e[j]? = some (.ow l' b) := fun j l' b' h => by
    rcases get j _ h with ⟨rfl, q⟩ | ⟨_, q⟩
    · cases q; exact ⟨z, h1⟩
    · exact ⟨b', q⟩
  refine ⟨⟨fun a o h => ?_, by simp [R.len], fun j s o g1 g2 => ?_, fun j j' l1 b1 l2 b2 q g1 g2 g3 g4 => ?_⟩, ⟨fun _ _ h => h, fun a o h n => ?_, fun a o h => ?_, fun a ⟨j, l', b', g1, g2⟩ => ?_, fun j hj => ?_, kind⟩⟩
  · rw [upd_ne (ne_of_none h hf)]; exact R.sub _ _ h
  · rcases get j s g1 with ⟨rfl, rfl⟩ | ⟨q, g⟩
    · rw [h2] at g2; cases g2; exact ⟨p, rfl, hf, xs', upd_same, d⟩
    · have w := R.at_ j s o g g2
      cases s with
      | un => trivial
      | v t => exact w
      | fz b => exact w
      | ow l' b =>
        obtain ⟨p', ep, hf', bx⟩ := w
        subst ep
        have np : p' ≠ p := fun w => by subst w; exact q (R.ne i j l z l' b p' h1 g h2 g2)
        exact ⟨p', rfl, hf', bx_keep bx (fun _ _ h => h) fun o' h' => by rw [upd_ne np]; exact h'⟩
  · obtain ⟨b1', q1⟩ := kind j _ _ g1
    obtain ⟨b2', q2⟩ := kind j' _ _ g2
    exact R.ne j j' _ _ _ _ q q1 q2 g3 g4
  · have np : a ≠ p := fun w => n (by subst w; exact ow)
    exact ⟨by rw [upd_ne np]; exact h, fun w => w⟩
  · by_cases q : a = p
    · subst q; exact ⟨_, upd_same⟩
    · exact ⟨o, by rw [upd_ne q]; exact h⟩
  · obtain ⟨b, q⟩ := kind j _ _ g1
    exact ⟨j, l', b, q, g2⟩
  · obtain ⟨b', q⟩ := hj
    by_cases ij : i = j
    · subst ij
      rw [h1] at q
      rcases q with q | q
      · cases q; exact ⟨_, .inl (List.getElem?_set_self hi)⟩
      · cases q
    · exact ⟨b', by rw [List.getElem?_set_ne ij]; exact q⟩
end
def eMut (i : Nat) (g : List T → List T → Option (List T × T)) (ma : SemA) : SemE := fun e => match e[i]? with
  | some (.ow _ (.l _)) => (ma e).bind fun rs e1 => (match escs rs e1 with
    | some (us, e2) => (match e2[i]? with
      | some (.ow l (.l ts)) => (match g ts us with
        | some (ts', w) => .ok (.r w) (e2.set i (.ow l (.l ts')))
        | none => .bad)
      | _ => .bad)
    | none => .bad)
  | _ => .bad
section
variable {X : Cx} {W : WX} {a b c : Expr} {ma mb mc : SemE} {pos : Pos}
/-! ### the methods -/
def gAppend (ts us : List T) : Option (List T × T) := match us with
  | [u] => if ts.length < sizeLine then some (ts ++ [u], .none) else none
  | _ => none
def gInsert (ts us : List T) : Option (List T × T) := match us with
  | [.int i, u] => if ts.length < sizeLine ∧ 0 ≤ i ∧ i < 2 ^ 63 then some (ts.take i.toNat ++ [u] ++ ts.drop i.toNat, .none) else none
  | _ => none
/-! ### built-ins -/
end
/-- of one value; of two -/
def g1 (f : T → Option Od) : List T → Option Od
  | [t] => f t
  | _ => none
def g2 (f : T → T → Option Od) : List T → Option Od
  | [t, u] => f t u
  | _ => none
theorem doesN1 {K : PySem.W.Frag} {r : List V → Hp → VK → Prop} {f : T → Option Od} (h : ∀ (x : V) (t : T) (w : Od) (F H : Hp) (Q : VK), (∀ a o, F a = some o → H a = some o) → DpO K F H x t → f t = some w → Back w ∧ (Fin K F H Q w → r [x] H Q)) : DoesN K r (g1 f) := by
  intro xs ts w F H Q ff d hg
  cases d with
  | nil => cases hg
  | cons a d =>
    cases d with
    | nil => exact h _ _ w F H Q ff a hg
    | cons _ _ => cases hg
theorem doesN2 {K : PySem.W.Frag} {r : List V → Hp → VK → Prop} {f : T → T → Option Od} (h : ∀ (x y : V) (t u : T) (w : Od) (F H : Hp) (Q : VK), (∀ a o, F a = some o → H a = some o) → DpO K F H x t → DpO K F H y u → f t u = some w → Back w ∧ (Fin K F H Q w → r [x, y] H Q)) : DoesN K r (g2 f) := by
  intro xs ts w F H Q ff d hg
  cases d with
  | nil => cases hg
  | cons a d =>
    cases d with
    | nil => cases hg
    | cons b d =>
      cases d with
      | nil => exact h _ _ _ _ w F H Q ff a b hg
      | cons _ _ => cases hg
def fLen : T → Option Od
  | .list ts => some (.r (.int ts.length))
  | .tuple ts => some (.r (.int ts.length))
  | _ => none
abbrev gLen := g1 fLen
def rLen2 (K : PySem.W.Frag) : List V → Hp → VK → Prop := fun xs H Q => ∃ p ys, xs = [.ref p] ∧ (SqL K H p ys ∨ SqT K H p ys) ∧ Q (.int ys.length) H
theorem does_len {K : PySem.W.Frag} : DoesN K (rLen2 K) gLen := doesN1 fun x t w F H Q ff d hg => by
  cases t with
  | list ts =>
    cases hg
    obtain ⟨p, ys, rfl, h, dd⟩ := d
    exact ⟨trivial, fun q => ⟨p, ys, rfl, .inl h, by rw [dpAll_len dd]; exact q.1 _ (.int _)⟩⟩
  | tuple ts =>
    cases hg
    cases d with
    | tup h dd => exact ⟨trivial, fun q => ⟨_, _, rfl, .inr (tupS ff h), by rw [dpAll_len dd]; exact q.1 _ (.int _)⟩⟩
  | _ => cases hg
def fInt : T → Option Od
  | .int i => some (.r (.int i))
  | .bool k => some (.r (.int (if k then 1 else 0)))
  | _ => none
abbrev gInt := g1 fInt
theorem does_int {K : PySem.W.Frag} : DoesN K (fun xs H Q => (∃ i, xs = [.int i] ∧ Q (.int i) H) ∨ ∃ k, xs = [.bl k] ∧ Q (.int (if k then 1 else 0)) H) gInt := doesN1 fun x t w F H Q ff d hg => by
  cases t with
  | int i => cases hg; cases d; exact ⟨trivial, fun q => .inl ⟨i, rfl, q.1 _ (.int _)⟩⟩
  | bool i => cases hg; cases d; exact ⟨trivial, fun q => .inr ⟨i, rfl, q.1 _ (.int _)⟩⟩
  | _ => cases hg
def fAbs : T → Option Od
  | .int i => some (.r (.int (if i < 0 then -i else i)))
  | _ => none
abbrev gAbs := g1 fAbs
abbrev gMax2 := g2 (gII (fun _ _ => true) fun i j => .int (if j > i then j else i))
abbrev gMin2 := g2 (gII (fun _ _ => true) fun i j => .int (if j < i then j else i))
theorem does2I {K : PySem.W.Frag} {c : Int → Int → Bool} {g : Int → Int → Int} : DoesN K (fun xs H Q => ∃ i j, xs = [.int i, .int j] ∧ Q (.int (g i j)) H) (g2 (gII c fun i j => .int (g i j))) := doesN2 fun x y t u w F H Q ff d d' hg => by
  cases t with
  | int i =>
    cases u with
    | int j =>
      simp only [gII] at hg
      split at hg
      · cases hg; cases d; cases d'; exact ⟨trivial, fun q => ⟨i, j, rfl, q.1 _ (.int _)⟩⟩
      · cases hg
    | _ => cases hg
  | _ => cases hg
theorem does_max2 {K : PySem.W.Frag} : DoesN K (fun xs H Q => ∃ i j, xs = [.int i, .int j] ∧ Q (.int (if j > i then j else i)) H) gMax2 := does2I
theorem does_min2 {K : PySem.W.Frag} : DoesN K (fun xs H Q => ∃ i j, xs = [.int i, .int j] ∧ Q (.int (if j < i then j else i)) H) gMin2 := does2I
abbrev gDivmod := g2 (gII (fun _ j => decide (0 < j ∧ j < 1073741824)) fun i j => .tuple [.int (i / j), .int (i % j)])
def fTuple : T → Option Od
  | .list ts => some (.r (.tuple ts))
  | .tuple ts => some (.r (.tuple ts))
  | _ => none
abbrev gTuple := g1 fTuple
def fList : T → Option Od
  | .list ts => some (.b (.l ts))
  | .tuple ts => some (.b (.l ts))
  | _ => none
abbrev gList := g1 fList
end Ev

set_option Elab.async false
set_option linter.all false
set_option maxRecDepth 100000
namespace Ev
open PySem PySem.Spec PyProof.Rows L2
section
variable {K : PySem.W.Frag} {W : WX} {B : Bd} {e e1 e2 : En} {σ σ1 : Sg} {F H F1 H1 F2 H2 : Hp}
theorem BOk.up (k : BOk B e σ F H) : BOk { B with F := F } e σ F H :=
  ⟨fun _ _ h => h, fun a o h n => ⟨(k.keep a o h n).1, fun z => z⟩, k.dom, k.fresh, k.own, k.lent⟩
theorem BOk.down (k1 : BOk B e1 σ1 F1 H1) (k : BOk { B with F := F1 } e σ F H) : BOk B e σ F H where
  ff := fun a o h => k.ff _ _ (k1.ff _ _ h)
  keep := fun a o h n => ⟨(k.keep a o h n).1, fun z => (k.keep a o h n).2 ((k1.keep a o h n).2 z)⟩
  dom := k.dom
  fresh := k.fresh
  own := k.own
  lent := k.lent
/-! ### targets -/
/-- slots apart from ws stay -/
def Agree (ws : List Nat) (σ σ' : Sg) : Prop := σ'.length = σ.length ∧ ∀ j, j ∉ ws → σ'[j]? = σ[j]?
theorem Agree.refl {ws : List Nat} : Agree ws σ σ := ⟨rfl, fun _ _ => rfl⟩
theorem Agree.trans {ws : List Nat} {σ2 : Sg} (a : Agree ws σ σ1) (b : Agree ws σ1 σ2) : Agree ws σ σ2 := ⟨b.1.trans a.1, fun j h => (b.2 j h).trans (a.2 j h)⟩
abbrev SemG := T → En → Option En
def tG (K : PySem.W.Frag) (B : Bd) (ws : List Nat) (g : SemG) : TG := fun x σ H Q => ∃ e F t e', Rel K e σ F H ∧ BOk B e σ F H ∧ Dp K F x t ∧ g t e = some e' ∧ ∀ σ', Rel K e' σ' F H → BOk B e' σ' F H → Agree ws σ σ' → Q σ' H
theorem pg_mono {X : Cx} {tg : Expr} {t t' : TG} (h : PG X tg t) (m : ∀ x σ H Q, t' x σ H Q → t x σ H Q) : PG X tg t' := ⟨fun pins s σ H v u Q I r q => h.run pins s σ H v u Q I r (m v σ H Q q)⟩
abbrev QG (X : Cx) (B : Bd) (ws : List Nat) (tg : Expr) (g : SemG) : Prop := PG X tg (tG X.K B ws g)
def gN (i : Nat) : SemG := fun t e => if isLent e i then none else some (e.set i (.v t))
theorem qgn {X : Cx} {ws : List Nat} {i : Nat} {x : Str} {pos : Pos} (hN : X.N.Nodup) (hi : X.N[i]? = some x) (hx : Loc X.env.scope x) (hw : i ∈ ws) (hf : X.fn x = true ∨ X.env.scope.names.lookup x = some .local := by first | exact .inl rfl | exact .inr rfl | assumption) : QG X B ws (.Name x pos) (gN i) := by
  refine pg_mono (pg_name hN hi hx hf) fun x σ H Q h => ?_
  obtain ⟨e, F, t, e', R, k, d, hg, q⟩ := h
  simp only [gN] at hg
  cases l : isLent e i with
  | true => rw [l] at hg; cases hg
  | false =>
    rw [l] at hg; cases hg
    obtain ⟨a, b⟩ := set_v R k d (isLent_no l)
    exact q _ a b ⟨by simp, fun j hj => List.getElem?_set_ne fun (z : i = j) => hj (by rw [← z]; exact hw)⟩
abbrev SemGs := List T → En → Option En
def gsNil : SemGs := fun ts e => match ts with
  | [] => some e
  | _ => none
def gsCons (g : SemG) (gs : SemGs) : SemGs := fun ts e => match ts with
  | t :: ts => (match g t e with
    | some e1 => gs ts e1
    | none => none)
  | [] => none
def gT (n : Nat) (gs : SemGs) : SemG := fun t e => match t with
  | .tuple ts => if ts.length = n then gs ts e else none
  | _ => none
/-- target = value -/
def sAsg (g : SemG) (m : SemE) : SemS := fun e => (m e).bind fun r e1 => match esc r e1 with
  | some (t, e2) => (match g t e2 with
    | some e3 => .ok .nx e3
    | none => .bad)
  | none => .bad
/-! ### what a loop walks -/
def Wk (K : PySem.W.Frag) (F0 : Hp) (J : It) (ts : List T) : Prop := ∀ (i : Nat) (F H : Hp), (∀ a o, F0 a = some o → F a = some o) → (∀ a o, F a = some o → H a = some o) →
  (∀ t, ts[i]? = some t → J.go i H ∧ ∀ x H', J.yld i H x H' → (H' = H ∧ Dp K F x t) ∨ ∃ p vs ws, x = .ref p ∧ H p = none ∧ H' = upd H p (.tup vs) ∧ t = .tuple ws ∧ DpAll K F vs ws) ∧ (ts.length ≤ i → J.stop i H)
abbrev SemI := En → Out (List T)
theorem pi_mono {X : Cx} {tg it : Expr} {t t' : TI} (h : PI X tg it t) (m : ∀ σ H Q, t' σ H Q → t σ H Q) : PI X tg it t' := ⟨fun pins s σ H Q I q => h.run pins s σ H Q I (m σ H Q q)⟩
abbrev tI (K : PySem.W.Frag) (W : WX) (m : SemI) : TI := tX K W (fun _ _ F _ J ts => Wk K F J ts) m
abbrev QI (X : Cx) (W : WX) (tg it : Expr) (m : SemI) : Prop := PI X tg it (tI X.K W m)
/-- the items of a list, of a tuple -/
def iOf (m : SemE) : SemI := fun e => (m e).bind fun r e1 => match esc r e1 with
  | some (.list ts, e2) => .ok ts e2
  | some (.tuple ts, e2) => .ok ts e2
  | _ => .bad
/-- lo, lo + 1, .. -/
def intsT (lo : Int) (n : Nat) : List T := (List.range n).map fun (k : Nat) => .int (lo + (k : Int))
theorem wk_range {F : Hp} {lo : Int} {n : Nat} : Wk K F (Itr lo n) (intsT lo n) := by
  intro i F' H ff fh
  refine ⟨fun t ht => ?_, fun hi => (show n ≤ i by simpa [intsT] using hi)⟩
  have hi : i < n := by have := (List.getElem?_eq_some_iff.mp ht).1; simpa [intsT] using this
  refine ⟨hi, fun x H' ⟨eH, ex⟩ => .inl ⟨eH, ?_⟩⟩
  subst ex
  simp [intsT, hi] at ht
  subst ht
  exact .int _
def iR1 (m : SemA) : SemI := fun e => (m e).bind fun rs e1 => match vals e1 rs with
  | some [.int j] => if -(2 ^ 62) ≤ j ∧ j < 2 ^ 62 then .ok (intsT 0 j.toNat) e1 else .bad
  | _ => .bad
def iR2 (m : SemA) : SemI := fun e => (m e).bind fun rs e1 => match vals e1 rs with
  | some [.int i, .int j] => if -(2 ^ 62) ≤ i ∧ i < 2 ^ 62 ∧ -(2 ^ 62) ≤ j ∧ j < 2 ^ 62 then .ok (intsT i (j - i).toNat) e1 else .bad
  | _ => .bad
theorem qir1 {X : Cx} {tg a : Expr} {m : SemA} {p pos : Pos} (hg : Gl X "range") (hm : X.mg "range" = none) (ha : QA X W [a] m) (hs : starEach [a] X.env = [(false, eval a X.env)] := by rfl) : QI X W tg (.Call (.Name "range" p) [a] [] pos) (iR1 m) := by
  refine pi_mono (pi_range1 hg hm ha hs) fun σ H Q h => ?_
  obtain ⟨e, F, R, h⟩ := h
  refine tX_imp (tX_bind (rel := fun σ Hs F H xs rs => OdsR X.K σ Hs F H rs xs) R .refl h) fun xs H1 ⟨rs, e1, F1, R1, S1, O, h2⟩ => ?_
  split at h2
  · rename_i j q
    have d := vals_ok R1 O q
    split at h2
    · rename_i hl
      cases d with
      | cons a d => cases d; cases a; exact ⟨j, rfl, hl.1, hl.2, h2 _ F1 H1 R1 S1 wk_range⟩
    · exact h2.elim
  · exact h2.elim
/-- pairs -/
def pairs (ts us : List T) : List T := (ts.zip us).map fun p => .tuple [p.1, p.2]
def iZip (m : SemA) : SemI := fun e => (m e).bind fun rs e1 => match escs rs e1 with
  | some ([.list ts, .list us], e2) => .ok (pairs ts us) e2
  | _ => .bad
/-- numbered -/
def enumT (ts : List T) : List T := ts.zipIdx.map fun p => .tuple [.int (p.2 : Nat), p.1]
def iEnu (m : SemA) : SemI := fun e => (m e).bind fun rs e1 => match escs rs e1 with
  | some ([.list ts], e2) => .ok (enumT ts) e2
  | _ => .bad
/-! ### for -/
def forS (g : SemG) (b : SemS) : List T → SemS
  | [], e => .ok .nx e
  | t :: ts, e => match g t e with
    | some e1 => (match b e1 with
      | .ok .nx e2 => forS g b ts e2
      | .ok .ct e2 => forS g b ts e2
      | .ok .bk e2 => .ok .nx e2
      | .ok (.rt r) e2 => .ok (.rt r) e2
      | .exc c t e2 => .exc c t e2
      | .bad => .bad)
    | none => .bad
def sFor (mi : SemI) (g : SemG) (b : SemS) : SemS := fun e => (mi e).bind fun ts e1 => forS g b ts e1
theorem qss_any {X : Cx} {st : List Stmt} {m : SemS} (h : ∀ B, QSs X W B st m) : PSs X st (fun D σ H => ∃ B, tS X.K W B m D σ H) := ⟨fun pins s σ H D I ⟨B, q⟩ => (h B).run pins s σ H D I q⟩
theorem qg_any {X : Cx} {ws : List Nat} {tg : Expr} {g : SemG} (h : ∀ B, QG X B ws tg g) : PG X tg (fun x σ H Q => ∃ B, tG X.K B ws g x σ H Q) := ⟨fun pins s σ H v u Q I r ⟨B, q⟩ => (h B).run pins s σ H v u Q I r q⟩
def LoopN (K : PySem.W.Frag) (W : WX) (B : Bd) (F1 : Hp) (g : SemG) (b : SemS) (D : Ends) (ts : List T) (σ : Sg) (H : Hp) : Prop :=
  ∃ e F, Rel K e σ F H ∧ BOk { B with F := F1 } e σ F H ∧ OutS K W B (forS g b ts e) D
theorem qfor {X : Cx} {ws : List Nat} {tg it : Expr} {body : List Stmt} {mi : SemI} {g : SemG} {b : SemS} {pos : Pos} (hp : PassesOwn (model X.prog X.w) X.A X.env X.xe) (hc : X.calm = true) (hi : QI X W tg it mi) (hg : ∀ B, QG X B ws tg g) (hb : ∀ B, QSs X W B body b)
    (hs : ∀ x, foldedSetIterable it X.env x = pure x := by intro _; rfl) : QS X W B (.For tg it body [] pos) (sFor mi g b) := by
  refine ps_mono (ps_for hp hc hi (qg_any hg) (qss_any hb) hs) fun D σ H h => ?_
  obtain ⟨e, F, R, k, h⟩ := h
  refine tX_imp (tS_bind (rel := fun _ _ F _ J ts => Wk X.K F J ts) R k h) fun J H1 ⟨ts, e1, F1, R1, S1, k1, wk, h1⟩ => ?_
  refine ⟨fun i m σ' H' => m = ts.length - i ∧ i ≤ ts.length ∧ LoopN X.K W B F1 g b D (ts.drop i) σ' H', ⟨_, rfl, Nat.zero_le _, e1, F1, R1, k1.up, h1⟩, ?_⟩
  rintro i m σ' H' ⟨rfl, hi, e2, F2, R2, k2, h2⟩
  obtain ⟨go, stop⟩ := wk i F2 H' k2.ff R2.sub
  by_cases hlt : i < ts.length
  · have ht : ts[i]? = some ts[i] := List.getElem?_eq_getElem hlt
    rw [List.drop_eq_getElem_cons hlt] at h2
    obtain ⟨g1, y1⟩ := go _ ht
    refine .inr ⟨g1, LoopN X.K W B F1 g b D (ts.drop (i + 1)), fun σ3 H3 n => ⟨_, (by omega : ts.length - (i + 1) < ts.length - i), rfl, hlt, n⟩, fun x H3 y => ?_⟩
    simp only [forS] at h2
    cases q : g ts[i] e2 with
    | none => simp only [q] at h2; exact h2.elim
    | some e3 =>
      simp only [q] at h2
      have next : ∀ (F3 : Hp) (σ4 : Sg) (H4 : Hp), Rel X.K e3 σ4 F3 H4 → BOk { B with F := F1 } e3 σ4 F3 H4 → ∃ B', tS X.K W B' b { D with nx := LoopN X.K W B F1 g b D (ts.drop (i + 1)), ct := LoopN X.K W B F1 g b D (ts.drop (i + 1)), bk := D.nx } σ4 H4 := fun F3 σ4 H4 R4 k4 => by
        refine ⟨{ B with F := F1 }, e3, F3, R4, k4, ?_⟩
        cases w : b e3 with
        | bad => rw [w] at h2; exact h2
        | exc c t e5 => rw [w] at h2; exact fun σ5 F5 H5 cls d R5 k5 => h2 σ5 F5 H5 cls d R5 (k1.down k5)
        | ok f e5 =>
          rw [w] at h2
          cases f with
          | nx => exact fun σ5 F5 H5 R5 k5 => ⟨e5, F5, R5, k5, h2⟩
          | ct => exact fun σ5 F5 H5 R5 k5 => ⟨e5, F5, R5, k5, h2⟩
          | bk => exact fun σ5 F5 H5 R5 k5 => h2 σ5 F5 H5 R5 (k1.down k5)
          | rt r => exact fun x σ5 F5 H5 R5 k5 o => h2 x σ5 F5 H5 R5 (k1.down k5) o
      rcases y1 x H3 y with ⟨eH, d⟩ | ⟨p, vs, ws, ex, hp, eH, et, d⟩
      · subst eH
        exact ⟨_, e2, F2, _, e3, R2, k2, d, q, fun σ4 R4 k4 _ => next F2 σ4 _ R4 k4⟩
      · subst eH ex
        have R3 := laid_frz (o := .tup vs) R2 hp
        have S3 := laid_frz_step (o := .tup vs) R2 .refl hp
        have dd : Dp X.K (upd F2 p (.tup vs)) (.ref p) ts[i] := by
          rw [et]
          exact .tup upd_same (dpAll_mono (fun a o h => by rw [upd_ne (ne_of_none h (sub_none R2 hp))]; exact h) d)
        exact ⟨_, e2, _, _, e3, R3, k2.step S3, dd, q, fun σ4 R4 k4 _ => next _ σ4 _ R4 k4⟩
  · have he : i = ts.length := by omega
    subst he
    rw [List.drop_length] at h2
    exact .inl ⟨stop (Nat.le_refl _), h2 _ F2 H' R2 (k1.down k2)⟩
/-! ### while -/
end
end Ev

set_option Elab.async false
set_option linter.all false
set_option maxRecDepth 100000
namespace Ev
open PySem PySem.Spec PyProof.Rows L2
def GOk (ws : List Nat) (g : SemG) : Prop := ∀ t e e', g t e = some e' → e'.length = e.length ∧ ∀ j, e'[j]? = e[j]? ∨ (j ∈ ws ∧ ∃ t, e'[j]? = some (.v t))
theorem gok_n {ws : List Nat} {i : Nat} (h : i ∈ ws) : GOk ws (gN i) := fun t e e' hg => by
  simp only [gN] at hg
  split at hg
  · cases hg
  · cases hg
    refine ⟨by simp, fun j => ?_⟩
    by_cases q : i = j
    · subst q
      by_cases hi : i < e.length
      · exact .inr ⟨h, t, List.getElem?_set_self hi⟩
      · left; rw [List.getElem?_eq_none (by simpa using hi), List.getElem?_eq_none (by simpa using hi)]
    · exact .inl (List.getElem?_set_ne q)
def wipeE (e : En) : List Nat → En
  | [] => e
  | v :: vs => (wipeE e vs).set v .un
theorem wipeE_len (e : En) : ∀ vs, (wipeE e vs).length = e.length
  | [] => rfl
  | v :: vs => by unfold wipeE; rw [List.length_set, wipeE_len e vs]
theorem wipeE_out {e : En} {j : Nat} : ∀ {vs : List Nat}, j ∉ vs → (wipeE e vs)[j]? = e[j]?
  | [], _ => rfl
  | v :: vs, h => by
    unfold wipeE
    rw [List.getElem?_set_ne (fun z => h (by rw [← z]; exact List.mem_cons_self)), wipeE_out fun z => h (List.mem_cons_of_mem _ z)]
theorem wipeE_in {e : En} {j : Nat} {s : Sl} : ∀ {vs : List Nat}, j ∈ vs → (wipeE e vs)[j]? = some s → s = .un
  | [], h, _ => by cases h
  | v :: vs, h, q => by
    unfold wipeE at q
    by_cases hv : v = j
    · subst hv
      have hl : v < (wipeE e vs).length := by have := (List.getElem?_eq_some_iff.mp q).1; simpa using this
      rw [List.getElem?_set_self hl] at q; cases q; rfl
    · rw [List.getElem?_set_ne hv] at q
      exact wipeE_in ((List.mem_cons.mp h).resolve_left fun z => hv z.symm) q
theorem wipe_out {σ : Sg} {j : Nat} : ∀ {vs : List Nat}, j ∉ vs → (wipe σ vs)[j]? = σ[j]?
  | [], _ => rfl
  | v :: vs, h => by
    unfold wipe
    rw [List.getElem?_set_ne (fun z => h (by rw [← z]; exact List.mem_cons_self)), wipe_out fun z => h (List.mem_cons_of_mem _ z)]
theorem wipe_in {σ : Sg} {j : Nat} {o : Option V} : ∀ {vs : List Nat}, j ∈ vs → (wipe σ vs)[j]? = some o → o = none
  | [], h, _ => by cases h
  | v :: vs, h, q => by
    unfold wipe at q
    by_cases hv : v = j
    · subst hv
      have hl : v < (wipe σ vs).length := by have := (List.getElem?_eq_some_iff.mp q).1; simpa using this
      rw [List.getElem?_set_self hl] at q; cases q; rfl
    · rw [List.getElem?_set_ne hv] at q
      exact wipe_in ((List.mem_cons.mp h).resolve_left fun z => hv z.symm) q
theorem wipe_agree {σ σ2 : Sg} {vs : List Nat} (a : Agree vs (wipe σ vs) σ2) : wipe σ2 vs = wipe σ vs := by
  have l1 : σ2.length = σ.length := a.1.trans (wipe_length σ vs)
  refine List.ext_getElem? fun j => ?_
  by_cases h : j ∈ vs
  · by_cases hj : j < σ.length
    · have h1 : j < (wipe σ2 vs).length := by rw [wipe_length, l1]; exact hj
      have h2 : j < (wipe σ vs).length := by rw [wipe_length]; exact hj
      have q1 := wipe_in h (List.getElem?_eq_getElem h1)
      have q2 := wipe_in h (List.getElem?_eq_getElem h2)
      rw [List.getElem?_eq_getElem h1, List.getElem?_eq_getElem h2, q1, q2]
    · rw [List.getElem?_eq_none (by rw [wipe_length, l1]; omega), List.getElem?_eq_none (by rw [wipe_length]; omega)]
  · rw [wipe_out h, a.2 j h]
def restE (e e2 : En) : List Nat → En
  | [] => e2
  | v :: vs => (restE e e2 vs).set v ((e[v]?).getD .un)
theorem restE_len (e e2 : En) : ∀ vs, (restE e e2 vs).length = e2.length
  | [] => rfl
  | v :: vs => by unfold restE; rw [List.length_set, restE_len e e2 vs]
theorem restE_out {e e2 : En} {j : Nat} : ∀ {vs : List Nat}, j ∉ vs → (restE e e2 vs)[j]? = e2[j]?
  | [], _ => rfl
  | v :: vs, h => by
    unfold restE
    rw [List.getElem?_set_ne (fun z => h (by rw [← z]; exact List.mem_cons_self)), restE_out fun z => h (List.mem_cons_of_mem _ z)]
theorem restE_in {e e2 : En} {j : Nat} (hl : e2.length = e.length) : ∀ {vs : List Nat}, j ∈ vs → (restE e e2 vs)[j]? = e[j]?
  | [], h => by cases h
  | v :: vs, h => by
    unfold restE
    by_cases hv : v = j
    · subst hv
      by_cases hj : v < e.length
      · rw [List.getElem?_set_self (by rw [restE_len, hl]; exact hj), List.getElem?_eq_getElem hj]; rfl
      · rw [List.getElem?_eq_none (by rw [List.length_set, restE_len, hl]; omega), List.getElem?_eq_none (by omega)]
    · rw [List.getElem?_set_ne hv]
      exact restE_in hl ((List.mem_cons.mp h).resolve_left fun z => hv z.symm)
section
variable {K : PySem.W.Frag} {W : WX} {B : Bd} {e e1 e2 : En} {σ σ1 : Sg} {F H F1 H1 F2 H2 : Hp}
theorem wipe_rel {vs : List Nat} (R : Rel K e σ F H) : Rel K (wipeE e vs) (wipe σ vs) F H := by
  have get : ∀ (j : Nat) (s : Sl), (wipeE e vs)[j]? = some s → s = .un ∨ (j ∉ vs ∧ e[j]? = some s) := fun j s h => by
    by_cases q : j ∈ vs
    · exact .inl (wipeE_in q h)
    · rw [wipeE_out q] at h; exact .inr ⟨q, h⟩
  refine ⟨R.sub, by rw [wipeE_len, wipe_length]; exact R.len, fun j s o h1 h2 => ?_, fun j j' l b l' b' p h1 h2 h3 h4 => ?_⟩
  · rcases get j s h1 with rfl | ⟨q, h⟩
    · trivial
    · rw [wipe_out q] at h2; exact R.at_ j s o h h2
  · rcases get j _ h1 with z | ⟨q, g1⟩
    · cases z
    · rcases get j' _ h2 with z | ⟨q', g2⟩
      · cases z
      · rw [wipe_out q] at h3; rw [wipe_out q'] at h4; exact R.ne j j' l b l' b' p g1 g2 h3 h4
theorem upd_at {D : Addr} {o o' : HO} (R : Rel K e σ F H) (hH : H D = some o) (hf : F D = none) (no : ¬ Own e σ D) : Rel K e σ F (upd H D o') := by
  refine ⟨fun a u h => ?_, R.len, fun i s u h1 h2 => ?_, R.ne⟩
  · have ne : a ≠ D := fun z => by subst z; rw [hf] at h; cases h
    rw [upd_ne ne]; exact R.sub _ _ h
  · have z := R.at_ i s u h1 h2
    cases s with
    | un => trivial
    | v t => exact z
    | fz b => exact z
    | ow l b =>
      obtain ⟨p, ep, hf', bx⟩ := z
      have np : p ≠ D := fun w => no ⟨i, l, b, h1, by rw [h2, ep, w]⟩
      exact ⟨p, ep, hf', bx_keep bx (fun _ _ h => h) fun o h => by rw [upd_ne np]; exact h⟩
theorem step_upd {D : Addr} {o' : HO} (S : Step e e1 σ F H F1 H1) (hD : H D = none) : Step e e1 σ F H F1 (upd H1 D o') := by
  have ne : ∀ a u, H a = some u → a ≠ D := fun a u h z => by subst z; rw [hD] at h; cases h
  exact ⟨S.ff, fun a u h n => ⟨by rw [upd_ne (ne a u h)]; exact (S.keep a u h n).1, (S.keep a u h n).2⟩, fun a u h => by rw [upd_ne (ne a u h)]; exact S.dom a u h, S.own, S.lt, S.sk⟩
/-- a bound that says nothing -/
def bd0 (e : En) (σ : Sg) : Bd := ⟨e, σ, fun _ => none, fun _ => none⟩
theorem bok0 {e : En} {σ : Sg} {F H : Hp} : BOk (bd0 e σ) e σ F H :=
  ⟨(fun _ _ h => nomatch h), (fun _ _ h => nomatch h), (fun _ _ h => nomatch h), (fun _ _ _ _ _ => rfl), (fun i b h => ⟨rfl, b, h⟩), (fun i b h => ⟨⟨b, .inl h⟩, rfl⟩)⟩
/-- behind a turn of a comprehension -/
theorem rest_rel {vs : List Nat} {e4 : En} {σ2 : Sg} {F4 H4 : Hp} (R : Rel K e σ F H) (h1 : e1.length = e.length) (a1 : ∀ j, e1[j]? = (wipeE e vs)[j]? ∨ (j ∈ vs ∧ ∃ t, e1[j]? = some (.v t))) (ag : Agree vs (wipe σ vs) σ2)
    (R4 : Rel K e4 σ2 F4 H4) (S : Step e1 e4 σ2 F H F4 H4) : Rel K (restE e e4 vs) σ F4 H4 ∧ Step e (restE e e4 vs) σ F H F4 H4 := by
  have sg : ∀ j, j ∉ vs → σ2[j]? = σ[j]? := fun j h => by rw [ag.2 j h, wipe_out h]
  have l2 : σ2.length = σ.length := ag.1.trans (wipe_length σ vs)
  have l4 : e4.length = e.length := by rw [R4.len, l2, ← R.len]
  have in1 : ∀ (j : Nat) (l : Bool) (b : Bx), e1[j]? = some (.ow l b) → j ∉ vs ∧ e[j]? = some (.ow l b) := fun j l b h => by
    by_cases q : j ∈ vs
    · rcases a1 j with z | ⟨_, t, z⟩
      · rw [h] at z; exact nomatch wipeE_in q z.symm
      · rw [h] at z; cases z
    · rcases a1 j with z | ⟨q', _⟩
      · rw [h, wipeE_out q] at z; exact ⟨q, z.symm⟩
      · exact absurd q' q
  have own1 : ∀ p, Own e1 σ2 p → Own e σ p := fun p ⟨j, l, b, q1, q2⟩ => by
    obtain ⟨n, q⟩ := in1 j l b q1
    exact ⟨j, l, b, q, by rw [← sg j n]; exact q2⟩
  have get : ∀ (j : Nat) (s : Sl), (restE e e4 vs)[j]? = some s → (j ∈ vs ∧ e[j]? = some s) ∨ (j ∉ vs ∧ e4[j]? = some s) := fun j s h => by
    by_cases q : j ∈ vs
    · rw [restE_in l4 q] at h; exact .inl ⟨q, h⟩
    · rw [restE_out q] at h; exact .inr ⟨q, h⟩
  have kind : SameKinds e (restE e e4 vs) := fun j l b h => by
    rcases get j _ h with ⟨_, q⟩ | ⟨n, q⟩
    · exact ⟨b, q⟩
    · obtain ⟨b', q'⟩ := S.sk j l b q
      exact ⟨b', (in1 j l b' q').2⟩
  refine ⟨⟨R4.sub, by rw [restE_len, l4]; exact R.len, fun j s o g1 g2 => ?_, fun j j' l b l' b' p g1 g2 g3 g4 => ?_⟩, ⟨S.ff, fun a o h n => S.keep a o h fun z => n (own1 a z), S.dom, fun p ⟨j, l, b, g1, g2⟩ => ?_, fun j hj => ?_, kind⟩⟩
  · rcases get j s g1 with ⟨q, g⟩ | ⟨q, g⟩
    · have w := R.at_ j s o g g2
      cases s with
      | un => trivial
      | v t => obtain ⟨y, ey, d⟩ := w; exact ⟨y, ey, dp_mono S.ff _ _ d⟩
      | fz b => obtain ⟨y, ey, d⟩ := w; exact ⟨y, ey, dp_mono S.ff _ _ d⟩
      | ow l b =>
        obtain ⟨p, ep, hf, bx⟩ := w
        subst ep
        obtain ⟨u, hu⟩ := bx_some bx
        have na : ¬ Own e1 σ2 p := fun ⟨j', l', b', q1, q2⟩ => by
          obtain ⟨n, q3⟩ := in1 j' l' b' q1
          have := R.ne j' j l' b' l b p q3 g (by rw [← sg j' n]; exact q2) g2
          subst this
          exact n q
        obtain ⟨k1, k2⟩ := S.keep p u hu na
        exact ⟨p, rfl, k2 hf, bx_keep bx S.ff fun o' h' => by rw [hu] at h'; cases h'; exact k1⟩
    · rw [← sg j q] at g2; exact R4.at_ j s o g g2
  · obtain ⟨b1, q1⟩ := kind j l b g1
    obtain ⟨b2, q2⟩ := kind j' l' b' g2
    exact R.ne j j' l b1 l' b2 p q1 q2 g3 g4
  · obtain ⟨b1, q1⟩ := kind j l b g1
    exact ⟨j, l, b1, q1, g2⟩
  · by_cases q : j ∈ vs
    · obtain ⟨b, w⟩ := hj
      exact ⟨b, by rw [restE_in l4 q]; exact w⟩
    · have : Lent e1 j := by
        obtain ⟨b, w⟩ := hj
        rcases a1 j with z | ⟨q', _⟩
        · exact ⟨b, by rw [z, wipeE_out q]; exact w⟩
        · exact absurd q' q
      obtain ⟨b, w⟩ := S.lt j this
      exact ⟨b, by rw [restE_out q]; exact w⟩
end
/-! ### comprehensions -/
/-- nothing raised -/
def Out.nx {α : Type} : Out α → Out α
  | .exc _ _ _ => .bad
  | o => o
def compS (g : SemG) (c : SemT) (m : SemE) (vs : List Nat) : List T → List T → SemE
  | [], acc, e => .ok (.b (.l acc)) e
  | t :: ts, acc, e => match g t (wipeE e vs) with
    | some e1 => (c e1).nx.bind fun k e2 => if k then (m e2).nx.bind fun r e3 => (match esc r e3 with
        | some (u, e4) => if acc.length < sizeLine then compS g c m vs ts (acc ++ [u]) (restE e e4 vs) else .bad
        | none => .bad)
      else compS g c m vs ts acc (restE e e2 vs)
    | none => .bad
def eComp (mi : SemI) (g : SemG) (c : SemT) (m : SemE) (vs : List Nat) : SemE := fun e => (mi e).bind fun ts e1 => compS g c m vs ts [] e1
abbrev W0 : WX := fun _ _ _ _ => False
theorem tX_nx {α β : Type} {K : PySem.W.Frag} {rel : Sg → Hp → Hp → Hp → β → α → Prop} {m : En → Out α} {e1 e2 : En} {r : α} {σ : Sg} {F1 H1 : Hp} {Q : β → Hp → Prop} (R1 : Rel K e1 σ F1 H1) (w : m e1 = .ok r e2)
    (hq : ∀ x F2 H2, Rel K e2 σ F2 H2 → Step e1 e2 σ F1 H1 F2 H2 → rel σ H1 F2 H2 x r → Q x H2) : tX K W0 rel m σ H1 Q := by
  refine ⟨e1, F1, R1, ?_⟩
  rw [w]
  exact fun x F' H' R' S' O => hq x F' H' R' S' O
/-- the reading of a comprehension's walk, from a state on -/
structure CompN (K : PySem.W.Frag) (W : WX) (F1 : Hp) (g : SemG) (c : SemT) (m : SemE) (vs : List Nat) (e0 : En) (F0 H0 : Hp) (σ : Sg) (D : Addr) (Q : VK) (ts : List T) (H : Hp) : Prop where
  ex : ∃ e F acc accV, Rel K e σ F H ∧ Step e0 e σ F0 H0 F H ∧ (∀ a o, F1 a = some o → F a = some o) ∧ F D = none ∧ H D = some (.lst accV) ∧ DpAll K F accV acc ∧ OutX K W (OdR K σ) (compS g c m vs ts acc e) e0 σ F0 H0 Q
theorem comp_read {K : PySem.W.Frag} {W : WX} {mi : SemI} {g : SemG} {c : SemT} {m : SemE} {vs : List Nat} {σ : Sg} {H : Hp} {Q : VK} (hk : GOk vs g) (h : tE K W (eComp mi g c m vs) σ H Q) :
    tLc (tI K W mi) (fun x σ H Q => ∃ B, tG K B vs g x σ H Q) (tT K W0 c) (tE K W0 m) vs σ H Q := by
  obtain ⟨e0, F0, R0, h⟩ := h
  refine tX_imp (tX_bind (rel := fun _ _ F _ J ts => Wk K F J ts) R0 .refl h) fun J H1 ⟨ts, e1, F1, R1, S1, wk, h1⟩ => ?_
  intro D hD
  have hD0 : H D = none := step_none S1 hD
  have hDF : F1 D = none := sub_none R1 hD
  have ff0 : ∀ a o, F1 a = some o → F1 a = some o := fun _ _ h => h
  refine ⟨fun i n H' => n = ts.length - i ∧ i ≤ ts.length ∧ CompN K W F1 g c m vs e0 F0 H σ D Q (ts.drop i) H', ⟨_, rfl, Nat.zero_le _, ⟨e1, F1, [], [], laid_own R1 hD, S1.trans (laid_own_step hD), ff0, hDF, upd_same, .nil, h1⟩⟩, ?_⟩
  rintro i n H' ⟨rfl, hi, ⟨e2, F2, acc, accV, R2, S2, ff2, hf, hH, d, h2⟩⟩
  obtain ⟨go, stop⟩ := wk i F2 H' ff2 R2.sub
  by_cases hlt : i < ts.length
  · have ht : ts[i]? = some ts[i] := List.getElem?_eq_getElem hlt
    rw [List.drop_eq_getElem_cons hlt] at h2
    obtain ⟨g1, y1⟩ := go _ ht
    refine .inr ⟨g1, CompN K W F1 g c m vs e0 F0 H σ D Q (ts.drop (i + 1)), fun H3 n => ⟨_, (by omega : ts.length - (i + 1) < ts.length - i), rfl, hlt, n⟩, fun x H3 y => ?_⟩
    simp only [compS] at h2
    cases q : g ts[i] (wipeE e2 vs) with
    | none => simp only [q] at h2; exact h2.elim
    | some e3 =>
      simp only [q] at h2
      obtain ⟨l3, a3⟩ := hk _ _ _ q
      have l3 : e3.length = e2.length := l3.trans (wipeE_len e2 vs)
      have D0 : ∀ {e F H3}, Step e0 e σ F0 H F H3 → ¬ Own e σ D := fun S => fresh_not_own R0 S hD0
      -- behind the target
      have next : ∀ (F3 : Hp) (H3 : Hp) (σ2 : Sg), Rel K e2 σ F3 H3 → Step e0 e2 σ F0 H F3 H3 → (∀ a o, F1 a = some o → F3 a = some o) → F3 D = none → H3 D = some (.lst accV) → DpAll K F3 accV acc → Rel K e3 σ2 F3 H3 → Agree vs (wipe σ vs) σ2 →
          wipe σ2 vs = wipe σ vs ∧ tT K W0 c σ2 H3 fun b H4 => if b = true then tE K W0 m σ2 H4 fun y H5 => ∃ acc, H5 D = some (.lst acc) ∧ acc.length < sizeLine ∧ CompN K W F1 g c m vs e0 F0 H σ D Q (ts.drop (i + 1)) (upd H5 D (.lst (acc ++ [y]))) else CompN K W F1 g c m vs e0 F0 H σ D Q (ts.drop (i + 1)) H4 := by
        intro F3 H3 σ2 R3 S3 ff3 hf3 hH3 d3 RB ag
        refine ⟨wipe_agree ag, ?_⟩
        have noD : ¬ Own e3 σ2 D := fun ⟨j, l, b, q1, q2⟩ => by
          have n : j ∉ vs ∧ e2[j]? = some (.ow l b) := by
            by_cases qv : j ∈ vs
            · rcases a3 j with z | ⟨_, t, z⟩
              · rw [q1] at z; exact absurd (wipeE_in qv z.symm) (by intro w; cases w)
              · rw [q1] at z; cases z
            · rcases a3 j with z | ⟨q', _⟩
              · rw [q1, wipeE_out qv] at z; exact ⟨qv, z.symm⟩
              · exact absurd q' qv
          exact D0 S3 ⟨j, l, b, n.2, by rw [← wipe_out n.1, ← ag.2 j n.1]; exact q2⟩
        cases wc : c e3 with
        | bad => rw [wc] at h2; exact h2.elim
        | exc _ _ _ => rw [wc] at h2; exact h2.elim
        | ok k e4 =>
        rw [wc] at h2
        have h4 : OutX K W (OdR K σ) (if k = true then (m e4).nx.bind fun r e5 => (match esc r e5 with
            | some (u, e6) => if acc.length < sizeLine then compS g c m vs (ts.drop (i + 1)) (acc ++ [u]) (restE e2 e6 vs) else .bad
            | none => .bad) else compS g c m vs (ts.drop (i + 1)) acc (restE e2 e4 vs)) e0 σ F0 H Q := h2
        refine tX_nx RB wc fun b F4 H4 R4 S4 eb => ?_
        subst eb
        obtain ⟨hD4, fD4⟩ := S4.keep D _ hH3 noD
        have fD4 := fD4 hf3
        cases b with
        | false =>
          obtain ⟨R', S'⟩ := rest_rel R3 l3 a3 ag R4 S4
          exact ⟨restE e2 e4 vs, F4, acc, accV, R', S3.trans S', fun a o h => S4.ff _ _ (ff3 _ _ h), fD4, hD4, dpAll_mono S4.ff d3, h4⟩
        | true =>
          simp only [if_true] at h4
          rw [if_pos rfl]
          cases wm : m e4 with
          | bad => rw [wm] at h4; exact h4.elim
          | exc _ _ _ => rw [wm] at h4; exact h4.elim
          | ok r e5 =>
          rw [wm] at h4
          have h5 : OutX K W (OdR K σ) (match esc r e5 with
            | some (u, e6) => if acc.length < sizeLine then compS g c m vs (ts.drop (i + 1)) (acc ++ [u]) (restE e2 e6 vs) else .bad
            | none => .bad) e0 σ F0 H Q := h4
          refine tX_nx R4 wm fun y F5 H5 R5 S5 O5 => ?_
          obtain ⟨hD5, fD5⟩ := S5.keep D _ hD4 (fun z => noD (S4.own _ z))
          have fD5 := fD5 fD4
          cases w : esc r e5 with
          | none => simp only [w] at h5; exact h5.elim
          | some te =>
            obtain ⟨u, e6⟩ := te
            simp only [w] at h5
            obtain ⟨F6, R6, S6, d6, _, only⟩ := esc_ok R4 R5 S5 O5 w
            by_cases hl : acc.length < sizeLine
            · rw [if_pos hl] at h5
              obtain ⟨R', S'⟩ := rest_rel R3 l3 a3 ag R6 (S4.trans S6)
              have dd : DpAll K F6 (accV ++ [y]) (acc ++ [u]) := dpAll_app (dpAll_mono (fun a o h => S6.ff _ _ (S4.ff _ _ h)) d3) (.cons d6 .nil)
              have fD6 : F6 D = none := (S6.keep D _ hD4 (fun z => noD (S4.own _ z))).2 fD4
              refine ⟨accV, hD5, by rw [dpAll_len d3]; exact hl, ⟨restE e2 e6 vs, F6, acc ++ [u], accV ++ [y], upd_at R' hD5 fD6 (D0 (S3.trans S')), ?_, fun a o h => S6.ff _ _ (S4.ff _ _ (ff3 _ _ h)), fD6, upd_same, dd, h5⟩⟩
              exact step_upd (S3.trans S') hD0
            · rw [if_neg hl] at h5; exact h5.elim
      have Rw := wipe_rel (vs := vs) R2
      rcases y1 x H3 y with ⟨eH, dx⟩ | ⟨p, xs, ws, ex, hp, eH, et, dx⟩
      · subst eH
        exact ⟨bd0 _ _, wipeE e2 vs, F2, _, e3, Rw, bok0, dx, q, fun σ2 R' _ ag => next F2 _ σ2 R2 S2 ff2 hf hH d R' ag⟩
      · subst eH ex
        have ff3 : ∀ a o, F2 a = some o → upd F2 p (.tup xs) a = some o := fun a o h => by rw [upd_ne (ne_of_none h (sub_none R2 hp))]; exact h
        have nD : D ≠ p := ne_of_none hH hp
        have R3 := laid_frz (o := .tup xs) R2 hp
        have S3 := laid_frz_step (o := .tup xs) R2 S2 hp
        have dd : Dp K (upd F2 p (.tup xs)) (.ref p) ts[i] := by
          rw [et]
          exact .tup upd_same (dpAll_mono ff3 dx)
        exact ⟨bd0 _ _, wipeE e2 vs, _, _, e3, wipe_rel R3, bok0, dd, q, fun σ2 R' _ ag => next _ _ σ2 R3 S3 (fun a o h => ff3 _ _ (ff2 _ _ h)) (by rw [upd_ne nD]; exact hf) (by rw [upd_ne nD]; exact hH) (dpAll_mono ff3 d) R' ag⟩
  · have he : i = ts.length := by omega
    subst he
    rw [List.drop_length] at h2
    exact .inl ⟨stop (Nat.le_refl _), h2 _ F2 H' R2 S2 ⟨D, rfl, hD0, hf, accV, hH, d⟩⟩
end Ev

set_option Elab.async false
set_option linter.all false
set_option maxRecDepth 100000
namespace Ev
open PySem PySem.Spec PyProof.Rows L2
section
variable {X : Cx} {W : WX} {a b c : Expr} {ma mb mc : SemE} {pos : Pos}
abbrev tTrue : SemT := fun e => .ok true e
abbrev QTs (X : Cx) (W : WX) (ex : List Expr) (m : SemT) : Prop := PTs X ex (tT X.K W m)
theorem qtsnil : QTs X W [] tTrue := ⟨fun pins s σ H Q I ⟨e, F, R, h⟩ => pts_nil.run pins s σ H Q I (h true F H R .refl rfl)⟩
theorem qtsone {t : SemT} (h : QT X W c t) : QTs X W [c] t := pts_one h
theorem qcomp {elt tg iter : Expr} {ifs : List Expr} {scope : Scope} {own : List (Str × Nat)} {vs : List Nat} {mi : SemI} {g : SemG} {t : SemT} {m : SemE} (hc : X.calm = true) (hN : X.N.Nodup) (hi : QI X W tg iter mi) (ok : BlkOk X.N X.env.scope scope own) (hk : GOk vs g) (hvs : own.map (·.2) = vs)
    (hg : ∀ (s : Shared) (H : Hp) (C : Addr) (cl : List (Str × Addr)) (fp : List Addr) (B : Bd), QG (X.blk s H scope (compEnvC scope cl C X.env) fp) B vs tg g) (ht : ∀ (s : Shared) (H : Hp) (C : Addr) (cl : List (Str × Addr)) (fp : List Addr), QTs (X.blk s H scope (compEnvC scope cl C X.env) fp) W0 ifs t)
    (he : ∀ (s : Shared) (H : Hp) (C : Addr) (cl : List (Str × Addr)) (fp : List Addr), QE (X.blk s H scope (compEnvC scope cl C X.env) fp) W0 elt m) (hs : ∀ x, foldedSetIterable iter X.env x = pure x := by intro _; rfl) :
    QE X W (.ListComp elt [⟨tg, iter, ifs, 0⟩] scope pos) (eComp mi g t m vs) := by
  subst hvs
  exact pe_mono (pe_lc hc hN hi ok (fun s H C cl fp => qg_any (hg s H C cl fp)) ht he hs) fun σ H Q h => comp_read hk h
end
/-! ### a def -/
def okArg : Sl → Bool
  | .v _ => true
  | .ow true _ => true
  | _ => false
def finE : List Sl → En → List Sl
  | .ow true z :: ss, s' :: es => s' :: finE ss es
  | s :: ss, _ :: es => s :: finE ss es
  | ss, [] => ss
  | [], _ => []
def runFn (n : Nat) (b : SemS) : FSem := fun ss => if ss.all okArg then (match b (ss ++ List.replicate (n - ss.length) .un) with
  | .ok .nx e' => .ok (.r .none) (finE ss e')
  | .ok (.rt r) e' => .ok r (finE ss e')
  | .exc c t e' => .exc c t (finE ss e')
  | _ => .bad) else .bad
theorem finE_len : ∀ (ss : List Sl) (es : En), (finE ss es).length = ss.length
  | [], [] => rfl
  | [], _ :: _ => rfl
  | .un :: ss, [] => rfl
  | .v _ :: ss, [] => rfl
  | .fz _ :: ss, [] => rfl
  | .ow true _ :: ss, [] => rfl
  | .ow false _ :: ss, [] => rfl
  | .un :: ss, _ :: es => by simp [finE, finE_len ss es]
  | .v _ :: ss, _ :: es => by simp [finE, finE_len ss es]
  | .fz _ :: ss, _ :: es => by simp [finE, finE_len ss es]
  | .ow true _ :: ss, _ :: es => by simp [finE, finE_len ss es]
  | .ow false _ :: ss, _ :: es => by simp [finE, finE_len ss es]
theorem finE_get : ∀ {ss : List Sl} {es : En} {j : Nat} {s : Sl}, ss[j]? = some s → ((∃ z, s = .ow true z) → j < es.length) → (∃ z, s = .ow true z ∧ (finE ss es)[j]? = es[j]?) ∨ ((∀ z, s ≠ .ow true z) ∧ (finE ss es)[j]? = some s)
  | [], _, _, _, h, _ => by simp at h
  | s0 :: ss, [], j, s, h, hl => by
    have e : finE (s0 :: ss) [] = s0 :: ss := by
      cases s0 with
      | ow l z => cases l <;> rfl
      | un => rfl
      | v _ => rfl
      | fz _ => rfl
    refine .inr ⟨fun z ez => ?_, by rw [e]; exact h⟩
    have := hl ⟨z, ez⟩
    simp at this
  | s :: ss, s' :: es, 0, _, h, _ => by
    simp at h; subst h
    cases s with
    | ow l z => cases l with
      | true => exact .inl ⟨z, rfl, rfl⟩
      | false => exact .inr ⟨fun z h => (by cases h), rfl⟩
    | un => exact .inr ⟨fun z h => (by cases h), rfl⟩
    | v _ => exact .inr ⟨fun z h => (by cases h), rfl⟩
    | fz _ => exact .inr ⟨fun z h => (by cases h), rfl⟩
  | s :: ss, s' :: es, j + 1, _, h, hl => by
    have ih := finE_get (ss := ss) (es := es) (j := j) (by simpa using h) (fun q => by have := hl q; simpa using this)
    have e : (finE (s :: ss) (s' :: es))[j + 1]? = (finE ss es)[j]? := by
      cases s with
      | ow l z => cases l <;> simp [finE]
      | un => simp [finE]
      | v _ => simp [finE]
      | fz _ => simp [finE]
    rw [e]
    simpa using ih
section
variable {K : PySem.W.Frag} {F H : Hp}
theorem start_rel {N : List Str} {vs : List V} {ss : List Sl} (R : Rel K ss (vs.map some) F H) : Rel K (ss ++ List.replicate (N.length - ss.length) .un) (start N vs) F H := by
  have hl : ss.length = vs.length := by have := R.len; simpa using this
  have get : ∀ (j : Nat) (s : Sl), (ss ++ List.replicate (N.length - ss.length) Sl.un)[j]? = some s → (j < ss.length ∧ ss[j]? = some s) ∨ s = .un := fun j s h => by
    by_cases q : j < ss.length
    · rw [List.getElem?_append_left q] at h; exact .inl ⟨q, h⟩
    · rw [List.getElem?_append_right (by omega)] at h
      have := List.mem_of_getElem? h
      exact .inr (List.eq_of_mem_replicate this)
  have sg : ∀ j, j < ss.length → (start N vs)[j]? = (vs.map some)[j]? := fun j h => by
    unfold L2.start
    rw [List.getElem?_append_left (by simp; omega)]
  refine ⟨R.sub, by unfold L2.start; simp [hl], fun j s o h1 h2 => ?_, fun j j' l b l' b' p h1 h2 h3 h4 => ?_⟩
  · rcases get j s h1 with ⟨q, h⟩ | rfl
    · rw [sg j q] at h2; exact R.at_ j s o h h2
    · trivial
  · rcases get j _ h1 with ⟨q, g1⟩ | z
    · rcases get j' _ h2 with ⟨q', g2⟩ | z
      · rw [sg j q] at h3; rw [sg j' q'] at h4; exact R.ne j j' l b l' b' p g1 g2 h3 h4
      · cases z
    · cases z
theorem fin_rel {N : List Str} {vs : List V} {ss : List Sl} {e' : En} {σ' : Sg} {F' H' : Hp} (R : Rel K ss (vs.map some) F H) (R' : Rel K e' σ' F' H') (k : BOk ⟨ss ++ List.replicate (N.length - ss.length) .un, start N vs, F, H⟩ e' σ' F' H')
    (ha : ss.all okArg = true) : Rel K (finE ss e') (vs.map some) F' H' ∧ Step ss (finE ss e') (vs.map some) F H F' H' := by
  have hl : ss.length = vs.length := by have := R.len; simpa using this
  have sg : ∀ j, j < ss.length → (start N vs)[j]? = (vs.map some)[j]? := fun j h => by
    unfold L2.start
    rw [List.getElem?_append_left (by simp; omega)]
  have e0 : ∀ j, j < ss.length → (ss ++ List.replicate (N.length - ss.length) Sl.un)[j]? = ss[j]? := fun j h => List.getElem?_append_left h
  have lentLt : ∀ (j : Nat) (z : Bx), ss[j]? = some (.ow true z) → j < e'.length := fun j z h => by
    have hj := (List.getElem?_eq_some_iff.mp h).1
    obtain ⟨⟨b, q⟩, _⟩ := k.lent j z (by show (ss ++ _)[j]? = _; rw [e0 j hj, h])
    rcases q with q | q
    · exact (List.getElem?_eq_some_iff.mp q).1
    · exact (List.getElem?_eq_some_iff.mp q).1
  have get : ∀ (j : Nat) (s : Sl), (finE ss e')[j]? = some s → ∃ s0, ss[j]? = some s0 ∧ j < ss.length ∧ ((∃ z, s0 = .ow true z ∧ e'[j]? = some s ∧ Lent e' j ∧ σ'[j]? = (vs.map some)[j]?) ∨ (s = s0 ∧ ∃ t, s = .v t)) := fun j s h => by
    have hj : j < ss.length := by have := (List.getElem?_eq_some_iff.mp h).1; rw [finE_len] at this; exact this
    have hs : ss[j]? = some ss[j] := List.getElem?_eq_getElem hj
    refine ⟨_, hs, hj, ?_⟩
    rcases finE_get (es := e') hs (fun ⟨z, q⟩ => lentLt j z (by rw [hs, q])) with ⟨z, q, w⟩ | ⟨q, w⟩
    · have hL := k.lent j z (by show (ss ++ _)[j]? = _; rw [e0 j hj, hs, q])
      exact .inl ⟨z, q, by rw [← w, h], hL.1, by rw [hL.2]; exact sg j hj⟩
    · rw [h] at w
      cases w
      have hm : okArg ss[j] = true := List.all_eq_true.mp ha _ (List.getElem_mem hj)
      cases w2 : ss[j] with
      | v t => exact .inr ⟨rfl, t, rfl⟩
      | un => rw [w2] at hm; cases hm
      | fz _ => rw [w2] at hm; cases hm
      | ow l z => cases l with
        | true => exact absurd w2 (q z)
        | false => rw [w2] at hm; cases hm
  have kind : SameKinds ss (finE ss e') := fun j l b h => by
    obtain ⟨s0, h0, hj, q⟩ := get j _ h
    rcases q with ⟨z, ez, he, ⟨b', lent⟩, _⟩ | ⟨_, t, et⟩
    · rw [he] at lent
      rcases lent with lent | lent
      · cases lent; exact ⟨z, by rw [h0, ez]⟩
      · cases lent
    · cases et
  have owB : ∀ a, Own (ss ++ List.replicate (N.length - ss.length) .un) (start N vs) a → Own ss (vs.map some) a := fun a ⟨j, l, b, h1, h2⟩ => by
    by_cases q : j < ss.length
    · rw [e0 j q] at h1; rw [sg j q] at h2; exact ⟨j, l, b, h1, h2⟩
    · rw [List.getElem?_append_right (by omega)] at h1
      have := List.eq_of_mem_replicate (List.mem_of_getElem? h1)
      cases this
  refine ⟨⟨R'.sub, by rw [finE_len, hl]; simp, fun j s o g1 g2 => ?_, fun j j' l b l' b' p g1 g2 g3 g4 => ?_⟩, ⟨k.ff, fun a o h n => k.keep a o h fun z => n (owB a z), k.dom, fun p ⟨j, l, b, g1, g2⟩ => ?_, fun j hj => ?_, kind⟩⟩
  · obtain ⟨s0, h0, hj, q⟩ := get j _ g1
    rcases q with ⟨z, ez, he, _, hs⟩ | ⟨es, t, et⟩
    · exact R'.at_ j s o he (by rw [hs]; exact g2)
    · have w := R.at_ j s o (by rw [es]; exact h0) g2
      subst et
      obtain ⟨y, ey, d⟩ := w
      exact ⟨y, ey, dp_mono k.ff _ _ d⟩
  · obtain ⟨s0, h0, hj, q⟩ := get j _ g1
    obtain ⟨s0', h0', hj', q'⟩ := get j' _ g2
    rcases q with ⟨z, ez, he, _, hs⟩ | ⟨es, t, et⟩
    · rcases q' with ⟨z', ez', he', _, hs'⟩ | ⟨es, t, et⟩
      · exact R'.ne j j' l b l' b' p he he' (by rw [hs]; exact g3) (by rw [hs']; exact g4)
      · cases et
    · cases et
  · obtain ⟨b', q⟩ := kind j l b g1
    exact ⟨j, l, b', q, g2⟩
  · obtain ⟨b, hb⟩ := hj
    rcases hb with hb | hb
    · have hjl : j < ss.length := (List.getElem?_eq_some_iff.mp hb).1
      have hL := k.lent j b (by show (ss ++ _)[j]? = _; rw [e0 j hjl, hb])
      rcases finE_get (es := e') hb (fun ⟨z, q⟩ => lentLt j z (by rw [hb, q])) with ⟨z, _, w⟩ | ⟨w, _⟩
      · obtain ⟨b', q⟩ := hL.1
        exact ⟨b', by rw [w]; exact q⟩
      · exact absurd rfl (w b)
    · have hjl : j < ss.length := (List.getElem?_eq_some_iff.mp hb).1
      have hm : okArg (.fz b) = true := List.all_eq_true.mp ha _ (List.mem_of_getElem? hb)
      cases hm
end
theorem fn_ok {P : Program} {w : World} {K : PySem.W.Frag} {mg : Str → Option Value} {base : Heap} {x qual : Str} {params : Arguments} {body : List Stmt} {scope : Scope} {f : Addr} {fd : FuncData} {N ps : List Str} {k : Nat} {b : SemS}
    (Fn : FunD K x qual params body scope [] [] f fd) (S : FnScope N ps scope)
    (hb : ∀ (cdv : Value) (A : Around) (outer : List Env) (s : Shared) (H : Hp) (E : XK), Room k (A.deeper (envOfC qual scope s.heap.objs.size f cdv)) →
      ∀ B, QSs (cxOf (L2N.CX P w) P w K mg base N qual scope f cdv A outer s H E) (fun cls d _ H => E cls d H) B body b) :
    FnOk P w K mg base (L2N.CX P w) (k + 1) f fd ps (spF K ps.length (runFn N.length b)) := by
  refine Fn.ok S (fun vs H Q E h => h.1) fun cdv A outer s H vs Q E hr ⟨hlen, ss, F, R, h⟩ => ?_
  have hl : ss.length = vs.length := by have := R.len; simpa using this
  have hN : ps.length ≤ N.length := by have := congrArg List.length S.pre; rw [List.length_take] at this; omega
  unfold runFn at h
  by_cases ha : ss.all okArg = true
  · rw [if_pos ha] at h
    refine ⟨_, hb cdv A outer s H E hr ⟨ss ++ List.replicate (N.length - ss.length) Sl.un, L2.start N vs, F, H⟩, ss ++ List.replicate (N.length - ss.length) Sl.un, F, start_rel (N := N) R, ?_, ?_⟩
    · refine ⟨fun _ _ h => h, fun a o h _ => ⟨h, fun z => z⟩, fun a o h => ⟨o, h⟩, fun i b p h1 _ => ?_, fun i b h => ⟨rfl, b, h⟩, fun i b h => ⟨⟨b, .inl h⟩, rfl⟩⟩
      by_cases q : i < ss.length
      · rw [List.getElem?_append_left q] at h1
        have := List.all_eq_true.mp ha _ (List.mem_of_getElem? h1)
        cases this
      · rw [List.getElem?_append_right (by omega)] at h1
        have := List.eq_of_mem_replicate (List.mem_of_getElem? h1)
        cases this
    · cases q : b (ss ++ List.replicate (N.length - ss.length) .un) with
      | bad => rw [q] at h; exact h
      | exc c t e' =>
        rw [q] at h
        intro σ' F' H' cls d R' k' ex
        obtain ⟨a1, a2⟩ := fin_rel R R' k' ha
        exact h F' H' cls d a1 a2 ex
      | ok f e' =>
        rw [q] at h
        cases f with
        | bk => exact h.elim
        | ct => exact h.elim
        | nx =>
          intro σ' F' H' R' k'
          obtain ⟨a1, a2⟩ := fin_rel R R' k' ha
          exact h _ F' H' a1 a2 .non
        | rt r =>
          intro x σ' F' H' R' k' o
          obtain ⟨a1, a2⟩ := fin_rel R R' k' ha
          refine h _ F' H' a1 a2 ?_
          cases r with
          | r t => exact o
          | b z => exact o
          | s i => cases o
  · rw [if_neg ha] at h; exact h.elim
end Ev

set_option Elab.async false
set_option linter.all false
set_option maxRecDepth 100000
namespace Ev
open PySem PySem.Spec PyProof.Rows L2
/-! ### a, b = x, y: names -/
/-- what names alone hold is let go -/
def presc : List Od → En → Option (List Od × En)
  | [], e => some ([], e)
  | .s i :: rs, e => match esc (.s i) e with
    | some (t, e1) => (match presc rs e1 with
      | some (rs', e2) => some (.r t :: rs', e2)
      | none => none)
    | none => none
  | r :: rs, e => match presc rs e with
    | some (rs', e2) => some (r :: rs', e2)
    | none => none
def noS : List Od → Prop
  | [] => True
  | .s _ :: _ => False
  | _ :: rs => noS rs
theorem presc_ok {K : PySem.W.Frag} {σ : Sg} {e0 : En} {F0 H0 H : Hp} (R0 : Rel K e0 σ F0 H0) : ∀ {rs rs' : List Od} {xs : List V} {e e' : En} {F : Hp}, Rel K e σ F H → Step e0 e σ F0 H0 F H → OdsR K σ H0 F H rs xs → presc rs e = some (rs', e') →
    ∃ F', Rel K e' σ F' H ∧ Step e0 e' σ F0 H0 F' H ∧ OdsR K σ H0 F' H rs' xs ∧ noS rs' ∧ (∀ a o, F a = some o → F' a = some o) ∧ (∀ (j : Nat) (z : Bx), rs'[j]? = some (.b z) → rs[j]? = some (.b z)) ∧ ∀ a, H0 a = none → F' a = F a
  | [], _, _, _, _, F, R, S, .nil, h => by cases h; exact ⟨F, R, S, .nil, trivial, fun _ _ h => h, fun j z h => h, fun _ _ => rfl⟩
  | .s i :: rs, _, _, e, _, F, R, S, .cons (x := x) (xs := xs) a b n, h => by
    unfold presc at h
    cases q : esc (.s i) e with
    | none => rw [q] at h; cases h
    | some te =>
      obtain ⟨t, e1⟩ := te
      simp only [q] at h
      cases q2 : presc rs e1 with
      | none => rw [q2] at h; cases h
      | some te2 =>
        obtain ⟨rs', e2⟩ := te2
        simp only [q2] at h
        cases h
        obtain ⟨F1, R1, S1, d1, ff1, only⟩ := esc_ok R0 R S a q
        have b1 : OdsR K σ H0 F1 H rs xs := ods_grow ff1 b fun p j z hj hx hn => by
          rcases only p with e | ⟨ex, e | e⟩
          · exact e
          · obtain ⟨z', e'⟩ := e; cases e'
          · exact absurd (S.own _ e) (fun w => by obtain ⟨_, o, q⟩ := R0.owned w; rw [hn] at q; cases q)
        obtain ⟨F2, R2, S2, d2, ns, ff2, bs, same⟩ := presc_ok R0 R1 S1 b1 q2
        refine ⟨F2, R2, S2, .cons (dp_mono ff2 _ _ d1) d2 (fun z p hr => by cases hr), ns, fun a o h => ff2 _ _ (ff1 _ _ h), fun j z h => ?_, fun a hn => ?_⟩
        · cases j with
          | zero => simp at h
          | succ j => simpa using bs j z (by simpa using h)
        · rw [same a hn]
          rcases only a with e | ⟨ex, e | e⟩
          · exact e
          · obtain ⟨z', e'⟩ := e; cases e'
          · exact absurd (S.own _ e) (fun w => by obtain ⟨_, o, q⟩ := R0.owned w; rw [hn] at q; cases q)
  | .r t :: rs, _, _, e, _, F, R, S, .cons (x := x) (xs := xs) a b n, h => by
    unfold presc at h
    cases q2 : presc rs e with
    | none => rw [q2] at h; cases h
    | some te2 =>
      obtain ⟨rs', e2⟩ := te2
      simp only [q2] at h
      cases h
      obtain ⟨F2, R2, S2, d2, ns, ff2, bs, same⟩ := presc_ok R0 R S b q2
      refine ⟨F2, R2, S2, .cons (dp_mono ff2 _ _ a) d2 (fun z p hr => by cases hr), ns, ff2, fun j z h => ?_, same⟩
      cases j with
      | zero => simp at h
      | succ j => simpa using bs j z (by simpa using h)
  | .b z0 :: rs, _, _, e, _, F, R, S, .cons (x := x) (xs := xs) a b n, h => by
    unfold presc at h
    cases q2 : presc rs e with
    | none => rw [q2] at h; cases h
    | some te2 =>
      obtain ⟨rs', e2⟩ := te2
      simp only [q2] at h
      cases h
      obtain ⟨F2, R2, S2, d2, ns, ff2, bs, same⟩ := presc_ok R0 R S b q2
      have a2 : OdR K σ H0 F2 H x (.b z0) := by
        obtain ⟨p, ep, hn, hf, bx⟩ := a
        exact ⟨p, ep, hn, by rw [same p hn]; exact hf, bx_keep bx ff2 fun _ h => h⟩
      refine ⟨F2, R2, S2, .cons a2 d2 (fun z p hr hx j z' hj => n z p hr hx j z' (bs j z' hj)), ns, ff2, fun j z h => ?_, same⟩
      cases j with
      | zero => simpa using h
      | succ j => simpa using bs j z (by simpa using h)
section
variable {K : PySem.W.Frag} {W : WX} {B : Bd} {e e1 : En} {σ : Sg} {F H H0 : Hp}
theorem put_ok {i : Nat} {r : Od} {x : V} {e' : En} (R : Rel K e σ F H) (k : BOk B e σ F H) (hB : ∀ p, H0 p = none → B.H p = none) (O : OdR K σ H0 F H x r) (ns : ∀ j, r ≠ .s j) (no : ∀ p z, r = .b z → x = .ref p → ¬ Own e σ p) (h : setO i r e = .ok .nx e') :
    Rel K e' (σ.set i (some x)) F H ∧ BOk B e' (σ.set i (some x)) F H ∧ ∀ q, Own e' (σ.set i (some x)) q → Own e σ q ∨ ∃ z, r = .b z ∧ x = .ref q := by
  unfold setO at h
  cases l : isLent e i with
  | true => rw [l] at h; cases h
  | false =>
    rw [l, if_neg (by decide)] at h
    have n := isLent_no l
    cases r with
    | s j => exact absurd rfl (ns j)
    | r t =>
      simp only [esc] at h
      cases h
      obtain ⟨a, b⟩ := set_v R k O n
      refine ⟨a, b, fun q ⟨j, l', b', q1, q2⟩ => .inl ?_⟩
      by_cases ij : i = j
      · subst ij
        have hi : i < e.length := by have := (List.getElem?_eq_some_iff.mp q1).1; simpa using this
        rw [List.getElem?_set_self hi] at q1; cases q1
      · rw [List.getElem?_set_ne ij] at q1 q2; exact ⟨j, l', b', q1, q2⟩
    | b z =>
      cases h
      obtain ⟨p, rfl, hn, hf, bx⟩ := O
      obtain ⟨a, b⟩ := set_b R k hf bx (hB p hn) (no p z rfl rfl) n
      refine ⟨a, b, fun q ⟨j, l', b', q1, q2⟩ => ?_⟩
      by_cases ij : i = j
      · subst ij
        have hi : i < e.length := by have := (List.getElem?_eq_some_iff.mp q1).1; simpa using this
        rw [List.getElem?_set_self (by rw [← R.len]; exact hi)] at q2
        cases q2
        exact .inr ⟨z, rfl, rfl⟩
      · rw [List.getElem?_set_ne ij] at q1 q2; exact .inl ⟨j, l', b', q1, q2⟩
def setOs : List Nat → List Od → En → Option En
  | [], [], e => some e
  | i :: is, r :: rs, e => match setO i r e with
    | .ok .nx e1 => setOs is rs e1
    | _ => none
  | _, _, _ => none
def setsσ : List Nat → List V → Sg → Sg
  | i :: is, x :: xs, σ => setsσ is xs (σ.set i (some x))
  | _, _, σ => σ
theorem sets_ok : ∀ {is : List Nat} {rs : List Od} {xs : List V} {e e' : En} {σ σ0 : Sg}, Rel K e σ F H → BOk B e σ F H → (∀ p, H0 p = none → B.H p = none) → OdsR K σ0 H0 F H rs xs → noS rs → (∀ p (j : Nat) z, rs[j]? = some (.b z) → xs[j]? = some (.ref p) → ¬ Own e σ p) → setOs is rs e = some e' →
    Rel K e' (setsσ is xs σ) F H ∧ BOk B e' (setsσ is xs σ) F H
  | [], [], _, _, _, _, _, R, k, _, .nil, _, _, h => by cases h; exact ⟨R, k⟩
  | [], _ :: _, _, _, _, _, _, _, _, _, _, _, _, h => by cases h
  | _ :: _, [], _, _, _, _, _, _, _, _, _, _, _, h => by cases h
  | i :: is, r :: rs, _, e, _, σ, σ0, R, k, hB, .cons (x := x) (xs := xs) a b n, ns, no, h => by
    unfold setOs at h
    cases q : setO i r e with
    | bad => rw [q] at h; cases h
    | exc _ _ _ => rw [q] at h; cases h
    | ok f e1 =>
      rw [q] at h
      cases f with
      | rt _ => cases h
      | bk => cases h
      | ct => cases h
      | nx =>
        have nsr : (∀ j, r ≠ .s j) ∧ noS rs := by
          cases r with
          | s j => exact ns.elim
          | r t => exact ⟨(fun j q => by cases q), ns⟩
          | b z => exact ⟨(fun j q => by cases q), ns⟩
        have a' : OdR K σ H0 F H x r := by
          cases r with
          | s j => exact ns.elim
          | r t => exact a
          | b z => exact a
        obtain ⟨R1, k1, ow⟩ := put_ok R k hB a' nsr.1 (fun p z er ex => no p 0 z (by rw [er]; rfl) (by rw [ex]; rfl)) q
        refine sets_ok (is := is) (rs := rs) (xs := xs) R1 k1 hB b nsr.2 (fun p j z hj hx hO => ?_) h
        rcases ow p hO with w | ⟨z', er, ex⟩
        · exact no p (j + 1) z (by simpa using hj) (by simpa using hx) w
        · exact n z' p er ex j z hj hx
end
section
variable {X : Cx} {W : WX} {B : Bd} {a b c : Expr} {ma mb mc : SemE} {pos : Pos}
/-- names = values, all at once -/
def sPar (is : List Nat) (m : SemA) : SemS := fun e => (m e).bind fun rs e1 => match presc rs e1 with
  | some (rs', e2) => (match setOs is rs' e2 with
    | some e3 => .ok .nx e3
    | none => .bad)
  | none => .bad
theorem par_read {is : List Nat} {m : SemA} {K : PySem.W.Frag} {D : Ends} {σ : Sg} {H : Hp} (h : tS K W B (sPar is m) D σ H) : tA K W m σ H fun xs H1 => xs.length = is.length ∧ D.nx (setsσ is xs σ) H1 ∧ ∀ p o, H1 p = none → D.nx (setsσ is xs σ) (upd H1 p o) := by
  obtain ⟨e, F, R, k, h⟩ := h
  refine tX_imp (tS_bind (rel := fun σ Hs F H xs rs => OdsR K σ Hs F H rs xs) R k h) fun xs H1 ⟨rs, e1, F1, R1, S1, k1, O, h1⟩ => ?_
  cases q : presc rs e1 with
  | none => simp only [q] at h1; exact h1.elim
  | some te =>
    obtain ⟨rs', e2⟩ := te
    simp only [q] at h1
    obtain ⟨F2, R2, S2, O2, ns, _, _, _⟩ := presc_ok R R1 S1 O q
    have k2 := k.step S2
    cases q2 : setOs is rs' e2 with
    | none => simp only [q2] at h1; exact h1.elim
    | some e3 =>
      simp only [q2] at h1
      have hB : ∀ p, H p = none → B.H p = none := fun p hn => by
        cases q : B.H p with
        | none => rfl
        | some o => obtain ⟨o', e'⟩ := k.dom _ _ q; rw [hn] at e'; cases e'
      have no : ∀ {F' H'}, OdsR K σ H F' H' rs' xs → ∀ p (j : Nat) z, rs'[j]? = some (.b z) → xs[j]? = some (.ref p) → ¬ Own e2 σ p := fun O2 p j z hj hx => by
        obtain ⟨p', hx', hn, _⟩ := ods_tmp O2 j z hj
        rw [hx] at hx'; cases hx'
        exact fresh_not_own R S2 hn
      have len : ∀ {is : List Nat} {rs : List Od} {e e' : En}, setOs is rs e = some e' → is.length = rs.length := by
        intro is
        induction is with
        | nil => intro rs e e' h; cases rs with
          | nil => rfl
          | cons _ _ => cases h
        | cons i is ih => intro rs e e' h; cases rs with
          | nil => cases h
          | cons r rs =>
            unfold setOs at h
            split at h
            · simp [ih h]
            · cases h
      refine ⟨by rw [len q2, ods_len O2], ?_, fun p o hp => ?_⟩
      · obtain ⟨R3, k3⟩ := sets_ok R2 k2 hB O2 ns (no O2) q2
        exact h1 _ _ _ R3 k3
      · have R2' := laid_own (o := o) R2 hp
        have k2' := k2.step (laid_own_step (e := e2) (σ := σ) (F := F2) (o := o) hp)
        have O2' : OdsR K σ H F2 (upd H1 p o) rs' xs := by
          have mono : ∀ {rs xs}, OdsR K σ H F2 H1 rs xs → OdsR K σ H F2 (upd H1 p o) rs xs := by
            intro rs xs O
            induction O with
            | nil => exact .nil
            | cons a b n ih =>
              refine .cons ?_ ih n
              rename_i r x _ _
              cases r with
              | r t => exact a
              | s i => exact a
              | b z =>
                obtain ⟨p', ep, hn, hf, bx⟩ := a
                exact ⟨p', ep, hn, hf, bx_keep bx (fun _ _ h => h) fun o' h' => by rw [upd_ne (ne_of_none h' hp)]; exact h'⟩
          exact mono O2
        obtain ⟨R3, k3⟩ := sets_ok R2' k2' hB O2' ns (no O2') q2
        exact h1 _ _ _ R3 k3
theorem qpar2 {i j : Nat} {x y : Str} {px py pt : Pos} {kt k2 pt2} {m : SemA} (hc : X.calm = true) (hN : X.N.Nodup) (hi : X.N[i]? = some x) (hj : X.N[j]? = some y) (hij : i ≠ j)
    (hx : X.env.scope.names.lookup x = some .local) (hy : X.env.scope.names.lookup y = some .local) (ha : QA X W [a, b] m)
    (hw : swappedStores [.Tuple [.Name x px, .Name y py] kt pt] (.Tuple [a, b] k2 pt2) X.env = pure (some [x, y]))
    (hs : swapsWithSole [.Tuple [.Name x px, .Name y py] kt pt] (.Tuple [a, b] k2 pt2) pos.line X.env = pure false := by rfl) :
    QS X W B (.Assign [.Tuple [.Name x px, .Name y py] kt pt] (.Tuple [a, b] k2 pt2) pos) (sPar [i, j] m) :=
  ps_mono (ps_par hc hN hi hj hij hx hy ha hw hs) fun D σ H h => tX_imp (par_read h) fun xs H1 ⟨hl, q, _⟩ => by
    match xs, hl, q with
    | [v, w], _, q => exact ⟨v, w, rfl, q⟩
/-- by the tuple -/
theorem qparT {tgs es : List Expr} {is : List Nat} {m : SemA} {kt k2 : Nat} {pt pt2 : Pos} {gs : TGs} (hc : X.calm = true) (ha : QA X W es m) (hg : PGs X tgs gs) (hgs : ∀ xs σ H Q, xs.length = is.length → Q (setsσ is xs σ) H → gs xs σ H Q) (hlen : is.length ≤ sizeLine)
    (hs : swapsWithSole [.Tuple tgs kt pt] (.Tuple es k2 pt2) pos.line X.env = pure false := by rfl) (hw : swappedStores [.Tuple tgs kt pt] (.Tuple es k2 pt2) X.env = pure none := by rfl)
    (h1 : (assignEach [.Tuple tgs kt pt] X.env).map (·.2) = [assign (.Tuple tgs kt pt) X.env] := by rfl) (hn : (assignEach tgs X.env).length = is.length := by rfl) (hst : (assignEach tgs X.env).findIdx? (·.1) = none := by rfl) :
    QS X W B (.Assign [.Tuple tgs kt pt] (.Tuple es k2 pt2) pos) (sPar is m) :=
  ps_mono (ps_asg (pe_tup ha) (pg_tup hc hg hn hst) hs hw h1) fun D σ H h => tX_imp (par_read h) fun xs H1 ⟨hl, _, q⟩ =>
    ⟨by rw [hl]; exact hlen, fun p hp => ⟨p, xs, rfl, SqT.of upd_same, hl, hgs _ _ _ _ hl (q p _ hp)⟩⟩
def gsNames : List Nat → TGs
  | [] => gNil
  | i :: is => gCons (gName i) (gsNames is)
theorem gsNames_ok : ∀ (is : List Nat) (xs : List V) (σ : Sg) (H : Hp) (Q : Sg → Hp → Prop), xs.length = is.length → Q (setsσ is xs σ) H → gsNames is xs σ H Q
  | [], [], σ, H, Q, _, h => ⟨rfl, h⟩
  | [], _ :: _, _, _, _, h, _ => by cases h
  | _ :: _, [], _, _, _, h, _ => by cases h
  | i :: is, x :: xs, σ, H, Q, hl, h => ⟨x, xs, rfl, gsNames_ok is xs _ H Q (by simpa using hl) h⟩
end
end Ev

set_option Elab.async false
set_option linter.all false
set_option maxRecDepth 100000
namespace Ev
open PySem PySem.Spec PyProof.Rows L2
section
variable {X : Cx} {W : WX} {B : Bd} {a b c : Expr} {ma mb mc : SemE} {pos : Pos}
/-! ### calls -/
/-! ### x.index(y) -/
def findT (ts : List T) (u : T) : Option Nat := ts.findIdx? fun z => PyData.eqv z u
def eIndex (mo : SemE) (ma : SemA) : SemE := fun e => (mo e).bind fun r e1 => match r.val e1 with
  | some (.list _) => (ma e1).bind fun rs e2 => (match r.val e2, vals e2 rs with
    | some (.list ts), some [u] => if SeqAt.shaped (.list ts) && SeqAt.shaped u then (match findT ts u with
      | some j => .ok (.r (.int (j : Nat))) e2
      | none => .bad) else .bad
    | _, _ => .bad)
  | _ => .bad
/-! ### x[i] = v of a list that a name alone holds -/
def sSetIx (i : Nat) (mi mv : SemE) : SemS := fun e => (mv e).bind fun r e1 => match e1[i]? with
  | some (.ow _ (.l _)) => (mi e1).bind fun ri e2 => (match ri.val e2, esc r e2 with
    | some (.int k), some (t, e3) => (match e3[i]? with
      | some (.ow l (.l ts)) => (match ixN ts.length k with
        | some j => .ok .nx (e3.set i (.ow l (.l (ts.set j t))))
        | none => .bad)
      | _ => .bad)
    | _, _ => .bad)
  | _ => .bad
theorem qsetix {i : Nat} {x : Str} {p p' : Pos} {ix v : Expr} {mi mv : SemE} (hN : X.N[i]? = some x) (hv : Vis X.env.scope x) (hi : QE X W ix mi) (hval : QE X W v mv) (hd : (x == ("__debug__" : Str)) = false := by decide) (hcd : (x == ("__classdict__" : Str)) = false := by decide)
    (ha : ∀ w, assign (.Subscript (.Name x p) ix p') X.env w = (do
      let ov ← holding [w] (eval (.Name x p) X.env)
      let iv ← holding [w, ov] (eval ix X.env)
      standAt p'
      holding [w, ov, iv] (setItem ov iv w)
      release [w, ov, iv] []) := by intro _; rfl)
    (hs : swapsWithSole [.Subscript (.Name x p) ix p'] v pos.line X.env = pure false := by rfl) (hw : swappedStores [.Subscript (.Name x p) ix p'] v X.env = pure none := by rfl)
    (h1 : (assignEach [.Subscript (.Name x p) ix p'] X.env).map (·.2) = [assign (.Subscript (.Name x p) ix p') X.env] := by rfl) : QS X W B (.Assign [.Subscript (.Name x p) ix p'] v pos) (sSetIx i mi mv) := by
  refine ps_mono (ps_asg hval (pg_sub (pe_var hN hv hd hcd) hi set_list ha) hs hw h1) fun D σ H h => ?_
  obtain ⟨e, F, R, k, h⟩ := h
  refine tX_imp (tS_bind (rel := fun σ => OdR X.K σ) R k h) fun y H1 ⟨r, e1, F1, R1, S1, k1, O1, h1⟩ => ?_
  split at h1
  rename_i l0 ts0 q0
  obtain ⟨o, hs0, p, ep, _⟩ := R1.var q0
  subst ep
  refine ⟨_, hs0, tX_imp (tS_bind (B := B) (m := mi) (rel := fun σ => OdR X.K σ) R1 k1 h1) fun iv H2 ⟨ri, e2, F2, R2, S2, k2, O2, h2⟩ => ?_⟩
  have O1' := od_stay O1 (fun p hp => fresh_not_own R S1 hp) S2
  split at h2
  · rename_i kk t e3 q1 q2
    have d := val_ok R2 O2 q1
    cases d
    obtain ⟨F3, R3, S3, d3, _⟩ := esc_ok R R2 (S1.trans S2) O1' q2
    split at h2
    · rename_i l ts q3
      cases q4 : ixN ts.length kk with
      | none => simp only [q4] at h2; exact h2.elim
      | some j =>
        simp only [q4] at h2
        obtain ⟨p', ep, hf, xs, hx, dd⟩ := R3.at_ i _ _ q3 hs0
        cases ep
        refine ⟨p, xs, kk, j, rfl, rfl, hx, by rw [dpAll_len dd]; exact q4, ?_⟩
        obtain ⟨R4, S4⟩ := upd_own R3 q3 hs0 (dpAll_set d3 j dd)
        exact h2 σ F3 _ R4 ((k.step S3).step S4)
    · exact h2.elim
  · exact h2.elim
  · exact h1.elim
end
end Ev

set_option Elab.async false
set_option linter.all false
set_option maxRecDepth 100000
namespace Ev
open PySem PySem.Spec PyProof.Rows L2
section
variable {X : Cx} {W : WX} {B : Bd} {a b c : Expr} {ma mb mc : SemE} {pos : Pos}
/-! ### f(k = v, ..): keywords alone -/
def pick {α : Type} (perm : List Nat) (l : List α) : List α := perm.filterMap (l[·]?)
def eCallK (n : Nat) (perm : List Nat) (m : FSem) (mk : SemA) : SemE := fun e => (mk e).bind fun rs e1 => if (pick perm rs).length = n ∧ rs.length = n ∧ perm.Nodup then eCallR m (pick perm rs) e1 else .bad
/-! ### a < b < c -/
end
/-! ### the law's own end -/
theorem law_sp {K : PySem.W.Frag} {m : FSem} {a : Addr} {H : Hp} {ns : List Int} (hS : SqL K H a (ns.map V.int)) (h : ∃ e', m [.v (.list (ns.map PyData.int))] = .ok (.r (.bool true)) e') : spF K 1 m [.ref a] H (fun v _ => v = .bl true) fun _ _ _ => False := by
  obtain ⟨e', h⟩ := h
  have dp : DpAll K H (ns.map V.int) (ns.map PyData.int) := by
    clear hS h
    induction ns with
    | nil => exact .nil
    | cons n ns ih => exact .cons (.int n) ih
  refine ⟨rfl, [.v (.list (ns.map PyData.int))], H, ⟨fun _ _ h => h, rfl, fun i s o h1 h2 => ?_, fun i j l b l' b' p h1 => ?_⟩, ?_⟩
  · cases i with
    | zero => simp at h1 h2; subst h1 h2; exact ⟨_, rfl, .lst hS dp⟩
    | succ i => simp at h1
  · cases i with
    | zero => simp at h1
    | succ i => simp at h1
  · rw [h]
    intro x F' H' R' S' o
    cases o
    rfl
theorem law_CX {P : Program} {w : World} (H : Hp) (s : Shared) (e : Value) (s' : Shared) : L2N.CX P w [] H s (fun _ _ _ => False) e s' → False := fun h => by
  obtain ⟨_, _, _, _, _, _, _, _, _, _, _, _, z⟩ := h
  exact z.elim
theorem takesN0 {X : Cx} : L2N.Takes X (fun _ _ _ _ => False) := fun _ _ x => by
  obtain ⟨_, _, _, _, _, _, _, _, _, _, _, _, _, _, _, _, z⟩ := x
  exact z.elim
end Ev
namespace Ev
open PySem PySem.Spec PyProof.Rows L2
theorem room65 {k : Nat} {A : Around} (r : Room k A) : A.units + 65 < cLine := by have := r.un; omega
section
variable {X : Cx} {W : WX} {B : Bd} {a : Expr} {ma : SemE} {pos : Pos}
/-- name += e, ints -/
def sAug (i : Nat) (g : T → T → Option Od) (m : SemE) : SemS := fun e => match e[i]? with
  | some (.v t) => (m e).bind fun r e1 => (match r.val e1 with
    | some u => (match g t u with
      | some (.r (.int k)) => setO i (.r (.int k)) e1
      | _ => .bad)
    | none => .bad)
  | _ => .bad
end
end Ev

set_option Elab.async false
set_option linter.all false
set_option maxRecDepth 100000
namespace Ev
open PySem PySem.Spec PyProof.Rows L2
/-- each once -/
def dd {α : Type} [DecidableEq α] : List α → List α
  | [] => []
  | x :: xs => if x ∈ xs then dd xs else x :: dd xs
section
variable {X : Cx} {W : WX} {a : Expr} {ma : SemE} {pos : Pos}
/-- the ints of a tuple; of all tuples of a list -/
def intsOf : List T → Option (List Int)
  | [] => some []
  | .int i :: ts => (intsOf ts).map (i :: ·)
  | _ => none
def tupsOf : List T → Option (List (List Int))
  | [] => some []
  | .tuple ts :: us => (match intsOf ts, tupsOf us with
    | some a, some b => some (a :: b)
    | _, _ => none)
  | _ => none
def eLenSet (m : SemE) : SemE := fun e => (m e).bind fun r e1 => match r.val e1 with
  | some (.list ts) => (match tupsOf ts with
    | some ns => if ns.length < 64 then .ok (.r (.int ((dd ns).length : Nat))) e1 else .bad
    | none => .bad)
  | _ => .bad
end
end Ev
namespace Ev
open PySem PySem.Spec PyProof.Rows L2
/-! ### the law's end: any world -/
def CXE : CXT := fun outer H s E e s' => ∃ (P : Program) (w : World), L2N.CX P w outer H s E e s'
theorem fnok_cx {P : Program} {w : World} {K : PySem.W.Frag} {mg : Str → Option Value} {base : Heap} {k : Nat} {f : Addr} {fd : FuncData} {ps : List Str} {sp : Sp} (F : FnOk P w K mg base (L2N.CX P w) k f fd ps sp) : FnOk P w K mg base CXE k f fd ps sp :=
  ⟨F.len, fun A outer s H args us vs Q E hr he hb hv hs => codeAny_mono (F.run A outer s H args us vs Q E hr he hb hv hs) fun r s' h => by
    rcases r with e | (_ | _ | _ | _)
    all_goals first | exact h | exact ⟨P, w, h⟩⟩
theorem law_CXE (H : Hp) (s : Shared) (e : Value) (s' : Shared) : CXE [] H s (fun _ _ _ => False) e s' → False := fun ⟨_, _, z⟩ => law_CX H s e s' z
end Ev

set_option Elab.async false
set_option linter.all false
set_option maxRecDepth 100000
namespace L2
open PySem PySem.Spec PyProof.Rows
end L2
namespace Ev
open PySem PySem.Spec PyProof.Rows L2
def iR2w (m : SemA) : SemI := fun e => (m e).bind fun rs e1 => match vals e1 rs with
  | some [.int i, .int j] => .ok (intsT i (j - i).toNat) e1
  | _ => .bad
end Ev
namespace Ev
open PySem PySem.Spec PyProof.Rows L2
end Ev

set_option Elab.async false
set_option linter.all false
set_option maxRecDepth 100000
namespace Ev
open PySem PySem.Spec PyProof.Rows L2
section
variable {K : PySem.W.Frag} {W : WX} {e e1 : En} {σ : Sg} {F H : Hp}
end
/-! ### dicts of one's own: keys ints and texts -/
def keyEq : T → T → Bool
  | .int i, .int j => decide (i = j)
  | .str x, .str y => decide (x = y)
  | _, _ => false
def keyOf : T → Option Key
  | .int i => some (.inl i)
  | .str x => some (.inr x)
  | _ => none
def dLook (kvs : List (T × T)) (k : T) : Option T := (kvs.find? fun q => keyEq q.1 k).map (·.2)
def dPut (kvs : List (T × T)) (k v : T) : List (T × T) := if (kvs.any fun q => keyEq q.1 k) = true then kvs.map (fun q => if keyEq q.1 k = true then (q.1, v) else q) else kvs ++ [(k, v)]
section
variable {X : Cx} {W : WX} {B : Bd} {a b c : Expr} {ma mb mc : SemE} {pos : Pos}
/-- d[k] -/
def eDGet (i : Nat) (mk : SemE) : SemE := fun e => match e[i]? with
  | some (.ow _ (.d _)) => (mk e).bind fun r e1 => match r.val e1, e1[i]? with
    | some t, some (.ow _ (.d kvs)) => (match keyOf t, dLook kvs t with
      | some _, some u => .ok (.r u) e1
      | _, _ => .bad)
    | _, _ => .bad
  | _ => .bad
/-- d[k] = v -/
def sDPutV (i : Nat) (mk mv : SemE) : SemS := fun e => (mv e).bind fun r e1 => match e1[i]? with
  | some (.ow _ (.d _)) => (mk e1).bind fun rk e2 => (match rk.val e2, esc r e2 with
    | some t, some (u, e3) => (match keyOf t, e3[i]? with
      | some _, some (.ow l (.d kvs)) => if kvs.length < sizeLine then .ok .nx (e3.set i (.ow l (.d (dPut kvs t u)))) else .bad
      | _, _ => .bad)
    | _, _ => .bad)
  | _ => .bad
end
section
variable {K : PySem.W.Frag} {e e1 : En} {σ : Sg} {F H F1 H1 : Hp} {p : Addr} {o : HO}
end
section
variable {X : Cx} {W : WX} {B : Bd} {a b c : Expr} {ma mb mc : SemE} {pos : Pos}
end
end Ev

set_option Elab.async false
set_option linter.all false
set_option maxRecDepth 100000
namespace Ev
open PySem PySem.Spec PyProof.Rows L2
/-! ### dicts of one's own: keys tuples of ints and texts -/
def keyOfs : List T → Option (List Key)
  | [] => some []
  | t :: ts => match keyOf t, keyOfs ts with
    | some k, some ks => some (k :: ks)
    | _, _ => none
def keyM : T → Option (List Key)
  | .tuple ts => keyOfs ts
  | _ => none
def mEq (a b : T) : Bool := decide (keyM a = keyM b)
def mLook (kvs : List (T × T)) (k : T) : Option T := (kvs.find? fun q => mEq q.1 k).map (·.2)
def mPut (kvs : List (T × T)) (k v : T) : List (T × T) := if (kvs.any fun q => mEq q.1 k) = true then kvs.map (fun q => if mEq q.1 k = true then (q.1, v) else q) else kvs ++ [(k, v)]
section
variable {X : Cx} {W : WX} {B : Bd} {a b c : Expr} {ma mb mc : SemE} {pos : Pos}
/-- d[k] -/
def eMGet (i : Nat) (mk : SemE) : SemE := fun e => match e[i]? with
  | some (.ow _ (.m _)) => (mk e).bind fun r e1 => match r.val e1, e1[i]? with
    | some t, some (.ow _ (.m kvs)) => (match keyM t, mLook kvs t with
      | some _, some u => .ok (.r u) e1
      | _, _ => .bad)
    | _, _ => .bad
  | _ => .bad
/-- k in d, k not in d -/
def eMIn (neg : Bool) (i : Nat) (mk : SemE) : SemE := fun e => (mk e).bind fun r e1 => match r.val e1, e1[i]? with
  | some t, some (.ow _ (.m kvs)) => (match keyM t with
    | some _ => .ok (.r (.bool (if neg then !(mLook kvs t).isSome else (mLook kvs t).isSome))) e1
    | _ => .bad)
  | _, _ => .bad
/-- k in a dict that is made there and then -/
def eMInE (neg : Bool) (mk md : SemE) : SemE := fun e => (mk e).bind fun r e1 => match r with
  | .r t => (md e1).bind fun rd e2 => (match rd, keyM t with
    | .b (.m kvs), some _ => .ok (.r (.bool (if neg then !(mLook kvs t).isSome else (mLook kvs t).isSome))) e2
    | _, _ => .bad)
  | _ => .bad
/-- d[k] = v -/
def sMPut (i : Nat) (mk mv : SemE) : SemS := fun e => (mv e).bind fun r e1 => match e1[i]? with
  | some (.ow _ (.m _)) => (mk e1).bind fun rk e2 => (match rk.val e2, esc r e2 with
    | some t, some (u, e3) => (match keyM t, e3[i]? with
      | some _, some (.ow l (.m kvs)) => if kvs.length < sizeLine then .ok .nx (e3.set i (.ow l (.m (mPut kvs t u)))) else .bad
      | _, _ => .bad)
    | _, _ => .bad)
  | _ => .bad
/-- {} -/
def eMNew : SemE := fun e => .ok (.b (.m [])) e
/-- the number of keys -/
def eMLen (i : Nat) : SemE := fun e => match e[i]? with
  | some (.ow _ (.m kvs)) => .ok (.r (.int (kvs.length : Int))) e
  | _ => .bad
end
/-! #### {k: v} with a tuple k -/
section
variable {X : Cx} {W : WX} {B : Bd} {a b c : Expr} {ma mb mc : SemE} {pos : Pos}
def eMDict1 (mk mv : SemE) : SemE := fun e => (mk e).bind fun rk e1 => (mv e1).bind fun rv e2 => match rk.val e2, rv with
  | some t, .r u => (match keyM t with
    | some _ => .ok (.b (.m [(t, u)])) e2
    | none => .bad)
  | _, _ => .bad
end
end Ev

set_option Elab.async false
set_option linter.all false
set_option maxRecDepth 100000
namespace Ev
open PySem PySem.Spec PyProof.Rows L2
/-! ### len of a dict with tuple keys -/
section
variable {X : Cx} {W : WX} {B : Bd} {a b c : Expr} {ma mb mc : SemE} {pos : Pos}
end
/-! ### sorted, of trees -/
end Ev

set_option Elab.async false
set_option linter.all false
set_option maxRecDepth 100000
set_option maxHeartbeats 1000000
/-! ### list(zip(t, u)) of two tuples -/
namespace LZ
open PySem PySem.W PySem.Calls PyProof.Rows PyProof.V PySem.Spec
open PySem.Sem (wp)
section
variable {prog : Program} {w : World} {A : Around} {E : Value → Shared → Prop} {s : Shared}
end
/-- the zip before its turn i; the list S stands apart -/
structure ZSt (h : Heap) (z TI TO i1 i2 l1 l2 S : Addr) (xs ys : Array Value) (i : Nat) : Prop where
  zip : (IsZip h z TI TO .none ∧ ∃ a b, IsPair h TO a b) ∨ ∃ (T : Addr) (f : Bool) (oT : Obj), IsZipHeld h z TI TO T f ∧ h.get? T = some oT ∧ T ≠ z ∧ T ≠ i1 ∧ T ≠ i2 ∧ T ≠ S
  tI : IsPair h TI (.ref i1) (.ref i2)
  it1 : h.IsTupleIter i1 l1 i
  it2 : h.IsTupleIter i2 l2 i
  li1 : h.IsTuple l1 xs
  li2 : h.IsTuple l2 ys
structure SApart (z TI TO i1 i2 l1 l2 S : Addr) : Prop where
  z : S ≠ z
  TI : S ≠ TI
  TO : S ≠ TO
  i1 : S ≠ i1
  i2 : S ≠ i2
  l1 : S ≠ l1
  l2 : S ≠ l2
theorem ZSt.up {h h' : Heap} {z TI TO i1 i2 l1 l2 S : Addr} {xs ys : Array Value} {i : Nat} (st : ZSt h z TI TO i1 i2 l1 l2 S xs ys i) (D : SApart z TI TO i1 i2 l1 l2 S) (up : ∀ b o, b ≠ S → h.get? b = some o → h'.get? b = some o) : ZSt h' z TI TO i1 i2 l1 l2 S xs ys i where
  zip := by
    rcases st.zip with ⟨hz, a, b, hTO⟩ | ⟨T, f, oT, hz, hT, n1, n2, n3, n4⟩
    · exact .inl ⟨up _ _ D.z.symm hz, a, b, up _ _ D.TO.symm hTO⟩
    · exact .inr ⟨T, f, oT, up _ _ D.z.symm hz, up _ _ n4 hT, n1, n2, n3, n4⟩
  tI := up _ _ D.TI.symm st.tI
  it1 := st.it1.at fun o e => up _ o D.i1.symm e
  it2 := st.it2.at fun o e => up _ o D.i2.symm e
  li1 := st.li1.at fun o e => up _ o D.l1.symm e
  li2 := st.li2.at fun o e => up _ o D.l2.symm e
section
variable {prog : Program} {w : World} {A : Around} {E : Value → Shared → Prop} {s : Shared}
end
/-- the pairs made so far -/
structure MadeZ (xs ys : Array Value) (lo : Addr) (h : Heap) (as : List Addr) : Prop where
  rise : as.Pairwise (· < ·)
  above : ∀ a ∈ as, lo < a
  pairs : ∀ (j : Nat) (a : Addr), as[j]? = some a → ∃ x y, xs[j]? = some x ∧ ys[j]? = some y ∧ IsPair h a x y
theorem MadeZ.there {xs ys : Array Value} {lo : Addr} {h : Heap} {as : List Addr} (g : MadeZ xs ys lo h as) {a : Addr} (ha : a ∈ as) : a < h.objs.size := by
  obtain ⟨j, hj⟩ := List.mem_iff_getElem?.mp ha
  obtain ⟨_, _, _, _, e⟩ := g.pairs j a hj
  exact Heap.lt_size e
section
variable {prog : Program} {w : World} {A : Around} {s : Shared} {R : Result → Shared → Prop} {xs ys : Array Value}
end
section
variable {prog : Program} {w : World} {A : Around} {E : Value → Shared → Prop} {s : Shared} {xs ys : Array Value}
end
end LZ

set_option Elab.async false
set_option linter.all false
set_option maxRecDepth 100000
set_option maxHeartbeats 1000000
namespace Ev
open PySem PySem.Spec PyProof.Rows L2
/-! ### list(zip(t, u)) -/
section
variable {K : PySem.W.Frag} {W : WX} {e e1 : En} {σ : Sg} {F H H2 : Hp} {as : List Addr}
end
def eListZip (m : SemA) : SemE := fun e => (m e).bind fun rs e1 => match escs rs e1 with
  | some ([.tuple ts, .tuple us], e2) => if ts.length = us.length then .ok (.b (.l (pairs ts us))) e2 else .bad
  | _ => .bad
end Ev

set_option Elab.async false
set_option linter.all false
set_option maxRecDepth 100000
namespace L2
open PySem PySem.Spec PyProof.Rows
/-! ### a dict comprehension whose keys are tuples -/
end L2

set_option Elab.async false
set_option linter.all false
set_option maxRecDepth 100000
namespace Ev
open PySem PySem.Spec PyProof.Rows L2
/-! ### {k: v for target in iter}, k a tuple: a tree at once -/
section
variable {X : Cx} {W : WX} {B : Bd} {a b c : Expr} {ma mb mc : SemE} {pos : Pos}
end
/-! ### sum -/
def intL : List T → Option (List Int)
  | [] => some []
  | .int i :: ts => (intL ts).map (i :: ·)
  | _ :: _ => none
def fSum : T → Option Od
  | .list ts => (intL ts).map fun ns => .r (.int ns.sum)
  | _ => none
abbrev gSum := g1 fSum
end Ev
namespace Ev
open PySem PySem.Spec PyProof.Rows L2
section
variable {X : Cx} {W : WX} {B : Bd} {a : Expr} {ma : SemE} {pos : Pos}
end
end Ev

set_option Elab.async false
set_option linter.all false
set_option maxRecDepth 100000
namespace Ev
open PySem PySem.Spec PyProof.Rows L2
/-! ### dicts whose keys are ints and tuples of such, nested -/
section
variable {X : Cx} {pins : List (Addr × Obj)} {σ : Sg} {F H : Hp} {s : Shared}
end
end Ev

set_option Elab.async false
set_option linter.all false
set_option maxRecDepth 100000
namespace Ev
open PySem PySem.Spec PyProof.Rows L2
section
variable {X : Cx} {W : WX} {B : Bd} {a b c : Expr} {ma mb mc : SemE} {pos : Pos}
/-- {}, to be a dict with nested keys -/
def eNNew : SemE := fun e => .ok (.b (.n [])) e
/-- the number of keys -/
def eNLen (i : Nat) : SemE := fun e => match e[i]? with
  | some (.ow _ (.n kvs)) => .ok (.r (.int (kvs.length : Int))) e
  | _ => .bad
end
/-! ### max(xs), xs a list of ints -/
def top : List Int → Option Int
  | [] => none
  | i :: is => some (is.foldl (fun m y => if m < y then y else m) i)
def fMax1 : T → Option Od
  | .list ts => (intL ts).bind fun ns => (top ns).map fun m => .r (.int m)
  | _ => none
abbrev gMax1 := g1 fMax1
end Ev

set_option Elab.async false
set_option linter.all false
set_option maxRecDepth 100000
namespace Ev
open PySem PySem.Spec PyProof.Rows L2
/-! ### list(range(n)) -/
section
variable {X : Cx}
end
def eListRng (m : SemE) : SemE := fun e => (m e).bind fun r e1 => match r.val e1 with
  | some (.int i) => if 0 ≤ i ∧ i ≤ 2 ^ 16 then .ok (.b (.l (intsT 0 i.toNat))) e1 else .bad
  | _ => .bad
section
variable {X : Cx} {W : WX} {a : Expr} {ma : SemE} {p p2 q pos : Pos}
end
end Ev

set_option Elab.async false
set_option linter.all false
set_option maxRecDepth 100000
namespace Ev
open PySem PySem.Spec PyProof.Rows L2
section
variable {X : Cx} {W : WX} {B : Bd} {a b c : Expr} {ma mb mc : SemE} {pos : Pos}
/-! ### len of a dict whose keys are ints or texts -/
def eDLen (i : Nat) : SemE := fun e => match e[i]? with
  | some (.ow _ (.d kvs)) => .ok (.r (.int (kvs.length : Int))) e
  | _ => .bad
/-! ### x[k], x a dict of its own or a list -/
end
end Ev

set_option Elab.async false
set_option linter.all false
set_option maxRecDepth 100000
namespace Ev
open PySem PySem.Spec PyProof.Rows L2
section
variable {X : Cx} {W : WX} {a b : Expr} {ma mb : SemE} {pos : Pos}
/-! ### [x] * n -/
def eRep (ma mb : SemE) : SemE := fun e => (ma e).bind fun ra e1 => (mb e1).bind fun rb e2 => match ra with
  | .b (.l us) => (match rb.val e2 with
    | some (.int k) => if 0 ≤ k ∧ k ≤ 2 ^ 16 ∧ us.length ≤ 16 then .ok (.b (.l (List.replicate k.toNat us).flatten)) e2 else .bad
    | _ => .bad)
  | _ => .bad
end
end Ev
namespace Ev
open PySem PySem.Spec PyProof.Rows L2
section
variable {X : Cx} {W : WX} {a : Expr} {ma : SemE} {pos : Pos}
/-! ### len of a new dict with tuple keys -/
def eMLenE (m : SemE) : SemE := fun e => (m e).bind fun r e1 => match r with
  | .b (.m kvs) => .ok (.r (.int (kvs.length : Int))) e1
  | _ => .bad
end
end Ev

set_option Elab.async false
set_option linter.all false
set_option maxRecDepth 100000
namespace Ev
open PySem PySem.Spec PyProof.Rows L2
/-! ### dict(xs), xs a list of pairs -/
def pairsOf : List T → Option (List (T × T))
  | [] => some []
  | .tuple [k, v] :: ts => (match keyOf k, pairsOf ts with
    | some _, some r => some ((k, v) :: r)
    | _, _ => none)
  | _ => none
def mergeT (acc kvs : List (T × T)) : List (T × T) := kvs.foldl (fun acc q => dPut acc q.1 q.2) acc
def eDictP (m : SemA) : SemE := fun e => (m e).bind fun rs e1 => match escs rs e1 with
  | some ([.list ts], e2) => (match pairsOf ts with
    | some kvs => .ok (.b (.d (mergeT [] kvs))) e2
    | none => .bad)
  | _ => .bad
section
variable {X : Cx} {W : WX} {B : Bd} {a b c : Expr} {ma mb mc : SemE} {pos : Pos}
/-! ### xs[i], xs[j] = v, w -/
def putS : List (Nat × SemE) → List T → SemS
  | [], [], e => .ok .nx e
  | (i, mk) :: tgs, t :: ts, e => (match e[i]? with
    | some (.ow _ (.l _)) => (mk e).bind fun ri e2 => (match ri.val e2, e2[i]? with
      | some (.int k), some (.ow l (.l us)) => (match ixN us.length k with
        | some j => putS tgs ts (e2.set i (.ow l (.l (us.set j t))))
        | none => .bad)
      | _, _ => .bad)
    | some (.ow _ (.d _)) => (mk e).bind fun ri e2 => (match ri.val e2, e2[i]? with
      | some u, some (.ow l (.d kvs)) => (match keyOf u with
        | some _ => if kvs.length < sizeLine then putS tgs ts (e2.set i (.ow l (.d (dPut kvs u t)))) else .bad
        | none => .bad)
      | _, _ => .bad)
    | _ => .bad)
  | _, _, _ => .bad
def sPutS (tgs : List (Nat × SemE)) (m : SemA) : SemS := fun e => (m e).bind fun rs e1 => match escs rs e1 with
  | some (ts, e2) => if ts.length = tgs.length ∧ ts.length ≤ sizeLine then putS tgs ts e2 else .bad
  | none => .bad
end
end Ev

set_option Elab.async false
set_option linter.all false
set_option maxRecDepth 100000
namespace Ev
open PySem PySem.Spec PyProof.Rows L2
/-! ### wide powers -/
section
variable {X : Cx}
end
abbrev gPowW : T → T → Option Od := gII (fun i j => decide (0 ≤ j ∧ j ≤ 100 ∧ i.natAbs.log2 < 1000000)) fun i j => .int (i ^ j.toNat)
theorem gPowW_ok {i j : Int} (h : 0 ≤ j ∧ j ≤ 100 ∧ i.natAbs.log2 < 1000000) : gPowW (.int i) (.int j) = some (.r (.int (i ^ j.toNat))) := by
  simp only [gPowW, gII, h, and_self, decide_true, if_true]
/-! ### zip of two lists or of two tuples -/
def iZip2 (m : SemA) : SemI := fun e => (m e).bind fun rs e1 => match escs rs e1 with
  | some ([.list ts, .list us], e2) => .ok (pairs ts us) e2
  | some ([.tuple ts, .tuple us], e2) => .ok (pairs ts us) e2
  | _ => .bad
end Ev

set_option Elab.async false
set_option linter.all false
set_option maxRecDepth 100000
namespace Ev
open PySem PySem.Spec PyProof.Rows L2
/-! ### a walk over what names hold, which they go on to hold -/
abbrev SemIG := En → Out (List T × (En → Prop))
open Classical in
noncomputable def compSG (gd : En → Prop) (g : SemG) (c : SemT) (m : SemE) (vs : List Nat) : List T → List T → SemE
  | [], acc, e => if gd e then .ok (.b (.l acc)) e else .bad
  | t :: ts, acc, e => if gd e then (match g t (wipeE e vs) with
    | some e1 => (c e1).nx.bind fun k e2 => if k then (m e2).nx.bind fun r e3 => (match esc r e3 with
        | some (u, e4) => if acc.length < sizeLine then compSG gd g c m vs ts (acc ++ [u]) (restE e e4 vs) else .bad
        | none => .bad)
      else compSG gd g c m vs ts acc (restE e e2 vs)
    | none => .bad) else .bad
noncomputable def eCompG (mi : SemIG) (g : SemG) (c : SemT) (m : SemE) (vs : List Nat) : SemE := fun e => (mi e).bind fun p e1 => compSG p.2 g c m vs p.1 [] e1
section
variable {X : Cx} {W : WX} {a b c : Expr} {ma mb mc : SemE} {pos : Pos}
/-- zip of two names -/
def seqOf : Sl → Option (List T ⊕ List T)
  | .v (.list ts) => some (.inl ts)
  | .v (.tuple ts) => some (.inr ts)
  | .ow _ (.l ts) => some (.inl ts)
  | .fz (.l ts) => some (.inl ts)
  | _ => none
def iZipV (i j : Nat) : SemIG := fun e => match e[i]?, e[j]? with
  | some si, some sj => (match seqOf si, seqOf sj with
    | some (.inl ts), some (.inl us) => .ok (pairs ts us, fun e' => e'[i]? = some si ∧ e'[j]? = some sj) e
    | some (.inr ts), some (.inr us) => .ok (pairs ts us, fun e' => e'[i]? = some si ∧ e'[j]? = some sj) e
    | _, _ => .bad)
  | _, _ => .bad
end
end Ev

set_option Elab.async false
set_option linter.all false
set_option maxRecDepth 100000
namespace Ev
open PySem PySem.Spec PyProof.Rows L2
/-! ### what is never reached -/
section
variable {X : Cx} {W : WX} {B : Bd} {a b c : Expr} {ma mb mc : SemE} {pos : Pos}
/-! ### great products -/
def CMulX (i j : Int) : Prop := i.natAbs.log2 + j.natAbs.log2 < 100000000
theorem CMulX.ok {i j : Int} (h : CMulX i j) : IntMulOk i j := by
  have b : ∀ x : Int, Builtin.Int.intBits x ≤ x.natAbs.log2 + 1 := fun x => by
    unfold Builtin.Int.intBits
    split <;> omega
  have h1 := b i
  have h2 := b j
  have h3 : i.natAbs.log2 + j.natAbs.log2 < 100000000 := h
  have e : bitsLine = 134217728 := by decide
  unfold IntMulOk
  intro z
  rw [Bool.and_eq_true] at z
  have z2 := z.2
  unfold Builtin.Int.intTooBig at z2
  have z3 := of_decide_eq_true z2
  rw [e] at z3
  omega
end
abbrev gMulX : T → T → Option Od := gII (fun i j => decide (i.natAbs.log2 + j.natAbs.log2 < 100000000)) fun i j => .int (i * j)
theorem gMulX_ok {i j : Int} (h : i.natAbs.log2 + j.natAbs.log2 < 100000000) : gMulX (.int i) (.int j) = some (.r (.int (i * j))) := by
  simp only [gMulX, gII, h, decide_true, if_true]
/-! ### ints as texts -/
def fStr : T → Option Od
  | .int i => if i.natAbs.log2 < 1920 then some (.r (.str (toString i))) else none
  | _ => none
abbrev gStr := g1 fStr
/-! ### texts joined -/
def strsOf : List T → Option (List Str)
  | [] => some []
  | .str x :: ts => (strsOf ts).map (x :: ·)
  | _ :: _ => none
def eJoin (mo m : SemE) : SemE := fun e => (mo e).bind fun ro e0 => match ro with
  | .r (.str sep) => (m e0).bind fun r e1 => (match r.val e1 with
    | some (.list ts) => (match strsOf ts with
      | some ys => if (ys.map (·.length)).sum + ys.length * sep.length ≤ 16777216 then .ok (.r (.str (Txt.join sep ys))) e1 else .bad
      | none => .bad)
    | some (.tuple ts) => (match strsOf ts with
      | some ys => if (ys.map (·.length)).sum + ys.length * sep.length ≤ 16777216 then .ok (.r (.str (Txt.join sep ys))) e1 else .bad
      | none => .bad)
    | _ => .bad)
  | _ => .bad
section
variable {X : Cx} {W : WX} {B : Bd} {a b c : Expr} {ma mb mc : SemE} {pos : Pos}
/-! ### f-strings -/
def eFmt (m : SemE) : SemE := fun e => (m e).bind fun r e1 => match r.val e1 with
  | some (.str y) => if y.length ≤ sizeLine then .ok (.r (.str y)) e1 else .bad
  | some (.int i) => if i.natAbs.log2 < 1920 then .ok (.r (.str (toString i))) e1 else .bad
  | _ => .bad
def eJs : List SemE → Str → SemE
  | [], acc, e => .ok (.r (.str acc)) e
  | m :: ms, acc, e => (m e).bind fun r e1 => match r with
    | .r (.str y) => if (acc ++ y).length ≤ sizeLine then eJs ms (acc ++ y) e1 else .bad
    | _ => .bad
end
end Ev
namespace L2
open PySem PySem.Spec PyProof.Rows
/-- as walk_ofE, the bits told -/
theorem walk_ofEB {l : PySem.W.OpenLaw} {n k : Nat} {q : Program} {loose : List Str} {XP : (Str → Option Value) → Heap → Prop} {YP : World → Heap → Prop} {d : DefRec} {CX : CXT} {x : Str}
    (hn : l.most = some n) (hn2 : n ≤ sizeLine) (hdf : d.params.defaults = []) (hr : Room k callerA)
    (F : ∀ (w : World) (mg : Str → Option Value) (fa : Addr) (h : Heap), YP w h → h.Ns mainGlobals mg → mg d.name = some (.ref fa) →
      ∃ (K : PySem.W.Frag) (fd : FuncData) (sp : Sp), K.In h ∧ (∀ (s : Shared) (u : Value), BindsTo s fd ⟨[u], []⟩ [(x, u)]) ∧
        (∀ (H : Hp) (a : Addr) (ns : List Int), ns.length ≤ n → (∀ k ∈ ns, Builtin.Int.intBits k ≤ 1048576) → Only H → SqL K H a (ns.map V.int) → sp [.ref a] H (fun v _ => v = .bl true) fun _ _ _ => False) ∧
        ∀ base : Heap, K.In base → base.Ns mainGlobals mg → FnOk l.prog w K mg base CX k fa fd [x] sp)
    (hCX : ∀ (H : Hp) (s : Shared) (e : Value) (s' : Shared), CX [] H s (fun _ _ _ => False) e s' → False) :
    PySem.W.WalkO q loose XP YP l.row.toRowW d [] (fun f vs => PySem.call f vs) := by
  refine Att.attach_callB hn hdf fun w s₀ s₁ mg mb fa o pm cd doc a vs ns G Y ho hd hcd hmg hobj hints hlen hbits hg => ?_
  obtain ⟨K, fd, sp, KX, hb, hsp, hF⟩ := F w mg fa _ Y G.T.g hmg
  exact law_call KX G.T.g G.T.b G.T.builtins G.T.nolimit hg hobj hints (Nat.le_trans hlen hn2) hr hF hb (fun H hO hS => hsp H a ns hlen hbits hO hS) fun H e s' => hCX H s₁ e s'
end L2

set_option Elab.async false
set_option linter.all false
set_option maxRecDepth 100000
namespace Ev
open PySem PySem.Spec PyProof.Rows L2
/-! ### a walk over what one name holds, which it goes on to hold -/
def iNmG (i : Nat) : SemIG := fun e => match e[i]? with
  | some si => (match seqOf si with
    | some (.inl ts) => .ok (ts, fun e' => e'[i]? = some si) e
    | some (.inr ts) => .ok (ts, fun e' => e'[i]? = some si) e
    | none => .bad)
  | none => .bad
section
variable {X : Cx} {W : WX}
end
/-! ### the length of a text -/
def fLenS : T → Option Od
  | .str z => if z.length ≤ sizeLine then some (.r (.int z.length)) else none
  | _ => none
abbrev gLenS := g1 fLenS
theorem gLenS_ok {z : Str} (h : z.length ≤ sizeLine) : gLenS [.str z] = some (.r (.int z.length)) := if_pos h
end Ev

set_option Elab.async false
set_option linter.all false
set_option maxRecDepth 100000
namespace Ev
open PySem PySem.Spec PyProof.Rows L2
/-! ### a list of lists that are grown one by one -/
def plainS : Sl → Bool
  | .un => true
  | .v _ => true
  | _ => false
def plainE (e : En) : Bool := e.all plainS
section
variable {K : PySem.W.Frag} {W : WX} {B : Bd} {e e' : En} {σ σ' : Sg} {F H F' H' : Hp} {i : Nat} {p : Addr}
theorem plain_at (h : plainE e = true) {s : Sl} (q : e[i]? = some s) : plainS s = true := List.all_eq_true.mp h _ (List.mem_of_getElem? q)
theorem plain_ow (h : plainE e = true) {l : Bool} {b : Bx} : e[i]? ≠ some (.ow l b) := fun q => by cases plain_at h q
theorem plain_own (h : plainE e = true) : ¬ Own e σ p := fun ⟨_, _, _, q, _⟩ => plain_ow h q
theorem plain_step (hp : plainE e = true) (S : Step e e' σ F H F' H') {a : Addr} {o : HO} (h : H a = some o) : H' a = some o ∧ (F a = none → F' a = none) := S.keep a o h (plain_own hp)
end
structure Gd (H0 F H : Hp) (D : Addr) (gs : List (List Int)) (qs : List Addr) : Prop where
  len : qs.length = gs.length
  d0 : H0 D = none
  q0 : ∀ q ∈ qs, H0 q = none
  nd : qs.Nodup
  dq : D ∉ qs
  fd : F D = none
  fq : ∀ q ∈ qs, F q = none
  hd : H D = some (.lst (qs.map .ref))
  hq : ∀ (j : Nat) (q : Addr) (ns : List Int), qs[j]? = some q → gs[j]? = some ns → H q = some (.lst (ns.map .int))
  up : ∀ a o, H0 a = some o → H a = some o
theorem Gd.sm {H0 F H : Hp} {D : Addr} {gs : List (List Int)} {qs : List Addr} (g : Gd H0 F H D gs qs) {q : Addr} (h : q ∈ qs) : ∃ o, H q = some o := by
  obtain ⟨j, hj⟩ := List.getElem?_of_mem h
  have hl : j < gs.length := by rw [← g.len]; exact (List.getElem?_eq_some_iff.mp hj).1
  exact ⟨_, g.hq j q _ hj (List.getElem?_eq_getElem hl)⟩
/-- nothing that stands is changed -/
theorem Gd.on {H0 F H F' H' : Hp} {D : Addr} {gs : List (List Int)} {qs : List Addr} (g : Gd H0 F H D gs qs) (k : ∀ a o, H a = some o → H' a = some o ∧ (F a = none → F' a = none)) : Gd H0 F' H' D gs qs where
  len := g.len
  d0 := g.d0
  q0 := g.q0
  nd := g.nd
  dq := g.dq
  fd := (k _ _ g.hd).2 g.fd
  fq := fun q hq => by obtain ⟨o, ho⟩ := g.sm hq; exact (k _ _ ho).2 (g.fq q hq)
  hd := (k _ _ g.hd).1
  hq := fun j q ns h1 h2 => (k _ _ (g.hq j q ns h1 h2)).1
  up := fun a o h => (k _ _ (g.up a o h)).1
/-- one more -/
theorem Gd.more {H0 F H : Hp} {D p : Addr} {gs : List (List Int)} {qs : List Addr} (g : Gd H0 F H D gs qs) (fh : ∀ a o, F a = some o → H0 a = some o) (hp : H p = none) : Gd H0 F (upd (upd H p (.lst [])) D (.lst (qs.map .ref ++ [.ref p]))) D (gs ++ [[]]) (qs ++ [p]) := by
  have p0 : H0 p = none := by
    cases q : H0 p with
    | none => rfl
    | some o => have := g.up _ _ q; rw [hp] at this; cases this
  have pD : p ≠ D := fun q => by subst q; rw [g.hd] at hp; cases hp
  have pq : ∀ q ∈ qs, q ≠ p := fun q hq e => by subst e; obtain ⟨o, ho⟩ := g.sm hq; rw [hp] at ho; cases ho
  have Dq : ∀ q ∈ qs, q ≠ D := fun q hq e => g.dq (e ▸ hq)
  refine ⟨by simp [g.len], g.d0, fun q hq => ?_, ?_, fun h => ?_, g.fd, fun q hq => ?_, ?_, fun j q ns h1 h2 => ?_, fun a o h => ?_⟩
  · rcases List.mem_append.mp hq with h | h
    · exact g.q0 q h
    · rw [List.mem_singleton.mp h]; exact p0
  · exact List.nodup_append.mpr ⟨g.nd, by simp, fun a ha b hb => by rw [List.mem_singleton.mp hb]; exact pq a ha⟩
  · rcases List.mem_append.mp h with h | h
    · exact g.dq h
    · exact pD (List.mem_singleton.mp h).symm
  · rcases List.mem_append.mp hq with h | h
    · exact g.fq q h
    · rw [List.mem_singleton.mp h]
      cases z : F p with
      | none => rfl
      | some o => rw [fh _ _ z] at p0; cases p0
  · rw [upd_same, List.map_append]; rfl
  · by_cases hj : j < qs.length
    · rw [List.getElem?_append_left hj] at h1
      rw [List.getElem?_append_left (by rw [← g.len]; exact hj)] at h2
      have m := List.mem_of_getElem? h1
      rw [upd_ne (Dq q m), upd_ne (pq q m)]
      exact g.hq j q ns h1 h2
    · have hl : j < (qs ++ [p]).length := (List.getElem?_eq_some_iff.mp h1).1
      have ej : j = qs.length := by simp at hl; omega
      subst ej
      simp at h1
      rw [g.len] at h2
      simp at h2
      subst h1 h2
      rw [upd_ne pD, upd_same]; rfl
  · have h' := g.up a o h
    have aD : a ≠ D := fun q => by subst q; rw [g.d0] at h; cases h
    have ap : a ≠ p := fun q => by subst q; rw [p0] at h; cases h
    rw [upd_ne aD, upd_ne ap]; exact h'
end Ev

set_option Elab.async false
set_option linter.all false
set_option maxRecDepth 100000
namespace Ev
open PySem PySem.Spec PyProof.Rows L2
/-! ### methods of texts -/
def eSM1 (f : Str → Str → Option Od) (mo m : SemE) : SemE := fun e => (mo e).bind fun ro e0 => match ro with
  | .r (.str a) => (m e0).bind fun r e1 => (match r with
    | .r (.str b) => (match f a b with
      | some w => .ok w e1
      | none => .bad)
    | _ => .bad)
  | _ => .bad
def eSM0 (f : Str → Option Od) (mo : SemE) : SemE := fun e => (mo e).bind fun ro e0 => match ro with
  | .r (.str a) => (match f a with
    | some w => .ok w e0
    | none => .bad)
  | _ => .bad
section
variable {X : Cx} {W : WX} {B : Bd} {a b c : Expr} {ma mb mc : SemE} {pos : Pos}
end
/-! ### int(text) -/
/-! ### one sign in a text -/
/-! ### a part of a text -/
def eSlS (m : SemE) (lo hi : SemP) : SemE := fun e => (m e).bind fun r e1 => match r with
  | .r (.str z) => (lo e1).bind fun l e2 => (hi e2).bind fun h e3 => if z.length ≤ sizeLine then .ok (.r (.str (cutS z l h))) e3 else .bad
  | _ => .bad
section
variable {X : Cx} {W : WX} {B : Bd} {a b c : Expr} {ma mb mc : SemE} {pos : Pos}
/-! ### a number that the module holds -/
end
/-! ### xs.extend(a tuple) -/
section
variable {X : Cx} {W : WX} {a b c : Expr} {ma mb mc : SemE} {pos : Pos}
end
end Ev

set_option Elab.async false
set_option linter.all false
set_option maxRecDepth 100000
set_option maxHeartbeats 2000000
namespace Ev
open PySem PySem.Spec PyProof.Rows L2
/-! ### a tuple unpacked while an exception is handled -/
section
variable {prog : Program} {w : World} {A : Around} {E : Value → Shared → Prop} {s : Shared}
end
end Ev

set_option Elab.async false
set_option linter.all false
set_option maxRecDepth 100000
set_option maxHeartbeats 2000000
namespace Ev
open PySem PySem.Spec PyProof.Rows L2
/-! ### several except clauses, with a name or without -/
abbrev HTs := Addr → Value → Option Addr → TS
/-- a suite's reading -/
abbrev SuOk (X : Cx) (suite : List Stmt) (ts : HTs) : Prop := ∀ (a : Addr) (oe : Obj) (cls : Value) (d : Option Addr) (pn : List (Addr × Obj)), L2N.Zn cls d oe → (∃ vs, oe.data = .fields vs) → PSs (X.suite a ((a, oe) :: pn)) suite (ts a cls d)
inductive HxOk (X : Cx) : List ExceptHandler → List (Value × Option Nat × HTs) → Prop
  | nil : HxOk X [] []
  | plain {x : Str} {c : Value} {ts : HTs} {b₀ : Stmt} {suite : List Stmt} {np pos' : Pos} {hds : List ExceptHandler} {l : List (Value × Option Nat × HTs)} (hc : Names X x c) (hsu : SuOk X (b₀ :: suite) ts) (r : HxOk X hds l) :
      HxOk X (.ExceptHandler (some (.Name x np)) none (b₀ :: suite) pos' :: hds) ((c, none, ts) :: l)
  | named {x n : Str} {c : Value} {i : Nat} {ts : HTs} {b₀ : Stmt} {suite : List Stmt} {np pos' : Pos} {hds : List ExceptHandler} {l : List (Value × Option Nat × HTs)} (hc : Names X x c) (hi : X.N[i]? = some n) (hln : X.env.kindOf n = some .local)
      (hsu : SuOk X (b₀ :: suite) ts) (r : HxOk X hds l) : HxOk X (.ExceptHandler (some (.Name x np)) (some n) (b₀ :: suite) pos' :: hds) ((c, some i, ts) :: l)
section
variable {X : Cx} {body : List Stmt} {h₀ : ExceptHandler} {hds : List ExceptHandler} {l : List (Value × Option Nat × HTs)} {pos : Pos} {tb : WX → TS} {Wout : WX}
/-- the ends of a body whose exceptions are looked for are those of the statement -/
theorem sp_back {pins : List (Addr × Obj)} {xe : Value → Shared → Prop} {D : Ends} {f : Flow} {s1 : Shared} (ok : X.Ok) (h : SP (X.tr (X.pn ++ pins) xe) [] D f s1) : SP X pins D f s1 := by
  cases f with
  | next => obtain ⟨σ', H', J, q⟩ := h; exact ⟨σ', H', J.ofTry ok, q⟩
  | brk => obtain ⟨σ', H', J, q⟩ := h; exact ⟨σ', H', J.ofTry ok, q⟩
  | cont => obtain ⟨σ', H', J, q⟩ := h; exact ⟨σ', H', J.ofTry ok, q⟩
  | ret u => obtain ⟨v, σ', H', J, r, q⟩ := h; exact ⟨v, σ', H', J.ofTry ok, r, q⟩
end
end Ev

set_option Elab.async false
set_option linter.all false
set_option maxRecDepth 100000
set_option maxHeartbeats 2000000
namespace Ev
open PySem PySem.Spec PyProof.Rows L2
/-! ### the classes of exceptions -/
structure ExcOk (K : PySem.W.Frag) (mg : Str → Option Value) (cs : List Str) : Prop where
  oex : ∀ c ∈ cs, OexC K (He.ga K c)
  xf : ∀ c ∈ cs, XfC K (He.ga K c)
  nov : ∀ c ∈ cs, PySem.W.findIn K (.ref (He.ga K c)) "value" = some none
  ini : ∀ c ∈ cs, PySem.W.findIn K (.ref (He.ga K c)) "__init__" = some (some (.ref (He.fAd K iniP)))
  ity : PySem.W.typeIn K (.ref (He.fAd K iniP)) = some (.type "function")
  glo : ∀ c ∈ cs, mg c = some (.ref (He.ga K c))
  exk : ∀ c ∈ cs, ExK K (He.ga K c)
  kve : ∀ c ∈ cs, PySem.W.kitOne K (.ref (He.ga K c)) (.type "ValueError") = some true
  kit : ∀ c ∈ cs, ∀ h ∈ cs, PySem.W.kitOne K (.ref (He.ga K c)) (.ref (He.ga K h)) = some (subE c h)
  exm : ∀ c ∈ cs, ∀ h ∈ cs, PySem.W.exmOne K (.ref (He.ga K c)) (.ref (He.ga K h)) = some (subE c h)
theorem oexB_ok {K : PySem.W.Frag} {C : Addr} (h : oexB K C = true) : ∃ nm q N bs bm sn sub ab col dd k0 k1 k2 k3 k5, K.lookup C = some (excClassObj nm q C N bs bm true sn sub ab col dd k0 k1 k2 k3 k5 "ValueError.__new__") ∧ PySem.HandSPX.refsVE bm = true := by
  unfold oexB at h
  split at h
  · rename_i t dd cd sl ho
    split at h
    · rename_i C' bm k0 k1 k2 k3 n k5 hm hs
      simp only [Bool.and_eq_true, decide_eq_true_eq, Bool.not_eq_true'] at h
      obtain ⟨rfl, rfl, rfl, hdel, hdict, hr⟩ := h
      obtain ⟨nm, bs, mro, ns, qn, hd, sn, sub, ab, col, del⟩ := cd
      dsimp only at hm hdel hdict
      subst hm hdel hdict
      obtain ⟨l⟩ := sl
      simp only at hs
      subst hs
      exact ⟨nm, qn, ns, bs, bm, sn, sub, ab, col, dd, k0, k1, k2, k3, k5, ho, hr⟩
    · cases h
  · cases h
theorem exB_ok {K : PySem.W.Frag} {h : Heap} {mg : Str → Option Value} {cs : List Str} (X : K.In h) (G : h.Ns mainGlobals mg) (q : exB cs K = true) : ExcOk K mg cs := by
  obtain ⟨q0, q⟩ := He.ba q
  have q1 := fun c (hc : c ∈ cs) => (He.ba (List.all_eq_true.mp q c hc)).1
  have q2 := fun c (hc : c ∈ cs) => (He.ba (List.all_eq_true.mp q c hc)).2
  have q3 := fun c (hc : c ∈ cs) => (He.ba (q2 c hc)).2
  have q2 := fun c (hc : c ∈ cs) => (He.ba (q2 c hc)).1
  unfold exB1 at q1
  have z := fun c hc => by
    obtain ⟨a1, w⟩ := He.ba (q1 c hc)
    obtain ⟨a2, w⟩ := He.ba w
    obtain ⟨a3, w⟩ := He.ba w
    obtain ⟨a4, w⟩ := He.ba w
    obtain ⟨a5, w⟩ := He.ba w
    obtain ⟨a6, w⟩ := He.ba w
    obtain ⟨a7, w⟩ := He.ba w
    obtain ⟨a8, w⟩ := He.ba w
    obtain ⟨a9, a10⟩ := He.ba w
    exact And.intro (OexC.mk (oexB_ok a1) (He.eqO_ok a2) (of_decide_eq_true a3) (of_decide_eq_true a4) a5) (And.intro (xfB_ok a6) (And.intro (He.eqO_ok a7) (And.intro (He.eqO_ok a8) (And.intro (He.glo_ok X G a9) fun h (hh : h ∈ cs) => of_decide_eq_true (List.all_eq_true.mp a10 h hh)))))
  refine ⟨fun c hc => (z c hc).1, fun c hc => (z c hc).2.1, fun c hc => (z c hc).2.2.1, fun c hc => (z c hc).2.2.2.1, of_decide_eq_true q0, fun c hc => (z c hc).2.2.2.2.1, fun c hc => ?_, fun c hc => ?_, fun c hc h hh => of_decide_eq_true (List.all_eq_true.mp (q3 c hc) h hh), fun c hc => (z c hc).2.2.2.2.2⟩
  rotate_left
  · have y := q2 c hc
    unfold exkB at y
    obtain ⟨a1, y⟩ := He.ba y
    obtain ⟨a2, y⟩ := He.ba y
    obtain ⟨a3, y⟩ := He.ba y
    obtain ⟨a4, y⟩ := He.ba y
    exact of_decide_eq_true (He.ba y).1
  have xf := (z c hc).2.1
  have v := (z c hc).2.2.1
  have y := q2 c hc
  unfold exkB at y
  obtain ⟨a1, y⟩ := He.ba y
  obtain ⟨a2, y⟩ := He.ba y
  obtain ⟨a3, y⟩ := He.ba y
  obtain ⟨a4, y⟩ := He.ba y
  obtain ⟨_, a5⟩ := He.ba y
  exact ⟨⟨xf.ga, xf.gg, xf.exC, xf.hdC, He.eqO_ok a1, He.eqO_ok a2, of_decide_eq_true a3, of_decide_eq_true a4⟩, xf, v, fun n hn => of_decide_eq_true (List.all_eq_true.mp a5 n hn)⟩
/-! ### __init__ -/
def spI (K : PySem.W.Frag) : Sp := fun vs H Q _ => ∃ (a C : Addr) (y : V), vs = [.ref a, y] ∧ OexC K C ∧ PySem.W.findIn K (.ref C) "value" = some none ∧ H a = some (exo a C none) ∧
  ∀ dx, H dx = none → dx ≠ a → Q .non (upd (upd H dx (exd dx [("value", y)])) a (exo a C (some dx)))
theorem ini_ok {P : Program} {w : World} {K : PySem.W.Frag} {mg : Str → Option Value} {base : Heap} {params : Arguments} {body : List Stmt} {scope : Scope} {f : Addr} {fd : FuncData} {p1 p2 p3 p4 : Pos}
    (Fn : FunD K "__init__" "ThreadError.__init__" params body scope [] [] f fd) (S : FnScope ["self", "value"] ["self", "value"] scope) (eb : body = [.Assign [.Attribute (.Name "self" p1) "value" p2] (.Name "value" p3) p4])
    (h0 : scope.names.lookup ("self" : Str) = some .local) (h1 : scope.names.lookup ("value" : Str) = some .local) :
    FnOk P w K mg base (L2N.CX P w) 1 f fd ["self", "value"] (spI K) := by
  subst eb
  refine Fn.ok S (fun vs H Q E ⟨a, C, y, e, _⟩ => by rw [e]; rfl) fun cdv A outer s H vs Q E hr ⟨a, C, y, ev, T, no, ea, q⟩ => ?_
  subst ev
  refine ⟨_, pss_cons (ps_ost (pe_var (i := 0) rfl (.inl h0)) (pe_var (i := 1) rfl (.inl h1))) pss_nil, ?_⟩
  exact ⟨y, rfl, .ref a, rfl, a, C, rfl, T, no, .inl ⟨ea, fun dx n ne => q dx n ne⟩⟩
/-! ### C(e) -/
section
variable {X : Cx} {W : WX} {B : Bd} {pos : Pos}
theorem pmk_exN {CX : CXT} {x : Str} {e : Expr} {es : List Expr} {ta : TA} {p : Pos} {C fI : Addr} {k : Nat} {fd : FuncData} {ps : List Str} {sp : Sp} (T : OexC X.K C) (iC : PySem.W.findIn X.K (.ref C) "__init__" = some (some (.ref fI))) (tI : PySem.W.typeIn X.K (.ref fI) = some (.type "function"))
    (F1 : FnOk X.prog X.w X.K X.mg X.base CX k fI fd ps sp) (hr : Room (k + 1) X.A) (hb : Binds X.K fd ps []) (hx : Passes CX X (fun _ _ _ => False)) (hg : Gl X x) (hm : X.mg x = some (.ref C)) (ha : PA X (e :: es) ta)
    (hdb : (x == ("__debug__" : Str)) = false := by decide) (he : starEach (e :: es) X.env = (false, eval e X.env) :: starEach es X.env := by rfl) (hpl : (backTo pos (starEach es X.env)).any (·.1) = false := by rfl) :
    L2N.PMk X (.Call (.Name x p) (e :: es) [] pos) (tMkO C sp [] ta) := by
  intro pins s σ H Q I h
  obtain ⟨nm, q, N, bs, bm, sn, sub, ab, col, dd, k0, k1, k2, k3, k5, hC, hbm⟩ := T.cls
  refine wpAny_Call_Name_kw (ld_glob I hg hm ?_ hdb)
  refine PySem.W.callWith_K (h₀ := X.base) I.ok.mod.kin T.kC (thn (ha.run pos pins s σ H _ I h) fun us s1 ⟨vs, H1, I1, r1, hz, q1⟩ => ⟨I1.kIn, ?_⟩) he hpl
  show wpAny _ _ (call (.ref C) us) _ _ _
  obtain ⟨hp, g, dr, tk, os⟩ := s1
  have hsz : hp.objs.size ≤ hp.objs.size + 1 := Nat.le_succ _
  have hq := q1 (hp.objs.size + 1) (I1.hok.fresh hsz)
  rw [List.append_nil] at hq
  have kk : ∀ b o, hp.get? b = some o → ((hp.push (PySem.W.kdv_tup us)).push (PySem.HandSPX.excO C hp.objs.size)).get? b = some o := fun b o e => Heap.get?_push_of_some _ (Heap.get?_push_of_some _ e)
  have hget : ((hp.push (PySem.W.kdv_tup us)).push (PySem.HandSPX.excO C hp.objs.size)).get? (hp.objs.size + 1) = some (PySem.HandSPX.excO C hp.objs.size) := by heap_get
  have I2 : Inv X pins σ (upd H1 (hp.objs.size + 1) (exo (hp.objs.size + 1) C none)) ⟨(hp.push (PySem.W.kdv_tup us)).push (PySem.HandSPX.excO C hp.objs.size), g, dr, tk, os⟩ :=
    I1.laid (t' := tk) (a := hp.objs.size + 1) (o := exo (hp.objs.size + 1) C none) (h' := (hp.push (PySem.W.kdv_tup us)).push (PySem.HandSPX.excO C hp.objs.size)) kk hsz (exo_ok hget)
  have r2 : Vals (V.ref (hp.objs.size + 1) :: vs) (Value.ref (hp.objs.size + 1) :: us) := .cons rfl r1
  have hl : (Value.ref (hp.objs.size + 1) :: us).length = ps.length := (F1.len _ _ _ _ hq).symm ▸ r2.length.symm
  have hus : us.length ≤ sizeLine := by
    rw [← Paired.length r1, sizeLine_eq]
    omega
  have b2 := hb _ (Value.ref (hp.objs.size + 1) :: us) I2.kIn (by rw [List.append_nil]; exact hl)
  rw [List.append_nil] at b2
  refine wpAny_call (PySem.HandSPX.call_own F.excBase_ValueError (fun Y => PySem.HandSPX.refsVE_contains Y bm hbm) (I1.kIn _ _ hC) (PySem.W.looks_findIn I1.kIn iC) (fun self => PySem.W.bind_fn I1.kIn self tI) hus
    (codeAny_mono (F1.run _ X.stack _ _ ⟨Value.ref (hp.objs.size + 1) :: us, []⟩ (Value.ref (hp.objs.size + 1) :: us) _ _ (fun _ _ _ => False) (hr.make C us []) (I2.env0.make C us []) b2 r2 hq) fun r s' hq' => ?_))
  cases r with
  | error er => exact hx pins σ _ _ er s' I2 hq'
  | ok fl =>
    cases fl with
    | ret u =>
      obtain ⟨v, H2, os2, bare2, un2, hok2, rv, ev, d, fs, ea, ed, hd1, q2⟩ := hq'
      subst ev
      obtain ⟨h2, g2, d2, t2, os'⟩ := s'
      obtain ⟨t0, G, J, kG, ge, hoe, na⟩ := mk_end0 (d2 := d2) (t2 := t2) I1 hsz kk un2 hok2 os2 bare2 ea ed hd1
      exact ⟨rv, hp.objs.size + 1, _, _, ⟨G, g2, d2, t2, os'⟩, _, .ref C, some d, rfl, J, kG, ge, hoe, ⟨rfl, rfl, fun vs hv => by cases hv; rfl⟩, rfl, rfl, na, rfl, bare2, raises_own T.exC T.tyC, q2⟩
    | next => exact False.elim hq'
    | brk => exact False.elim hq'
    | cont => exact False.elim hq'
/-! ### raise -/
def sRaise (c : Str) (me : SemE) : SemS := fun e => (me e).bind fun r e1 => match r with
  | .r t => .exc c t e1
  | _ => .bad
theorem qraise {x : Str} {a : Expr} {ma : SemE} {p pos2 : Pos} {k : Nat} {fd : FuncData} {cs : List Str} (hc : X.calm = true) (tk : L2N.Takes X W) (Ex : ExcOk X.K X.mg cs) (hin : x ∈ cs)
    (F1 : FnOk X.prog X.w X.K X.mg X.base (L2N.CX X.prog X.w) k (He.fAd X.K iniP) fd ["self", "value"] (spI X.K)) (hr : Room (k + 1) X.A) (hb : Binds X.K fd ["self", "value"] []) (hg : Gl X x) (ha : QE X W a ma)
    (hdb : (x == ("__debug__" : Str)) = false := by decide) (he : starEach [a] X.env = (false, eval a X.env) :: starEach [] X.env := by rfl) (hpl : (backTo pos (starEach [] X.env)).any (·.1) = false := by rfl) :
    QS X W B (.Raise (some (.Call (.Name x p) [a] [] pos)) none pos2) (sRaise x ma) := by
  refine ps_mono (L2N.ps_raise hc tk (pmk_exN (Ex.oex x hin) (Ex.ini x hin) Ex.ity F1 hr hb (fun _ _ _ _ _ _ _ ⟨_, _, _, _, _, _, _, _, _, _, _, _, w⟩ => w.elim) hg (Ex.glo x hin) (pa_cons ha pa_nil he) hdb he hpl)) fun D σ H h => ?_
  obtain ⟨e, F, R, k, h⟩ := h
  refine tX_imp (tS_bind (rel := fun σ => OdR X.K σ) R k h) fun y H1 ⟨r, e1, F1, R1, S1, k1, O, h1⟩ => ?_
  cases r with
  | s i => exact h1.elim
  | b b => exact h1.elim
  | r t =>
    refine ⟨by simp, fun a ha => ⟨a, He.ga X.K x, y, rfl, Ex.oex x hin, Ex.nov x hin, upd_same, fun dx hdx ne => ⟨rfl, dx, [("value", y)], upd_same, ?_, ?_, ?_⟩⟩⟩
    · rw [upd_ne ne, upd_same]
    · rw [upd_ne ne] at hdx; exact hdx
    · have hd : H1 dx = none := by rw [upd_ne ne] at hdx; exact hdx
      have eq : upd (del (upd (upd (upd H1 a (exo a (He.ga X.K x) none)) dx (exd dx [("value", y)])) a (exo a (He.ga X.K x) (some dx))) a) dx (.xd [("value", y)]) = upd H1 dx (.xd [("value", y)]) := by
        funext b
        by_cases hb : b = dx
        · subst hb; rw [upd_same, upd_same]
        · rw [upd_ne hb, upd_ne hb]
          by_cases hba : b = a
          · subst hba; rw [del_same, ha]
          · rw [del_ne hba, upd_ne hba, upd_ne hb, upd_ne hba]
      rw [eq]
      exact h1 σ (upd F1 dx (.xd [("value", y)])) _ _ _ (laid_frz R1 hd) (k1.step (laid_frz_step R1 .refl hd)) ⟨rfl, dx, y, rfl, upd_same, dp_mono (fun a o h => by rw [upd_ne (ne_of_none h (sub_none R1 hd))]; exact h) _ _ O⟩
end
end Ev

set_option Elab.async false
set_option linter.all false
set_option maxRecDepth 100000
set_option maxHeartbeats 2000000
namespace Ev
open PySem PySem.Spec PyProof.Rows L2
/-! ### try: the meaning -/
abbrev Hds := List (Str × Option Nat × (T → SemS))
section
variable {K : PySem.W.Frag} {W : WX} {B : Bd} {e : En} {σ : Sg} {F H : Hp}
theorem any_un {i : Nat} {o : Option V} (R : Rel K e σ F H) (k : BOk B e σ F H) (h : e[i]? = some .un ∨ e.length ≤ i) : Rel K e (σ.set i o) F H ∧ BOk B e (σ.set i o) F H := by
  rcases h with h | h
  · have at2 : ∀ (j : Nat) (s : Sl), e[j]? = some s → s ≠ .un → (σ.set i o)[j]? = σ[j]? := fun j s hj ne => by
      have : i ≠ j := fun z => ne (by rw [← z, h] at hj; exact (Option.some.inj hj).symm)
      exact List.getElem?_set_ne this
    refine ⟨⟨R.sub, by simp [R.len], fun j s u h1 h2 => ?_, fun j j' l b l' b' p h1 h2 h3 h4 => ?_⟩, ⟨k.ff, k.keep, k.dom, fun j b p h1 h2 => ?_, fun j b h1 => ?_, fun j b h1 => ?_⟩⟩
    · cases s with
      | un => trivial
      | v t => rw [at2 j _ h1 (by simp)] at h2; exact R.at_ j _ u h1 h2
      | ow l b => rw [at2 j _ h1 (by simp)] at h2; exact R.at_ j _ u h1 h2
      | fz b => rw [at2 j _ h1 (by simp)] at h2; exact R.at_ j _ u h1 h2
    · rw [at2 j _ h1 (by simp)] at h3; rw [at2 j' _ h2 (by simp)] at h4; exact R.ne j j' l b l' b' p h1 h2 h3 h4
    · rw [at2 j _ h1 (by simp)] at h2; exact k.fresh j b p h1 h2
    · rw [at2 j _ h1 (by simp)]; exact k.own j b h1
    · obtain ⟨⟨b', l⟩, q⟩ := k.lent j b h1
      refine ⟨⟨b', l⟩, ?_⟩
      rcases l with l | l
      · rw [at2 j _ l (by simp)]; exact q
      · rw [at2 j _ l (by simp)]; exact q
  · have : σ.set i o = σ := List.set_eq_of_length_le (by rw [← R.len]; exact h)
    rw [this]; exact ⟨R, k⟩
/-- the reading of a suite: i is the name that holds the exception -/
def tXs (K : PySem.W.Frag) (B : Bd) (oi : Option Nat) (cs : List Str) (m : T → SemS) : HTs := fun a cls d D σ H => ∃ (e : En) (F : Hp) (c : Str) (t : T), c ∈ cs ∧ Rel K e σ F H ∧ BOk B e σ F H ∧ ExR K F H c t cls d ∧
  (∀ i, oi = some i → e[i]? = some .un ∧ σ[i]? = some (some (.ref a))) ∧ OutS K W0 B (m t e) D
def hdR (K : PySem.W.Frag) (B : Bd) (cs : List Str) (p : Str × Option Nat × (T → SemS)) : Value × Option Nat × HTs := (.ref (He.ga K p.1), p.2.1, tXs K B p.2.1 cs p.2.2)
end
section
variable {X : Cx} {W : WX} {B : Bd} {pos : Pos}
/-- the clauses and their meanings -/
inductive HqOk (X : Cx) (B : Bd) (cs : List Str) : List ExceptHandler → Hds → Prop
  | nil : HqOk X B cs [] []
  | plain {x : Str} {m : T → SemS} {b₀ : Stmt} {suite : List Stmt} {np pos' : Pos} {hds : List ExceptHandler} {l : Hds} (hx : x ∈ cs) (hg : Gl X x) (hsu : SuOk X (b₀ :: suite) (tXs X.K B none cs m)) (r : HqOk X B cs hds l)
      (hdb : (x == ("__debug__" : Str)) = false := by decide) : HqOk X B cs (.ExceptHandler (some (.Name x np)) none (b₀ :: suite) pos' :: hds) ((x, none, m) :: l)
  | named {x n : Str} {i : Nat} {m : T → SemS} {b₀ : Stmt} {suite : List Stmt} {np pos' : Pos} {hds : List ExceptHandler} {l : Hds} (hx : x ∈ cs) (hg : Gl X x) (hi : X.N[i]? = some n) (hln : X.env.kindOf n = some .local)
      (hsu : SuOk X (b₀ :: suite) (tXs X.K B (some i) cs m)) (r : HqOk X B cs hds l) (hdb : (x == ("__debug__" : Str)) = false := by decide) :
      HqOk X B cs (.ExceptHandler (some (.Name x np)) (some n) (b₀ :: suite) pos' :: hds) ((x, some i, m) :: l)
theorem HqOk.hx {cs : List Str} (Ex : ExcOk X.K X.mg cs) {hds : List ExceptHandler} {l : Hds} (h : HqOk X B cs hds l) : HxOk X hds (l.map (hdR X.K B cs)) ∧ ∀ p ∈ l, p.1 ∈ cs := by
  induction h with
  | nil => exact ⟨.nil, fun p hp => by cases hp⟩
  | plain hx hg hsu r hdb ih => exact ⟨.plain ⟨hg, hdb, .inl (Ex.glo _ hx)⟩ hsu ih.1, fun p hp => by
      rcases List.mem_cons.mp hp with rfl | hp
      · exact hx
      · exact ih.2 p hp⟩
  | named hx hg hi hln hsu r hdb ih => exact ⟨.named ⟨hg, hdb, .inl (Ex.glo _ hx)⟩ hi hln hsu ih.1, fun p hp => by
      rcases List.mem_cons.mp hp with rfl | hp
      · exact hx
      · exact ih.2 p hp⟩
/-! ### suites -/
end
end Ev

set_option Elab.async false
set_option linter.all false
set_option maxRecDepth 100000
namespace Ev
open PySem PySem.Spec PyProof.Rows L2
/-! ### a sign of a text by its place -/
/-! ### one sign that is not in a text -/
/-! ### the signs of a text, one by one -/
def signsT (z : Str) : List T := z.cps.toList.map fun c => .str ⟨#[c]⟩
def iTx (m : SemE) : SemI := fun e => (m e).bind fun r e1 => match r with
  | .r (.str z) => .ok (signsT z) e1
  | _ => .bad
section
variable {X : Cx} {W : WX} {B : Bd} {a b c : Expr} {ma mb mc : SemE} {pos : Pos}
end
/-! ### a text some times -/
end Ev

set_option Elab.async false
set_option linter.all false
set_option maxRecDepth 100000
set_option maxHeartbeats 2000000
namespace Ev
open PySem PySem.Spec PyProof.Rows L2
/-! ### a test behind which a token is out -/
section
variable {X : Cx} {W : WX} {B : Bd} {a b c o : Expr} {ma mb mc mo mi : SemE} {pos : Pos} {t1 t2 : SemT}
/-! ### text.replace(y, [z1, z2, z3][i]) -/
def eRepl (mo : SemE) (y : Str) (zs : List Str) (mi : SemE) : SemE := fun e => (mo e).bind fun r e1 => match r with
  | .r (.str x) => (mi e1).bind fun ri e2 => (match ri with
    | .r (.int i) => if 0 ≤ i ∧ x.length ≤ 1000000 then (match zs[i.toNat]? with
      | some z => if (y == z) = false ∧ z.length ≤ 10 then .ok (.r (.str (Txt.replace x y z))) e2 else .bad
      | none => .bad) else .bad
    | _ => .bad)
  | _ => .bad
end
end Ev

set_option Elab.async false
set_option linter.all false
set_option maxRecDepth 100000
namespace Ev
open PySem PySem.Spec PyProof.Rows L2
/-! ### text.partition(text) -/
end Ev

set_option Elab.async false
set_option linter.all false
set_option maxRecDepth 100000
namespace Ev
open PySem PySem.Spec PyProof.Rows L2
/-! ### a < b < c -/
section
variable {X : Cx} {W : WX} {a b c : Expr} {ma mb mc : SemE} {pos : Pos}
end
/-! ### min, max of a tuple -/
/-! ### repr of a tree, where no repr is under way -/
end Ev

set_option Elab.async false
set_option linter.all false
set_option maxRecDepth 100000
namespace Ev
open PySem PySem.Spec PyProof.Rows L2
/-! ### repr in QE -/
/-! ### a def that is called where no repr is under way -/
/-! ### the law is called where no repr is under way -/
section
variable {P : Program} {w : World} {K : PySem.W.Frag} {mg mb : Str → Option Value} {CX : CXT} {k : Nat} {fa a : Addr} {fd : FuncData} {x : Str} {sp : Sp} {z : Shared} {vs : List Value} {ns : List Int}
end
end Ev

set_option Elab.async false
set_option linter.all false
set_option maxRecDepth 100000
namespace Ev
open PySem PySem.Spec PyProof.Rows L2
/-! ### divmod by large numbers -/
/-! ### is True, is False -/
end Ev

set_option Elab.async false
set_option linter.all false
set_option maxRecDepth 100000
namespace Ev
open PySem PySem.Spec PyProof.Rows L2
/-! ### a list of lists of which single places are put otherwise -/
abbrev Gr := List (List T)
def Gr.t (g : Gr) : T := .list (g.map PyData.list)
structure Gw (K : PySem.W.Frag) (H0 F H : Hp) (D : Addr) (gs : Gr) (qs : List Addr) : Prop where
  len : qs.length = gs.length
  d0 : H0 D = none
  q0 : ∀ q ∈ qs, H0 q = none
  nd : qs.Nodup
  dq : D ∉ qs
  fd : F D = none
  fq : ∀ q ∈ qs, F q = none
  hd : H D = some (.lst (qs.map .ref))
  hq : ∀ (j : Nat) (q : Addr) (ts : List T), qs[j]? = some q → gs[j]? = some ts → ∃ vs, H q = some (.lst vs) ∧ DpAll K F vs ts
  up : ∀ a o, H0 a = some o → H a = some o
section
variable {K : PySem.W.Frag} {H0 F H F' H' : Hp} {D p q : Addr} {gs : Gr} {qs : List Addr}
theorem Gw.sm (g : Gw K H0 F H D gs qs) (h : q ∈ qs) : ∃ o, H q = some o := by
  obtain ⟨j, hj⟩ := List.getElem?_of_mem h
  have hl : j < gs.length := by rw [← g.len]; exact (List.getElem?_eq_some_iff.mp hj).1
  obtain ⟨vs, h1, _⟩ := g.hq j q _ hj (List.getElem?_eq_getElem hl)
  exact ⟨_, h1⟩
theorem Gw.on (g : Gw K H0 F H D gs qs) (ff : ∀ a o, F a = some o → F' a = some o) (k : ∀ a o, H a = some o → H' a = some o ∧ (F a = none → F' a = none)) : Gw K H0 F' H' D gs qs where
  len := g.len
  d0 := g.d0
  q0 := g.q0
  nd := g.nd
  dq := g.dq
  fd := (k _ _ g.hd).2 g.fd
  fq := fun q hq => by obtain ⟨o, ho⟩ := g.sm hq; exact (k _ _ ho).2 (g.fq q hq)
  hd := (k _ _ g.hd).1
  hq := fun j q ts h1 h2 => by
    obtain ⟨vs, h3, h4⟩ := g.hq j q ts h1 h2
    exact ⟨vs, (k _ _ h3).1, dpAll_mono ff h4⟩
  up := fun a o h => (k _ _ (g.up a o h)).1
/-- one more -/
theorem Gw.more {vs : List V} {row : List T} (g : Gw K H0 F H D gs qs) (p0 : H0 p = none) (pD : p ≠ D) (pq : ∀ q ∈ qs, q ≠ p) (hp : H p = some (.lst vs)) (fp : F p = none) (d : DpAll K F vs row) : Gw K H0 F (upd H D (.lst (qs.map .ref ++ [.ref p]))) D (gs ++ [row]) (qs ++ [p]) := by
  have Dq : ∀ q ∈ qs, q ≠ D := fun q hq e => g.dq (e ▸ hq)
  refine ⟨by simp [g.len], g.d0, fun q hq => ?_, ?_, fun h => ?_, g.fd, fun q hq => ?_, ?_, fun j q ts h1 h2 => ?_, fun a o h => ?_⟩
  · rcases List.mem_append.mp hq with h | h
    · exact g.q0 q h
    · rw [List.mem_singleton.mp h]; exact p0
  · exact List.nodup_append.mpr ⟨g.nd, by simp, fun a ha b hb => by rw [List.mem_singleton.mp hb]; exact pq a ha⟩
  · rcases List.mem_append.mp h with h | h
    · exact g.dq h
    · exact pD (List.mem_singleton.mp h).symm
  · rcases List.mem_append.mp hq with h | h
    · exact g.fq q h
    · rw [List.mem_singleton.mp h]; exact fp
  · rw [upd_same, List.map_append]; rfl
  · by_cases hj : j < qs.length
    · rw [List.getElem?_append_left hj] at h1
      rw [List.getElem?_append_left (by rw [← g.len]; exact hj)] at h2
      have m := List.mem_of_getElem? h1
      rw [upd_ne (Dq q m)]
      exact g.hq j q ts h1 h2
    · have hl : j < (qs ++ [p]).length := (List.getElem?_eq_some_iff.mp h1).1
      have ej : j = qs.length := by simp at hl; omega
      subst ej
      simp at h1
      rw [g.len] at h2
      simp at h2
      subst h1 h2
      exact ⟨vs, by rw [upd_ne pD]; exact hp, d⟩
  · have h' := g.up a o h
    have aD : a ≠ D := fun q => by subst q; rw [g.d0] at h; cases h
    rw [upd_ne aD]; exact h'
/-- one place of a row put otherwise -/
theorem Gw.put {m n : Nat} {row : List T} {vs : List V} {x : V} {t : T} (g : Gw K H0 F H D gs qs) (h1 : qs[m]? = some q) (h2 : gs[m]? = some row) (h3 : H q = some (.lst vs)) (d : Dp K F x t) : Gw K H0 F (upd H q (.lst (vs.set n x))) D (gs.set m (row.set n t)) qs := by
  have mq := List.mem_of_getElem? h1
  have hm : m < gs.length := (List.getElem?_eq_some_iff.mp h2).1
  refine ⟨by simp [g.len], g.d0, g.q0, g.nd, g.dq, g.fd, g.fq, ?_, fun j' q' ts' h4 h5 => ?_, fun a o h => ?_⟩
  · rw [upd_ne (fun e : D = q => g.dq (e ▸ mq))]; exact g.hd
  · by_cases e : j' = m
    · subst e
      rw [h1] at h4; cases h4
      rw [List.getElem?_set_self hm] at h5; cases h5
      obtain ⟨vs', h6, h7⟩ := g.hq _ q row h1 h2
      rw [h3] at h6; cases h6
      exact ⟨_, upd_same, dpAll_set d n h7⟩
    · rw [List.getElem?_set_ne (fun z => e z.symm)] at h5
      have ne : q' ≠ q := fun z => by
        subst z
        exact e ((List.getElem?_inj (List.getElem?_eq_some_iff.mp h4).1 g.nd).mp (h4.trans h1.symm))
      obtain ⟨vs', h6, h7⟩ := g.hq j' q' ts' h4 h5
      exact ⟨vs', by rw [upd_ne ne]; exact h6, h7⟩
  · have ne : a ≠ q := fun z => by subst z; rw [g.q0 _ mq] at h; cases h
    rw [upd_ne ne]; exact g.up a o h
end
/-- the state while the grid stands -/
structure GI (K : PySem.W.Frag) (B : Bd) (H0 F0 : Hp) (D : Addr) (i : Nat) (g : Gr) (qs : List Addr) (e : En) (σ : Sg) (F H : Hp) : Prop where
  hB : ∀ a, H0 a = none → B.H a = none
  p : plainE e = true
  R : Rel K e σ F H
  k : BOk B e σ F H
  f0 : ∀ a o, F0 a = some o → F a = some o
  s : σ[i]? = some (some (.ref D))
  w : Gw K H0 F H D g qs
section
variable {K : PySem.W.Frag} {W : WX} {B : Bd} {H0 F0 F H F1 H1 : Hp} {A : Addr} {i : Nat} {g : Gr} {qs : List Addr} {e e1 : En} {σ σ1 : Sg}
theorem GI.step (I : GI K B H0 F0 A i g qs e σ F H) (S : Step e e1 σ F H F1 H1) (R1 : Rel K e1 σ F1 H1) (p1 : plainE e1 = true) : GI K B H0 F0 A i g qs e1 σ F1 H1 :=
  ⟨I.hB, p1, R1, I.k.step S, fun a o h => S.ff _ _ (I.f0 _ _ h), I.s, I.w.on S.ff fun a o h => plain_step I.p S h⟩
theorem GI.base {F0' : Hp} (I : GI K B H0 F0 A i g qs e σ F H) (f : ∀ a o, F0' a = some o → F0 a = some o) : GI K B H0 F0' A i g qs e σ F H :=
  ⟨I.hB, I.p, I.R, I.k, fun a o h => I.f0 _ _ (f _ _ h), I.s, I.w⟩
end
abbrev SemGS := Gr → En → Option (Gr × En)
section
variable {X : Cx} {W : WX} {i : Nat} {st : Stmt} {sts : List Stmt} {m1 m2 : SemGS} {pos : Pos}
def gNil : SemGS := fun g e => some (g, e)
end
/-! ### to the end: the grid told as a tree -/
abbrev SemG2 := Gr → En → Out Fl
section
variable {X : Cx} {W : WX} {B : Bd} {i : Nat} {st : Stmt} {sts rest : List Stmt} {m1 : SemGS} {m2 : SemG2} {mr : SemS}
end
/-! ### the making -/
end Ev

set_option Elab.async false
set_option linter.all false
set_option maxRecDepth 100000
namespace Ev
open PySem PySem.Spec PyProof.Rows L2
/-! ### {k: v, ..} as a tree -/
/-! ### repr of trees with dicts -/
section
variable {X : Cx} {pins : List (Addr × Obj)} {σ : Sg} {H : Hp} {s : Shared}
end
/-! ### extend by a list -/
/-! ### t == () -/
end Ev

set_option Elab.async false
set_option linter.all false
set_option maxRecDepth 100000
set_option maxHeartbeats 2000000
namespace Ev
open PySem PySem.Spec PyProof.Rows L2
/-! ### an exception is kept behind its suite -/
section
variable {X : Cx} {pins : List (Addr × Obj)} {σ : L2.St} {H : Hp} {s : Shared}
/-- a pinned object, new since the entry, is tracked -/
theorem adopt {a : Addr} {o : Obj} {vs : Array Value} {u : HO} (I : Inv X ((a, o) :: pins) σ H s) (h0 : X.s_0.heap.get? a = none) (hp : ∀ p ∈ X.pn ++ pins, p.1 ≠ a) (hd : o.data = .fields vs) (new : ObjOk X.prog X.w (upd H a u) s.heap a u) : Inv X pins σ (upd H a u) s := by
  obtain ⟨ha, na, nL, nF, ncell⟩ := I.pin (a, o) (List.mem_append_right _ List.mem_cons_self)
  dsimp only at ha na nL nF ncell
  have b := I.base
  refine ⟨I.ok, I.os, I.bare, ⟨b.keep, b.slot, fun c v q n hx => ?_, b.there, fun c xs q => ?_, fun c v xs q => ?_, fun c ps q => ?_⟩, I.loc, I.cell, ?_, fun x c e => ?_, fun p hp' => ?_, HOk.laidN I.hok (fun _ _ q => q) na new, I.len⟩
  · rw [upd_ne (fun z => by rw [z, h0] at q; cases q)]; exact b.free c v q n hx
  · have z := b.tups c xs q
    rw [upd_ne (ne_of_none z na)]; exact z
  · have z := b.frzs c v xs q
    rw [upd_ne (ne_of_none z na)]; exact z
  · obtain ⟨ps', z⟩ := b.tbls c ps q
    exact ⟨ps', by rw [upd_ne (ne_of_none z na)]; exact z⟩
  · rw [upd_ne (fun z => nL z.symm)]; exact I.free
  · have ne : c ≠ a := fun z => by
      obtain ⟨v, oc, hoc, hdc⟩ := I.cell x c e
      rw [z, ha] at hoc; cases hoc
      exact ncell _ hdc
    rw [upd_ne ne]; exact I.freeC x c e
  · obtain ⟨e, n, ne, nf, d⟩ := I.pin p (by
      rcases List.mem_append.mp hp' with h | h
      · exact List.mem_append_left _ h
      · exact List.mem_append_right _ (List.mem_cons_of_mem _ h))
    exact ⟨e, by rw [upd_ne (hp p hp')]; exact n, ne, nf, d⟩
theorem unsuiteK {a : Addr} {q : Addr × Obj} (I : Inv (X.suite a (q :: (X.pn ++ pins))) [] σ H s) (ok : X.Ok) : Inv X (q :: pins) σ H s :=
  ⟨ok, I.os, I.bare, I.base, I.loc, I.cell, I.free, I.freeC, fun p hp => I.pin p (by
    refine List.mem_append_left _ ?_
    rcases List.mem_append.mp hp with h | h
    · exact List.mem_cons_of_mem _ (List.mem_append_left _ h)
    · rcases List.mem_cons.mp h with h | h
      · rw [h]; exact List.mem_cons_self
      · exact List.mem_cons_of_mem _ (List.mem_append_right _ h)), I.hok, I.len⟩
end
def wKeep (K : PySem.W.Frag) (c : Value) (i j : Nat) (D : Ends) : WX := fun cls d σ H => ∃ C dx, cls = .ref C ∧ d = some dx ∧ PySem.W.exmOne K cls c = some true ∧
  ∀ a, H a = none → D.nx (((σ.set i (some (.ref a))).set j (some (.ref a))).set i none) (upd H a (exk a C dx))
section
variable {X : Cx} {body : List Stmt} {pos pos' np pn py pa : Pos} {tb : WX → TS} {Wout : WX} {x n y : Str} {c : Value} {i j : Nat}
theorem ps_try_keep (hs : X.stack = X.env :: X.outer) (hf : X.env.frame = some X.env.locals) (hN : X.N.Nodup) (hc : Names X x c) (hi : X.N[i]? = some n) (hln : X.env.kindOf n = some .local) (hj : X.N[j]? = some y) (hlj : X.env.kindOf y = some .local)
    (hex : X.ex = [])
    (hb : ∀ (W : WX) (pn : List (Addr × Obj)) (xe : Value → Shared → Prop), L2N.Takes (X.tr pn xe) W → PassesOwn (model X.prog X.w) X.A X.env xe → PSs (X.tr pn xe) body (tb W))
    (hsu : ∀ (a : Addr) (pns : List (Addr × Obj)), PS (X.suite a pns) (.Assign [.Name y py] (.Name n pn) pa) (tAsg (tVar i) (gName j))) :
    PS X (.Try body [.ExceptHandler (some (.Name x np)) (some n) [.Assign [.Name y py] (.Name n pn) pa] pos'] [] [] pos) (fun D σ H => tb (wKeep X.K c i j D) D σ H) := by
  refine ⟨fun pins s σ H D I h => ?_⟩
  have ok := I.ok
  have hfr : X.A.frames = some (X.env :: X.outer) := by rw [ok.frames, hs]
  refine wpAny_Try_except ?_
  refine wpAny_mono ((hb (wKeep X.K c i j D) (X.pn ++ pins) (fun e s₁ => wpAny (model X.prog X.w) X.A (noteFrame e X.env) (fun _ s₂ => wpAny (model X.prog X.w) X.A (setFlight e none) (fun _ s₃ =>
    wpAny (model X.prog X.w) X.A (handleBy e X.env [.ExceptHandler (some (.Name x np)) (some n) [.Assign [.Name y py] (.Name n pn) pa] pos']) (SP X pins D) X.xe s₃) X.xe s₂) X.xe s₁) (fun u s' xx => ?_) PassesOwn.looking).run [] s σ H D (I.toTry _) h) (fun f s1 hsp => ?_) (fun e s1 he => he)
  · obtain ⟨a, B, sI, pins', σ', H', cls, d, rfl, J', nb, up, sky, na, os, ag, w⟩ := xx
    have J : Inv X pins σ' H' sI := J'.ofTry ok
    have sky' : Sky B (X.env :: X.outer) a (L2N.Zn cls d) X.env.locals s'.heap := by rw [← hs]; exact sky
    show wpAny (model X.prog X.w) X.A (noteFrame (.ref a) X.env) _ _ _
    refine L2N.Sky.land L2N.Zn.steady hfr hf sky' fun h3 fl3 up3 => ?_
    have J3 : Inv X pins σ' H' { s' with heap := h3 } := J.landed nb fl3.1 (up.trans up3) os ag
    obtain ⟨oe3, vs3, he3, hz3, hd3⟩ := fl3.there
    have nB : B.get? a = none := fl3.2.1
    have nfr : a ∉ frs (X.env :: X.outer) := fun hm => by
      obtain ⟨_, o', e', hnf⟩ := fl3.2.2.1.mem hm
      rw [he3] at e'; cases e'
      exact hnf _ hd3
    have nL : a ≠ X.env.locals := fun z => nfr (List.mem_filterMap.mpr ⟨X.env, List.mem_cons_self, by rw [hf, z]⟩)
    have nF : a ∉ X.fs := fun hm => by
      obtain ⟨e, he, q⟩ := List.mem_filterMap.mp hm
      exact nfr (List.mem_filterMap.mpr ⟨e, List.mem_cons_of_mem _ he, q⟩)
    have nI : sI.heap.get? a = none := by
      cases q : sI.heap.get? a with
      | none => rfl
      | some o => rw [nb a o q (by rw [hs]; exact nfr)] at nB; cases nB
    have n0 : X.s_0.heap.get? a = none := by
      cases q : X.s_0.heap.get? a with
      | none => rfl
      | some o =>
        obtain ⟨o', z⟩ := J.base.there a o q (by rw [hex]; exact List.not_mem_nil)
        rw [nI] at z; cases z
    have npn : ∀ p ∈ X.pn ++ pins, p.1 ≠ a := fun p hp z => by
      have := (J.pin p hp).1
      rw [z, nI] at this; cases this
    have S3 := J3.suite he3 hd3 na nL nF
    have test : ∀ {Q : Value → Shared → Prop} {E : Value → Shared → Prop}, Q c { s' with heap := h3 } → wpAny (model X.prog X.w) (X.A.mark (some (.ref a))) (eval (.Name x np) X.env) Q E { s' with heap := h3 } := fun {Q E} q => by
      obtain ⟨hg, hdbg, hm | ⟨hm, hv, hnn⟩⟩ := hc
      · exact ld_glob (X := X.suite a ((a, oe3) :: (X.pn ++ pins))) S3 hg hm q hdbg
      · exact ld_blt (X := X.suite a ((a, oe3) :: (X.pn ++ pins))) S3 hg hm hv q hnn hdbg
    have LT : PySem.W.Looks (model X.prog X.w) h3 (typeOf (.ref a)) cls := fun A Q E s k q => wpAny_typeOf_ref (k _ _ he3) (by rw [hz3.1]; exact q)
    obtain ⟨C, dx, ec, ed, hb1, w⟩ := w
    refine wpAny_handleBy_cons (codeAny_handlers_test ?_) (by intro q; cases q)
    refine test ((PySem.W.exm_one (M := model X.prog X.w) (J3.kIn) LT hb1).here ?_)
    refine codeAny_handlers_suite_as ?_
    refine HandSPX.lands_againZ fl3 fun h4 fl4 up4 => ?_
    have J4 : Inv X pins σ' H' { s' with heap := h4 } := J.landed nb fl4.1 ((up.trans up3).trans up4) os ag
    obtain ⟨oe4, vs4, he4, hz4, hd4⟩ := fl4.there
    have S4 := J4.suite he4 hd4 na nL nF
    refine store_ok (X := X.suite a ((a, oe4) :: (X.pn ++ pins))) (v := .ref a) S4 hN hi (.inl hln) rfl (fun s5 S5 => ?_) (.inr hln)
    have hil : i < σ'.length := by rw [J.len]; exact (List.getElem?_eq_some_iff.mp hi).1
    refine wpAny_mono ((pss_one (hsu a ((a, oe4) :: (X.pn ++ pins)))).run [] s5 _ H' (D := { nx := fun σ6 H6 => σ6 = (σ'.set i (some (.ref a))).set j (some (.ref a)) ∧ H6 = H', rt := fun _ _ => False, bk := fun _ _ => False, ct := fun _ _ => False }) S5 ⟨.ref a, List.getElem?_set_self hil, rfl, rfl⟩) (fun f s6 hsp => ?_) (fun _ _ z => False.elim z)
    cases f with
    | next =>
      obtain ⟨σ6, H6, S6, e6, eH⟩ := hsp
      subst e6 eH
      refine gone_ok (unsuiteK S6 ok) hN hi hln fun s7 J7 => ?_
      have g7 := (J7.pin (a, oe4) (List.mem_append_right _ List.mem_cons_self)).1
      refine ⟨_, _, adopt J7 n0 npn hd4 ?_, w a na⟩
      refine ⟨⟨oe4, vs4, g7, by rw [hz4.1, ec], by rw [hz4.2.1, ed], hd4⟩, ⟨_, g7⟩, fun g1 g2 ⟨o, vs, e, r⟩ k => ⟨o, vs, k _ e, r⟩⟩
    | brk => obtain ⟨_, _, _, z⟩ := hsp; exact z.elim
    | cont => obtain ⟨_, _, _, z⟩ := hsp; exact z.elim
    | ret u => obtain ⟨_, _, _, _, _, z⟩ := hsp; exact z.elim
  · have b := sp_back ok hsp
    cases f with
    | next => exact wpAny_execs_nil b
    | brk => exact b
    | cont => exact b
    | ret u => exact b
end

/-- try: .. except h as i: j = i -/
def sTryK (cs : List Str) (mb : SemS) (h : Str) (i j : Nat) : SemS := fun e => match mb e with
  | .exc c t e' => if (cs.contains c && subE c h && !isLent e' i && !isLent e' j && decide (i ≠ j) && decide (i < e'.length)) = true then .ok .nx ((e'.set j (.v (exT c t))).set i .un) else .bad
  | .ok f e' => .ok f e'
  | .bad => .bad
section
variable {X : Cx} {W : WX} {B : Bd} {pos pos' np pn py pa : Pos}
theorem keep_rel {K : PySem.W.Frag} {e : En} {σ : Sg} {F H : Hp} {c : Str} {t : T} {dx a : Addr} {v : V} {i j : Nat} (T : ExK K (He.ga K c)) (R : Rel K e σ F H) (k : BOk B e σ F H) (hdx : F dx = some (.xd [("value", v)])) (dv : Dp K F v t) (ha : H a = none)
    (li : isLent e i = false) (lj : isLent e j = false) (ne : i ≠ j) (hil : i < e.length) : ∃ F', Rel K ((e.set j (.v (exT c t))).set i .un) (((σ.set i (some (.ref a))).set j (some (.ref a))).set i none) F' (upd H a (exk a (He.ga K c) dx)) ∧
      BOk B ((e.set j (.v (exT c t))).set i .un) (((σ.set i (some (.ref a))).set j (some (.ref a))).set i none) F' (upd H a (exk a (He.ga K c) dx)) := by
  have fa := sub_none R ha
  have ff : ∀ b o, F b = some o → upd F a (exk a (He.ga K c) dx) b = some o := fun b o h => by rw [upd_ne (ne_of_none h fa)]; exact h
  have R1 := laid_frz (o := exk a (He.ga K c) dx) R ha
  have k1 := k.step (laid_frz_step (o := exk a (He.ga K c) dx) R .refl ha)
  have d : Dp K (upd F a (exk a (He.ga K c) dx)) (.ref a) (exT c t) := .exo T upd_same (ff _ _ hdx) (dp_mono ff _ _ dv)
  obtain ⟨R2, k2⟩ := set_v R1 k1 d (isLent_no lj)
  have li2 : isLent (e.set j (.v (exT c t))) i = false := by
    unfold isLent at *
    rw [List.getElem?_set_ne (Ne.symm ne)]; exact li
  obtain ⟨R3, k3⟩ := set_un R2 k2 (isLent_no li2)
  have un : ((e.set j (.v (exT c t))).set i .un)[i]? = some Sl.un := List.getElem?_set_self (by simpa using hil)
  obtain ⟨R4, k4⟩ := any_un (o := none) R3 k3 (.inl un)
  have eq : ((σ.set i (some (V.ref a))).set j (some (.ref a))).set i none = (σ.set j (some (.ref a))).set i none := by
    rw [List.set_comm _ _ ne, List.set_set]
  rw [eq]
  exact ⟨_, R4, k4⟩
theorem qtryK {body : List Stmt} {mb : SemS} {cs : List Str} {x n y : Str} {i j : Nat} (hs : X.stack = X.env :: X.outer) (hf : X.env.frame = some X.env.locals) (hex : X.ex = []) (hN : X.N.Nodup) (Ex : ExcOk X.K X.mg cs) (hx : x ∈ cs) (hg : Gl X x)
    (hi : X.N[i]? = some n) (hln : X.env.scope.names.lookup n = some .local) (hj : X.N[j]? = some y) (hlj : X.env.scope.names.lookup y = some .local)
    (hb : ∀ (W' : WX) (pn : List (Addr × Obj)) (xe : Value → Shared → Prop), L2N.Takes (X.tr pn xe) W' → PassesOwn (model X.prog X.w) X.A X.env xe → QSs (X.tr pn xe) W' B body mb)
    (hsw : swapsWithSole [.Name y py] (.Name n pn) pa.line X.env = pure false := by rfl) (hw : swappedStores [.Name y py] (.Name n pn) X.env = pure none := by rfl)
    (hdb : (x == ("__debug__" : Str)) = false := by decide) (hd : (n == ("__debug__" : Str)) = false := by decide) (hcd : (n == ("__classdict__" : Str)) = false := by decide) :
    QS X W B (.Try body [.ExceptHandler (some (.Name x np)) (some n) [.Assign [.Name y py] (.Name n pn) pa] pos'] [] [] pos) (sTryK cs mb x i j) := by
  refine ps_mono (ps_try_keep (tb := fun W' => tS X.K W' B mb) hs hf hN ⟨hg, hdb, .inl (Ex.glo _ hx)⟩ hi hln hj hlj hex (fun W' pn xe t p => hb W' pn xe t p) (fun a pns => ?_)) fun D σ H h => ?_
  · exact ps_set (X := X.suite a pns) hN hj (.inl hlj) (pe_var hi (.inl hln) hd hcd) hsw (.inr hlj)
  obtain ⟨e, F, R, k, h⟩ := h
  refine ⟨e, F, R, k, ?_⟩
  unfold sTryK at h
  cases q : mb e with
  | bad => rw [q] at h; exact h
  | ok f e' => rw [q] at h; cases f <;> exact h
  | exc c t e' =>
    rw [q] at h
    by_cases z : (cs.contains c && subE c x && !isLent e' i && !isLent e' j && decide (i ≠ j) && decide (i < e'.length)) = true
    · have h2 : OutS X.K W B (if (cs.contains c && subE c x && !isLent e' i && !isLent e' j && decide (i ≠ j) && decide (i < e'.length)) = true then .ok .nx ((e'.set j (.v (exT c t))).set i .un) else .bad) D := h
      rw [if_pos z] at h2
      simp only [Bool.and_eq_true, Bool.not_eq_true', decide_eq_true_eq] at z
      obtain ⟨⟨⟨⟨⟨z1, z2⟩, z3⟩, z4⟩, z5⟩, hil⟩ := z
      have hc : c ∈ cs := by simpa using z1
      intro σ' F' H' cls d R' k' x'
      obtain ⟨ec, dx, v, ed, hdx, dv⟩ := x'
      refine ⟨He.ga X.K c, dx, ec, ed, by rw [ec, Ex.exm c hc x hx, z2], fun a ha => ?_⟩
      obtain ⟨F2, R2, k2⟩ := keep_rel (Ex.exk c hc) R' k' hdx dv ha z3 z4 z5 hil
      exact h2 _ F2 _ R2 k2
    · have h2 : OutS X.K W B (if (cs.contains c && subE c x && !isLent e' i && !isLent e' j && decide (i ≠ j) && decide (i < e'.length)) = true then .ok .nx ((e'.set j (.v (exT c t))).set i .un) else .bad) D := h
      rw [if_neg z] at h2
      exact h2.elim
end
end Ev

set_option Elab.async false
set_option linter.all false
set_option maxRecDepth 100000
set_option maxHeartbeats 2000000
namespace Kx
section
open PySem PySem.HandSPX Builtin Builtin.ObjectAttr
variable {M : Model} {A : Around} {E : Value → Shared → Prop} {h : Heap} {g : Array GenState} {d : Drawn} {t : Nat} {os : OsState}
variable {nm q : Str} {C N : Addr} {bs bm bmB : List Value} {hdct : Bool} {sn : List Str} {sub : List Value} {ab : Bool} {col : Option Bool} {dd : Option Addr} {k0 k1 k2 k3 k5 : Option Value} {B newId initId : String} {kw : List (Str × Value)}
theorem check_new_kw (F : ExcBaseFacts B newId initId bmB) (hT : ∀ X : String, bm.contains (.type X) = bmB.contains (.type X)) {rest : List Value} {Q : Unit → Shared → Prop}
    (hC : h.get? C = some (excClassObj nm q C N bs bm hdct sn sub ab col dd k0 k1 k2 k3 k5 newId)) (hq : Q () ⟨h, g, d, t, os⟩) : wpAny M A (checkBuiltinCall newId ⟨.ref C :: rest, kw⟩) Q E ⟨h, g, d, t, os⟩ := by
  have hcont : (Value.ref C :: bm).contains (.type B) = true := by rw [List.contains_cons, hT, F.hasB, Bool.or_true]
  have hstar := F.noStar
  simp only [checkBuiltinCall, F.newKind, F.newSplit, F.newRow]
  repeat (first | refine wpAny_loadPart_at hC ?_ | (refine wpAny_isSubtype_exc hC ?_; rw [hcont]) | refine wpAny_staticBase_exc hC ?_ | refine wpAny_madeBy_exc hC ?_ | simp only [bne_self_eq_false, Bool.false_eq_true, if_false] | wp_step)
  exact hq
variable {prog : Program} {w : World} {R : Result → Shared → Prop}
theorem new_kw (F : ExcBaseFacts B newId initId bmB) (hT : ∀ X : String, bm.contains (.type X) = bmB.contains (.type X)) {rest : List Value}
    (hC : h.get? C = some (excClassObj nm q C N bs bm hdct sn sub ab col dd k0 k1 k2 k3 k5 newId))
    (hq : R (.ok (.ret (.ref (h.objs.size + 1)))) ⟨(h.push { cls := .type "tuple", data := .seq rest.toArray }).push
      { cls := .ref C, data := .fields #[.ref h.objs.size, .none, .none, .none, .bool false, .none] }, g, d, t, os⟩) (hrest : rest.length ≤ sizeLine) :
    codeAny (model prog w) A (.builtin newId ⟨.ref C :: rest, kw⟩) R ⟨h, g, d, t, os⟩ := by
  have hends := F.ends
  have hcB : (Value.ref C :: bm).contains (.type B) = true := by rw [List.contains_cons, hT, F.hasB, Bool.or_true]
  have hcA : (Value.ref C :: bm).contains (.type "AttributeError") = false := by rw [List.contains_cons, hT, F.noAttr]; rfl
  have hcN : (Value.ref C :: bm).contains (.type "NameError") = false := by rw [List.contains_cons, hT, F.noName]; rfl
  refine codeAny_builtinAt F.entry ?_
  unfold Builtin.«BaseException.__new__»
  refine wpAt_bind ?_
  show wpAt _ _ _ (stack >>= _) _ _ _
  refine wpAt_bind (wpAt_stack fun p below => wpAt_of_wpAny ?_)
  wp_walk
  refine wpAt_of_wpAny ?_
  rw [F.owner]
  repeat (first | with_reducible refine wpAny_madeHere_exc F.canon hC ?_ | with_reducible refine wpAny_loadPart_at hC ?_ | (with_reducible refine wpAny_isSubtype_exc hC ?_; first | rw [hcB] | rw [hcA] | rw [hcN]) | wp_step)
  show R _ _
  rw [Heap.size_push]
  exact hq
theorem type_call_kw (F : ExcBaseFacts B newId initId bmB) (hT : ∀ X : String, bm.contains (.type X) = bmB.contains (.type X)) {rest : List Value} {fI : Addr} {Q : Fin → Shared → Prop}
    (hC : h.get? C = some (excClassObj nm q C N bs bm hdct sn sub ab col dd k0 k1 k2 k3 k5 newId))
    (hi : W.Looks (model prog w) h (typeLookup (.ref C) "__init__") (some (.ref fI))) (hb : ∀ self, W.Looks (model prog w) h (bindSpecial (.ref fI) self) (.ref fI, [self])) (hrest : rest.length ≤ sizeLine)
    (hq : codeAny (model prog w) A (.call (.ref fI) ⟨.ref (h.objs.size + 1) :: rest, kw⟩)
      (fun r s' => match r with | .ok (.ret v) => v = .none ∧ Q (.done (.ret (.ref (h.objs.size + 1)))) s' | .ok _ => False | .error e => E e s')
      ⟨(h.push (W.kdv_tup rest)).push (excO C h.objs.size), g, d, t, os⟩) :
    wpAny (model prog w) A (Builtin.«type.__call__» ⟨.ref C :: rest, kw⟩) Q E ⟨h, g, d, t, os⟩ := by
  repeat (first | with_reducible refine wpAny_loadPart_at hC ?_ | with_reducible refine wpAny_madeBy_exc hC ?_ | wp_step)
  refine codeAny_call_builtin_code (Code.quiet_builtin _ F.quiet) (check_new_kw F hT hC ?_)
  refine new_kw F hT hC ?_ hrest
  show wpAny _ _ _ _ _ _
  have k : ∀ b o, h.get? b = some o → ((h.push (W.kdv_tup rest)).push (excO C h.objs.size)).get? b = some o := fun b o e => Heap.get?_push_of_some _ (Heap.get?_push_of_some _ e)
  have hC₁ := k _ _ hC
  have hget : ((h.push (W.kdv_tup rest)).push (excO C h.objs.size)).get? (h.objs.size + 1) = some (excO C h.objs.size) := by heap_get
  have hcC : (Value.ref C :: bm).contains (.ref C) = true := by simp
  have i1 := hi.keeps k
  have b1 := (hb (.ref (h.objs.size + 1))).keeps k
  unfold isInstance
  repeat (first | with_reducible refine wpAny_loadPart_at hget ?_ | (with_reducible refine wpAny_isSubtype_exc hC₁ ?_; rw [hcC]) | wp_step)
  show wpAny _ _ (typeLookup (.ref C) _) _ _ _
  refine i1.at ?_
  refine wpAny_holding (wpAny_bind (b1.at ?_))
  refine wpAny_bind (wpAny_call (codeAny_mono hq fun r s' z => ?_))
  rcases r with e | (v | _ | _ | _) <;> first | exact z | exact z.elim | skip
  obtain ⟨rfl, z⟩ := z
  first
    | exact wpAny_pure (wpAny_pure z)
    | (wp_walk; exact z)
theorem call_kw (F : ExcBaseFacts B newId initId bmB) (hT : ∀ X : String, bm.contains (.type X) = bmB.contains (.type X)) {rest : List Value} {fI : Addr}
    (hC : h.get? C = some (excClassObj nm q C N bs bm hdct sn sub ab col dd k0 k1 k2 k3 k5 newId))
    (hi : W.Looks (model prog w) h (typeLookup (.ref C) "__init__") (some (.ref fI))) (hb : ∀ self, W.Looks (model prog w) h (bindSpecial (.ref fI) self) (.ref fI, [self])) (hrest : rest.length ≤ sizeLine)
    (hq : codeAny (model prog w) (A.under (.builtin "type.__call__" ⟨.ref C :: rest, kw⟩)) (.call (.ref fI) ⟨.ref (h.objs.size + 1) :: rest, kw⟩) (W.InitBack (h.objs.size + 1) R)
      ⟨(h.push (W.kdv_tup rest)).push (excO C h.objs.size), g, d, t, os⟩) :
    codeAny (model prog w) A (.call (.ref C) ⟨rest, kw⟩) R ⟨h, g, d, t, os⟩ := by
  have f1 := tc_lookup
  have f2 := tc_bind (.ref C)
  have hTy : (⟨h, g, d, t, os⟩ : Shared).TypeIs (.ref C) "type" := ⟨_, hC, rfl⟩
  refine codeAny_of_tree ?_
  show wpAny _ _ (callAny (.ref C) _) _ _ _
  repeat (any_goals (first | assumption | with_reducible refine wpAny_loadPart_at hC ?_ | wp_step))
  refine ⟨rfl, ?_⟩
  refine codeAny_call_builtin_at (Code.quiet_builtin _ (by decide +kernel)) entry_typeCall (wpAny_check_type_call_sub hC (type_call_kw F hT hC hi hb hrest ?_))
  refine codeAny_mono hq fun r s' z => ?_
  rcases r with e | (v | _ | _ | _) <;> exact z
end
end Kx

set_option Elab.async false
set_option linter.all false
set_option maxRecDepth 100000
set_option maxHeartbeats 2000000
namespace Ev
open PySem PySem.Spec PyProof.Rows L2
/-! ### C(value=e) -/
abbrev IniKw (fd : FuncData) : Prop := ∀ (s : Shared) (a : Addr) (v : Value), BindsTo s fd ⟨[.ref a], [("value", v)]⟩ [("self", .ref a), ("value", v)]
theorem iniKw_of {K : PySem.W.Frag} {x qual : Str} {params : Arguments} {body : List Stmt} {scope : Scope} {kws : List (Str × V)} {f : Addr} {fd : FuncData} (F : FunD K x qual params body scope [] kws f fd)
    (h : ∀ (kV doc pm : Value) (an : Option Addr) (cdv ct : Value) (a : Addr) (v : Value), bindArgs (PySem.W.fnOf x qual params body scope .none kV doc pm an cdv ct) ⟨[.ref a], [("value", v)]⟩ = pure ([("self", .ref a), ("value", v)] : List (Str × Value))) : IniKw fd := fun s a v => by
  obtain ⟨oc, od, dV, kV, doc, pm, an, cdv, ct, osl, rfl, lk, hcd, hD, hK⟩ := F.ex
  rcases hD with ⟨_, rfl⟩ | ⟨e, _⟩
  · exact .of_eq (h kV doc pm an cdv ct a v)
  · exact absurd rfl e
section
variable {X : Cx} {W : WX} {B : Bd} {pos : Pos}
theorem pmk_exK {CX : CXT} {x : Str} {kws : List Keyword} {ta : TA} {p : Pos} {C fI : Addr} {k : Nat} {fd : FuncData} {sp : Sp} (T : OexC X.K C) (iC : PySem.W.findIn X.K (.ref C) "__init__" = some (some (.ref fI))) (tI : PySem.W.typeIn X.K (.ref fI) = some (.type "function"))
    (F1 : FnOk X.prog X.w X.K X.mg X.base CX k fI fd ["self", "value"] sp) (hr : Room (k + 1) X.A) (hb : IniKw fd) (hx : Passes CX X (fun _ _ _ => False)) (hg : Gl X x) (hm : X.mg x = some (.ref C)) (ha : PK X kws ta)
    (hall : (backToKw pos (keywordEach kws X.env)).all (·.1.isSome) = true := by rfl) (hks : (backToKw pos (keywordEach kws X.env)).filterMap (·.1) = [("value" : Str)] := by rfl)
    (hdb : (x == ("__debug__" : Str)) = false := by decide) (hpl : ((backTo pos (starEach [] X.env)).any (·.1) || (backToKw pos (keywordEach kws X.env)).any (·.1.isNone)) = false := by rfl) :
    L2N.PMk X (.Call (.Name x p) [] kws pos) (tMkO C sp [] fun σ H Q => ta σ H fun vs H1 => (∃ y, vs = [y]) ∧ Q vs H1) := by
  intro pins s σ H Q I h
  obtain ⟨nm, q, N, bs, bm, sn, sub, ab, col, dd, k0, k1, k2, k3, k5, hC, hbm⟩ := T.cls
  refine wpAny_Call_Name_kw (ld_glob I hg hm ?_ hdb)
  refine PySem.W.callWith_KW0 (h₀ := X.base) I.ok.mod.kin T.kC hall ?_ hpl
  refine thn (ha.run pos pins s σ H _ I h) fun us s1 ⟨vs, H1, I1, r1, ⟨y, ey⟩, hz, q1⟩ => ⟨I1.kIn, ?_⟩
  subst ey
  rw [hks]
  obtain ⟨u, eu, ru⟩ : ∃ u, us = [u] ∧ RelV y u := by
    cases r1 with
    | cons a b => cases b; exact ⟨_, rfl, a⟩
  subst eu
  show wpAny _ _ (call (.ref C) [] [("value", u)]) _ _ _
  obtain ⟨hp, g, dr, tk, os⟩ := s1
  have hsz : hp.objs.size ≤ hp.objs.size + 1 := Nat.le_succ _
  have hq := q1 (hp.objs.size + 1) (I1.hok.fresh hsz)
  rw [List.append_nil] at hq
  have kk : ∀ b o, hp.get? b = some o → ((hp.push (PySem.W.kdv_tup [])).push (PySem.HandSPX.excO C hp.objs.size)).get? b = some o := fun b o e => Heap.get?_push_of_some _ (Heap.get?_push_of_some _ e)
  have hget : ((hp.push (PySem.W.kdv_tup [])).push (PySem.HandSPX.excO C hp.objs.size)).get? (hp.objs.size + 1) = some (PySem.HandSPX.excO C hp.objs.size) := by heap_get
  have I2 : Inv X pins σ (upd H1 (hp.objs.size + 1) (exo (hp.objs.size + 1) C none)) ⟨(hp.push (PySem.W.kdv_tup [])).push (PySem.HandSPX.excO C hp.objs.size), g, dr, tk, os⟩ :=
    I1.laid (t' := tk) (a := hp.objs.size + 1) (o := exo (hp.objs.size + 1) C none) (h' := (hp.push (PySem.W.kdv_tup [])).push (PySem.HandSPX.excO C hp.objs.size)) kk hsz (exo_ok hget)
  have r2 : Vals [V.ref (hp.objs.size + 1), y] [Value.ref (hp.objs.size + 1), u] := .cons rfl (.cons ru .nil)
  refine wpAny_call (Kx.call_kw F.excBase_ValueError (fun Y => PySem.HandSPX.refsVE_contains Y bm hbm) (I1.kIn _ _ hC) (PySem.W.looks_findIn I1.kIn iC) (fun self => PySem.W.bind_fn I1.kIn self tI) (by decide)
    (codeAny_mono (F1.run _ X.stack _ _ ⟨[Value.ref (hp.objs.size + 1)], [("value", u)]⟩ [Value.ref (hp.objs.size + 1), u] _ _ (fun _ _ _ => False) (hr.make C [] [("value", u)]) (I2.env0.make C [] [("value", u)]) (hb _ _ _) r2 hq) fun r s' hq' => ?_))
  cases r with
  | error er => exact hx pins σ _ _ er s' I2 hq'
  | ok fl =>
    cases fl with
    | ret u =>
      obtain ⟨v, H2, os2, bare2, un2, hok2, rv, ev, d, fs, ea, ed, hd1, q2⟩ := hq'
      subst ev
      obtain ⟨h2, g2, d2, t2, os'⟩ := s'
      obtain ⟨t0, G, J, kG, ge, hoe, na⟩ := mk_end0 (d2 := d2) (t2 := t2) I1 hsz kk un2 hok2 os2 bare2 ea ed hd1
      exact ⟨rv, hp.objs.size + 1, _, _, ⟨G, g2, d2, t2, os'⟩, _, .ref C, some d, rfl, J, kG, ge, hoe, ⟨rfl, rfl, fun vs hv => by cases hv; rfl⟩, rfl, rfl, na, rfl, bare2, raises_own T.exC T.tyC, q2⟩
    | next => exact False.elim hq'
    | brk => exact False.elim hq'
    | cont => exact False.elim hq'
theorem qraiseK {x : Str} {a : Expr} {ma : SemE} {p pos2 kpos : Pos} {k : Nat} {fd : FuncData} {cs : List Str} (hc : X.calm = true) (tk : L2N.Takes X W) (Ex : ExcOk X.K X.mg cs) (hin : x ∈ cs)
    (F1 : FnOk X.prog X.w X.K X.mg X.base (L2N.CX X.prog X.w) k (He.fAd X.K iniP) fd ["self", "value"] (spI X.K)) (hr : Room (k + 1) X.A) (hb : IniKw fd) (hg : Gl X x) (ha : QE X W a ma)
    (hdb : (x == ("__debug__" : Str)) = false := by decide) (hall : (backToKw pos (keywordEach [⟨some "value", a, kpos⟩] X.env)).all (·.1.isSome) = true := by rfl) (hks : (backToKw pos (keywordEach [⟨some "value", a, kpos⟩] X.env)).filterMap (·.1) = [("value" : Str)] := by rfl)
    (hpl : ((backTo pos (starEach [] X.env)).any (·.1) || (backToKw pos (keywordEach [⟨some "value", a, kpos⟩] X.env)).any (·.1.isNone)) = false := by rfl) :
    QS X W B (.Raise (some (.Call (.Name x p) [] [⟨some "value", a, kpos⟩] pos)) none pos2) (sRaise x ma) := by
  refine ps_mono (L2N.ps_raise hc tk (pmk_exK (Ex.oex x hin) (Ex.ini x hin) Ex.ity F1 hr hb (fun _ _ _ _ _ _ _ ⟨_, _, _, _, _, _, _, _, _, _, _, _, w⟩ => w.elim) hg (Ex.glo x hin) (pk_cons ha pk_nil) hall hks hdb hpl)) fun D σ H h => ?_
  obtain ⟨e, F, R, k, h⟩ := h
  refine tX_imp (tS_bind (rel := fun σ => OdR X.K σ) R k h) fun y H1 ⟨r, e1, F1, R1, S1, k1, O, h1⟩ => ?_
  cases r with
  | s i => exact h1.elim
  | b b => exact h1.elim
  | r t =>
    refine ⟨⟨y, rfl⟩, by simp, fun a ha => ⟨a, He.ga X.K x, y, rfl, Ex.oex x hin, Ex.nov x hin, upd_same, fun dx hdx ne => ⟨rfl, dx, [("value", y)], upd_same, ?_, ?_, ?_⟩⟩⟩
    · rw [upd_ne ne, upd_same]
    · rw [upd_ne ne] at hdx; exact hdx
    · have hd : H1 dx = none := by rw [upd_ne ne] at hdx; exact hdx
      have eq : upd (del (upd (upd (upd H1 a (exo a (He.ga X.K x) none)) dx (exd dx [("value", y)])) a (exo a (He.ga X.K x) (some dx))) a) dx (.xd [("value", y)]) = upd H1 dx (.xd [("value", y)]) := by
        funext b
        by_cases hb : b = dx
        · subst hb; rw [upd_same, upd_same]
        · rw [upd_ne hb, upd_ne hb]
          by_cases hba : b = a
          · subst hba; rw [del_same, ha]
          · rw [del_ne hba, upd_ne hba, upd_ne hb, upd_ne hba]
      rw [eq]
      exact h1 σ (upd F1 dx (.xd [("value", y)])) _ _ _ (laid_frz R1 hd) (k1.step (laid_frz_step R1 .refl hd)) ⟨rfl, dx, y, rfl, upd_same, dp_mono (fun a o h => by rw [upd_ne (ne_of_none h (sub_none R1 hd))]; exact h) _ _ O⟩
/-! ### C(e), not raised -/
def tNewX (K : PySem.W.Frag) (C : Addr) (sp : Sp) (ta : TA) : TE := fun σ H Q => ta σ H fun vs H1 => vs.length ≤ 1000 ∧ ∀ a, H1 a = none → sp (.ref a :: vs) (upd H1 a (exo a C none))
  (fun v H2 => v = .non ∧ ∃ (d : Addr) (fs : List (Str × V)), H2 a = some (exo a C (some d)) ∧ H2 d = some (exd d fs) ∧ d ≠ a ∧ Q (.ref a) (upd (upd H2 d (.xd fs)) a (exk a C d))) (fun _ _ _ => False)
theorem pe_newX {CX : CXT} {x : Str} {e : Expr} {es : List Expr} {ta : TA} {p : Pos} {C fI : Addr} {k : Nat} {fd : FuncData} {ps : List Str} {sp : Sp} (T : OexC X.K C) (iC : PySem.W.findIn X.K (.ref C) "__init__" = some (some (.ref fI))) (tI : PySem.W.typeIn X.K (.ref fI) = some (.type "function"))
    (F1 : FnOk X.prog X.w X.K X.mg X.base CX k fI fd ps sp) (hr : Room (k + 1) X.A) (hb : Binds X.K fd ps []) (hx : Passes CX X (fun _ _ _ => False)) (hg : Gl X x) (hm : X.mg x = some (.ref C)) (ha : PA X (e :: es) ta)
    (hdb : (x == ("__debug__" : Str)) = false := by decide) (he : starEach (e :: es) X.env = (false, eval e X.env) :: starEach es X.env := by rfl) (hpl : (backTo pos (starEach es X.env)).any (·.1) = false := by rfl) :
    PE X (.Call (.Name x p) (e :: es) [] pos) (tNewX X.K C sp ta) := by
  refine ⟨fun pins s σ H Q I h => ?_⟩
  obtain ⟨nm, q, N, bs, bm, sn, sub, ab, col, dd, k0, k1, k2, k3, k5, hC, hbm⟩ := T.cls
  refine wpAny_Call_Name_kw (ld_glob I hg hm ?_ hdb)
  refine PySem.W.callWith_K (h₀ := X.base) I.ok.mod.kin T.kC (thn (ha.run pos pins s σ H _ I h) fun us s1 ⟨vs, H1, I1, r1, hz, q1⟩ => ⟨I1.kIn, ?_⟩) he hpl
  show wpAny _ _ (call (.ref C) us) _ _ _
  obtain ⟨hp, g, dr, tk, os⟩ := s1
  have hsz : hp.objs.size ≤ hp.objs.size + 1 := Nat.le_succ _
  have hq := q1 (hp.objs.size + 1) (I1.hok.fresh hsz)
  have kk : ∀ b o, hp.get? b = some o → ((hp.push (PySem.W.kdv_tup us)).push (PySem.HandSPX.excO C hp.objs.size)).get? b = some o := fun b o e => Heap.get?_push_of_some _ (Heap.get?_push_of_some _ e)
  have hget : ((hp.push (PySem.W.kdv_tup us)).push (PySem.HandSPX.excO C hp.objs.size)).get? (hp.objs.size + 1) = some (PySem.HandSPX.excO C hp.objs.size) := by heap_get
  have I2 : Inv X pins σ (upd H1 (hp.objs.size + 1) (exo (hp.objs.size + 1) C none)) ⟨(hp.push (PySem.W.kdv_tup us)).push (PySem.HandSPX.excO C hp.objs.size), g, dr, tk, os⟩ :=
    I1.laid (t' := tk) (a := hp.objs.size + 1) (o := exo (hp.objs.size + 1) C none) (h' := (hp.push (PySem.W.kdv_tup us)).push (PySem.HandSPX.excO C hp.objs.size)) kk hsz (exo_ok hget)
  have r2 : Vals (V.ref (hp.objs.size + 1) :: vs) (Value.ref (hp.objs.size + 1) :: us) := .cons rfl r1
  have hl : (Value.ref (hp.objs.size + 1) :: us).length = ps.length := (F1.len _ _ _ _ hq).symm ▸ r2.length.symm
  have hus : us.length ≤ sizeLine := by
    rw [← Paired.length r1, sizeLine_eq]
    omega
  have b2 := hb _ (Value.ref (hp.objs.size + 1) :: us) I2.kIn (by rw [List.append_nil]; exact hl)
  rw [List.append_nil] at b2
  refine wpAny_call (PySem.HandSPX.call_own F.excBase_ValueError (fun Y => PySem.HandSPX.refsVE_contains Y bm hbm) (I1.kIn _ _ hC) (PySem.W.looks_findIn I1.kIn iC) (fun self => PySem.W.bind_fn I1.kIn self tI) hus
    (codeAny_mono (F1.run _ X.stack _ _ ⟨Value.ref (hp.objs.size + 1) :: us, []⟩ (Value.ref (hp.objs.size + 1) :: us) _ _ (fun _ _ _ => False) (hr.make C us []) (I2.env0.make C us []) b2 r2 hq) fun r s' hq' => ?_))
  cases r with
  | error er => exact hx pins σ _ _ er s' I2 hq'
  | ok fl =>
    cases fl with
    | ret u =>
      obtain ⟨v, H3, I3, rv, ev, d, fs, ea, ed, ne, q2⟩ := I2.after hq'
      subst ev
      obtain ⟨t0, hoe⟩ := exo_at I3.hok ea
      obtain ⟨mA, hns, rel⟩ := exd_at I3.hok ed
      have I4 := I3.write (t' := s'.toks) (h' := s'.heap) (x := d) (e := d) (o := .xd fs) (by rw [ed]; exact True.intro) (.inl rfl) (fun _ _ _ q => q) (by obtain ⟨o, es, ep, e1, _⟩ := hns; exact ⟨o, e1⟩) ⟨mA, hns, rel⟩
      have ea4 : upd H3 d (.xd fs) (hp.objs.size + 1) = some (exo (hp.objs.size + 1) C (some d)) := by rw [upd_ne (Ne.symm ne)]; exact ea
      have I5 := I4.write (t' := s'.toks) (h' := s'.heap) (x := hp.objs.size + 1) (e := hp.objs.size + 1) (o := exk (hp.objs.size + 1) C d) (by rw [ea4]; exact True.intro) (.inl rfl) (fun _ _ _ q => q) ⟨_, hoe⟩
        ⟨⟨_, _, hoe, rfl, rfl, rfl⟩, ⟨_, hoe⟩, fun g1 g2 ⟨o, vs, e, r⟩ k => ⟨o, vs, k _ e, r⟩⟩
      exact ⟨rv, .ref (hp.objs.size + 1), _, I5, rfl, q2⟩
    | next => exact False.elim hq'
    | brk => exact False.elim hq'
    | cont => exact False.elim hq'
end
end Ev

set_option Elab.async false
set_option linter.all false
set_option maxRecDepth 100000
set_option maxHeartbeats 2000000
namespace Ev
open PySem PySem.Spec PyProof.Rows L2
/-! ### kept exceptions are looked at -/
/-- isinstance(x, C), x a kept exception -/
def eIsx (cs : List Str) (f : Str → Bool) (m : SemE) : SemE := fun e => (m e).bind fun r e1 => match r.val e1 with
  | some (.dict [(.none, .str c), (.none, _)]) => if cs.contains c = true then .ok (.r (.bool (f c))) e1 else .bad
  | _ => .bad
/-- x.value -/
def eVal (m : SemE) : SemE := fun e => (m e).bind fun r e1 => match r.val e1 with
  | some (.dict [(.none, .str _), (.none, t)]) => .ok (.r t) e1
  | _ => .bad
/-- C(e) -/
def eNewX (x : Str) (m : SemE) : SemE := fun e => (m e).bind fun r e1 => match r with
  | .r t => .ok (.r (exT x t)) e1
  | _ => .bad
section
variable {K : PySem.W.Frag} {W : WX} {m : SemE} {σ : Sg} {H : Hp} {Q : VK}
theorem dp_exT {F : Hp} {x : V} {c : Str} {t : T} (d : Dp K F x (.dict [(.none, .str c), (.none, t)])) : ∃ a dx y, x = .ref a ∧ ExK K (He.ga K c) ∧ F a = some (exk a (He.ga K c) dx) ∧ F dx = some (.xd [("value", y)]) ∧ Dp K F y t := by
  cases d with
  | dct _ k => exact absurd (kvs_noX k) (by simp [isXk])
  | dck _ k => exact absurd (ks_noX k) (by simp [isXk])
  | exo T h1 h2 dv => exact ⟨_, _, _, rfl, T, h1, h2, dv⟩
theorem isx_read {cs : List Str} {f : Str → Bool} (h : tE K W (eIsx cs f m) σ H Q) : tE K W m σ H fun x H1 => ∃ c, c ∈ cs ∧ IsEx K H1 x (He.ga K c) ∧ Q (.bl (f c)) H1 := by
  obtain ⟨e, F, R, h⟩ := h
  refine tX_imp (tX_bind (rel := fun σ => OdR K σ) R .refl h) fun x H1 ⟨r, e1, F1, R1, S1, O1, h1⟩ => ?_
  split at h1
  · rename_i c t q
    by_cases z : cs.contains c = true
    · rw [if_pos z] at h1
      have d := val_ok R1 O1 q
      obtain ⟨a, dx, y, rfl, T, g1, g2, dv⟩ := dp_exT (show Dp K F1 x (.dict [(.none, .str c), (.none, t)]) from d)
      exact ⟨c, by simpa using z, ⟨a, dx, _, rfl, T, R1.sub _ _ g1, R1.sub _ _ g2⟩, h1 _ F1 H1 R1 S1 (.bl _)⟩
    · rw [if_neg z] at h1; exact h1.elim
  · exact h1.elim
theorem val_read (h : tE K W (eVal m) σ H Q) : tE K W m σ H fun x H1 => ∃ a C dx v, x = .ref a ∧ ExK K C ∧ H1 a = some (exk a C dx) ∧ H1 dx = some (.xd [("value", v)]) ∧ Q v H1 := by
  obtain ⟨e, F, R, h⟩ := h
  refine tX_imp (tX_bind (rel := fun σ => OdR K σ) R .refl h) fun x H1 ⟨r, e1, F1, R1, S1, O1, h1⟩ => ?_
  split at h1
  · rename_i c t q
    have d := val_ok R1 O1 q
    obtain ⟨a, dx, y, rfl, T, g1, g2, dv⟩ := dp_exT (show Dp K F1 x (.dict [(.none, .str c), (.none, t)]) from d)
    exact ⟨a, _, dx, y, rfl, T, R1.sub _ _ g1, R1.sub _ _ g2, h1 _ F1 H1 R1 S1 dv⟩
  · exact h1.elim
end
section
variable {X : Cx} {W : WX} {B : Bd} {pos : Pos} {a : Expr} {ma : SemE}
theorem qisxC {n : Str} {cs : List Str} {p p2 : Pos} (Ex : ExcOk X.K X.mg cs) (hn : n ∈ cs) (hg : Gl X "isinstance") (hm : X.mg "isinstance" = none) (hgn : Gl X n) (ha : QE X W a ma)
    (hd : (n == ("__debug__" : Str)) = false := by decide)
    (he : starEach [a, .Name n p2] X.env = (false, eval a X.env) :: starEach [.Name n p2] X.env := by rfl) (he2 : starEach [.Name n p2] X.env = [(false, eval (.Name n p2) X.env)] := by rfl) (hpl : (backTo pos (starEach [.Name n p2] X.env)).any (·.1) = false := by rfl) :
    QE X W (.Call (.Name "isinstance" p) [a, .Name n p2] [] pos) (eIsx cs (fun c => subE c n) ma) := by
  refine pe_mono (pe_callB call_isX hg hm (by decide +kernel) (pa_cons ha (pa_cons (pe_glob hgn (Ex.glo n hn) (v := .ref (He.ga X.K n)) rfl hd) pa_nil he2) he) (by decide) (by decide) he hpl) fun σ H Q h => ?_
  refine tX_imp (isx_read h) fun x H1 ⟨c, hc, ty, q⟩ => ?_
  exact ⟨x, .ref (He.ga X.K n), He.ga X.K c, .ref (He.ga X.K n), subE c n, rfl, .own _, ty, Ex.kit c hc n hn, q⟩
theorem qisxV {cs : List Str} {p p2 : Pos} (Ex : ExcOk X.K X.mg cs) (hg : Gl X "isinstance") (hm : X.mg "isinstance" = none) (hgn : Gl X "ValueError") (hmn : X.mg "ValueError" = none) (ha : QE X W a ma)
    (he : starEach [a, .Name "ValueError" p2] X.env = (false, eval a X.env) :: starEach [.Name "ValueError" p2] X.env := by rfl) (he2 : starEach [.Name "ValueError" p2] X.env = [(false, eval (.Name "ValueError" p2) X.env)] := by rfl) (hpl : (backTo pos (starEach [.Name "ValueError" p2] X.env)).any (·.1) = false := by rfl) :
    QE X W (.Call (.Name "isinstance" p) [a, .Name "ValueError" p2] [] pos) (eIsx cs (fun _ => true) ma) := by
  refine pe_mono (pe_callB call_isX hg hm (by decide +kernel) (pa_cons ha (pa_cons (pe_bltn hgn hmn PyProof.Rows.Boot.«ValueError» (v := .ty "ValueError") rfl (by decide) (by decide)) pa_nil he2) he) (by decide) (by decide) he hpl) fun σ H Q h => ?_
  refine tX_imp (isx_read h) fun x H1 ⟨c, hc, ty, q⟩ => ?_
  exact ⟨x, .ty "ValueError", He.ga X.K c, .type "ValueError", true, rfl, .ty _, ty, Ex.kve c hc, q⟩
theorem pe_xk {te : TE} {e : Expr} (he : PE X e te) (hb : attributeBase e "value" X.env (eval e X.env) = eval e X.env := by rfl) :
    PE X (.Attribute e "value" pos) (fun σ H Q => te σ H fun x H1 => ∃ a C dx v, x = .ref a ∧ ExK X.K C ∧ H1 a = some (exk a C dx) ∧ H1 dx = some (.xd [("value", v)]) ∧ Q v H1) := by
  refine ⟨fun pins s σ H Q I h => ?_⟩
  refine attr_of hb (thn (he.run pins s σ H _ I h) fun u s1 hh => ?_)
  obtain ⟨x, H1, I1, rx, a, C, dx, v, ex, T, g1, g2, q⟩ := hh
  subst ex
  obtain rfl : u = Value.ref a := rx
  obtain ⟨o, od, J, mA, hr, hl⟩ := exk_inst I1 g1 g2
  obtain ⟨u, hu, ru⟩ := RelO.some_of (v := v) (o := mA "value") (by have := hr "value"; simpa using this)
  exact HandSPX.exc_get I1.kIn J T.xf.ga T.xf.gg T.xf.exC (PySem.W.findObj_own T.xf.hdC T.nov rfl (by rw [hl, hu])) (handed_of ru) ⟨v, H1, I1.tok _, ru, q⟩
theorem qval (ha : QE X W a ma) (hb : attributeBase a "value" X.env (eval a X.env) = eval a X.env := by rfl) : QE X W (.Attribute a "value" pos) (eVal ma) :=
  pe_mono (pe_xk ha hb) fun σ H Q h => val_read h
theorem qnewX {x : Str} {p : Pos} {k : Nat} {fd : FuncData} {cs : List Str} (Ex : ExcOk X.K X.mg cs) (hin : x ∈ cs)
    (F1 : FnOk X.prog X.w X.K X.mg X.base (L2N.CX X.prog X.w) k (He.fAd X.K iniP) fd ["self", "value"] (spI X.K)) (hr : Room (k + 1) X.A) (hb : Binds X.K fd ["self", "value"] []) (hg : Gl X x) (ha : QE X W a ma)
    (hdb : (x == ("__debug__" : Str)) = false := by decide) (he : starEach [a] X.env = (false, eval a X.env) :: starEach [] X.env := by rfl) (hpl : (backTo pos (starEach [] X.env)).any (·.1) = false := by rfl) :
    QE X W (.Call (.Name x p) [a] [] pos) (eNewX x ma) := by
  refine pe_mono (pe_newX (Ex.oex x hin) (Ex.ini x hin) Ex.ity F1 hr hb (fun _ _ _ _ _ _ _ ⟨_, _, _, _, _, _, _, _, _, _, _, _, w⟩ => w.elim) hg (Ex.glo x hin) (pa_cons ha pa_nil he) hdb he hpl) fun σ H Q h => ?_
  obtain ⟨e, F, R, h⟩ := h
  refine tX_imp (tX_bind (rel := fun σ => OdR X.K σ) R .refl h) fun y H1 ⟨r, e1, F1, R1, S1, O, h1⟩ => ?_
  cases r with
  | s i => exact h1.elim
  | b b => exact h1.elim
  | r t =>
    refine ⟨by simp, fun a ha => ⟨a, He.ga X.K x, y, rfl, Ex.oex x hin, Ex.nov x hin, upd_same, fun dx hdx ne => ⟨rfl, dx, [("value", y)], upd_same, ?_, ne, ?_⟩⟩⟩
    · rw [upd_ne ne, upd_same]
    · have hd : H1 dx = none := by rw [upd_ne ne] at hdx; exact hdx
      have eq : upd (upd (upd (upd (upd H1 a (exo a (He.ga X.K x) none)) dx (exd dx [("value", y)])) a (exo a (He.ga X.K x) (some dx))) dx (.xd [("value", y)])) a (exk a (He.ga X.K x) dx) = upd (upd H1 dx (.xd [("value", y)])) a (exk a (He.ga X.K x) dx) := by
        funext b
        by_cases hb : b = a
        · subst hb; rw [upd_same, upd_same]
        · rw [upd_ne hb, upd_ne hb]
          by_cases hba : b = dx
          · subst hba; rw [upd_same, upd_same]
          · rw [upd_ne hba, upd_ne hb, upd_ne hba, upd_ne hb, upd_ne hba]
      rw [eq]
      have R2 := laid_frz (o := .xd [("value", y)]) R1 hd
      have S2 := laid_frz_step (o := .xd [("value", y)]) R1 S1 hd
      have ha2 : upd H1 dx (.xd [("value", y)]) a = none := by rw [upd_ne (Ne.symm ne)]; exact ha
      have R3 := laid_frz (o := exk a (He.ga X.K x) dx) R2 ha2
      have S3 := laid_frz_step (o := exk a (He.ga X.K x) dx) R2 S2 ha2
      have f1 := sub_none R1 hd
      have f2 := sub_none R2 ha2
      have ff1 : ∀ b o, F1 b = some o → upd F1 dx (.xd [("value", y)]) b = some o := fun b o h => by rw [upd_ne (ne_of_none h f1)]; exact h
      have ff2 : ∀ b o, upd F1 dx (.xd [("value", y)]) b = some o → upd (upd F1 dx (.xd [("value", y)])) a (exk a (He.ga X.K x) dx) b = some o := fun b o h => by rw [upd_ne (ne_of_none h f2)]; exact h
      exact h1 _ _ _ R3 S3 (.exo (Ex.exk x hin) upd_same (ff2 _ _ upd_same) (dp_mono ff2 _ _ (dp_mono ff1 _ _ O)))
end
end Ev

set_option Elab.async false
set_option linter.all false
namespace Lw
open PySem PySem.Spec L2 Ev
noncomputable def b__law_deck : SemS := (sSeq (sSet 2 (eK (.int 0))) (sSeq (sIf (tb (eOp2 gLt (eVar 1) (eFn gLen (aCons (eVar 0) aNil)))) (sSet 2 (eOp2 gIx (eVar 0) (eVar 1))) sNil) (sSeq (sSet 3 (eOp2 gMod (eFn gInt (aCons (eOp2 gAdd (eOp2 gAdd (eVar 2) (eOp2 gMul (eK (.int 7919)) (eVar 1))) (eK (.int 104729))) aNil)) (eK (.int 2305843009213693951)))) (sSeq (sSet 3 (eOp2 gMod (eFn gInt (aCons (eOp2 gAdd (eOp2 gAdd (eOp2 gMul (eOp2 gMul (eVar 3) (eVar 3)) (eVar 3)) (eOp2 gMul (eK (.int 31)) (eVar 1))) (eK (.int 7))) aNil)) (eK (.int 2305843009213693951)))) (sSeq (sIf (tb (eOp2 gLt (eVar 2) (eOp2 gPow (eK (.int 10)) (eK (.int 18))))) (sRet (eLst (aCons (eK (.int 0)) (aCons (eVar 3) aNil)))) sNil) (sRet (eLst (aCons (eOp2 gSub (eVar 2) (eOp2 gPow (eK (.int 10)) (eK (.int 18)))) (aCons (eVar 3) aNil)))))))))
noncomputable def m__law_deck : FSem := runFn 4 b__law_deck
noncomputable def b__law_take : SemS := (sSeq (sIf (tb (eOp2 gGt (eOp2 gIx (eVar 0) (eK (.int 0))) (eK (.int 0)))) (sSeq (sSet 2 (eOp2 gMod (eFn gInt (aCons (eOp2 gIx (eVar 0) (eK (.int 0))) aNil)) (eVar 1))) (sSeq (sSetIx 0 (eK (.int 0)) (eOp2 gDiv (eOp2 gIx (eVar 0) (eK (.int 0))) (eVar 1))) (sRet (eVar 2)))) sNil) (sSeq (sSetIx 0 (eK (.int 1)) (eOp2 gMod (eFn gInt (aCons (eOp2 gAdd (eOp2 gMul (eOp2 gIx (eVar 0) (eK (.int 1))) (eK (.int 6364136223846793005))) (eK (.int 1442695040888963407))) aNil)) (eOp2 gPow (eK (.int 2)) (eK (.int 64))))) (sRet (eOp2 gMod (eOp2 gDiv (eOp2 gIx (eVar 0) (eK (.int 1))) (eOp2 gPow (eK (.int 2)) (eK (.int 17)))) (eVar 1)))))
noncomputable def m__law_take : FSem := runFn 3 b__law_take
noncomputable def x1__law_same (rec_ : FSem) : SemE := (eComp (iR1 (aCons (eFn gLen (aCons (eVar 1) aNil)) aNil)) (gN 2) (tNot (tb (eCall 2 rec_ (aCons (eOp2 gIx (eVar 0) (eVar 2)) (aCons (eOp2 gIx (eVar 1) (eVar 2)) aNil))))) (eVar 2) [2])
noncomputable def m__law_same : Nat → FSem
  | 0 => fun _ => .bad
  | fuel + 1 => runFn 3 (sSeq (sIf (tb (eIsi isTL (eVar 1))) (sSeq (sIf (tOr (tb (eOp2 (gEq not) (eIsi isTuple (eVar 0)) (eIsi isTuple (eVar 1)))) (tb (eOp2 (gEq not) (eIsi isList (eVar 0)) (eIsi isList (eVar 1))))) (sRet (eK (.bool false))) sNil) (sSeq (sIf (tb (eOp2 (gEq not) (eFn gLen (aCons (eVar 0) aNil)) (eFn gLen (aCons (eVar 1) aNil)))) (sRet (eK (.bool false))) sNil) (sRet (eOp2 (gEq id) (x1__law_same (m__law_same fuel)) (eLst aNil))))) sNil) (sSeq (sIf (tb (eOp2 (gIsN id) (eVar 1) (eK .none))) (sRet (eOp2 (gIsN id) (eVar 0) (eK .none))) sNil) (sSeq (sIf (tb (eIsi isStr (eVar 1))) (sRet (eAnd (eIsi isStr (eVar 0)) (eOp2 (gEq id) (eVar 0) (eVar 1)))) sNil) (sSeq (sIf (tOr (tb (eIsi isBool (eVar 1))) (tb (eIsi isBool (eVar 0)))) (sRet (eAnd (eIsi isBool (eVar 1)) (eAnd (eIsi isBool (eVar 0)) (eOp2 (gEq id) (eVar 0) (eVar 1))))) sNil) (sRet (eAnd (eIsi isInt (eVar 0)) (eOp2 (gEq id) (eVar 0) (eVar 1))))))))
noncomputable def b__law_raise_first : SemS := (sSeq (sIf (tb (eOp2 (gEq id) (eVar 0) (eK (.int 0)))) (sRaise "InvalidBook" (eVar 1)) sNil) (sSeq (sIf (tb (eOp2 (gEq id) (eVar 0) (eK (.int 1)))) (sRaise "InvalidKind" (eVar 1)) sNil) (sSeq (sIf (tb (eOp2 (gEq id) (eVar 0) (eK (.int 2)))) (sRaise "InvalidDepth" (eVar 1)) sNil) (sSeq (sIf (tb (eOp2 (gEq id) (eVar 0) (eK (.int 3)))) (sRaise "InvalidCell" (eVar 1)) sNil) (sSeq (sIf (tb (eOp2 (gEq id) (eVar 0) (eK (.int 4)))) (sRaise "InvalidNumber" (eVar 1)) sNil) (sSeq (sIf (tb (eOp2 (gEq id) (eVar 0) (eK (.int 5)))) (sRaise "InvalidBox" (eVar 1)) sNil) (sSeq (sIf (tb (eOp2 (gEq id) (eVar 0) (eK (.int 6)))) (sRaise "InvalidPosture" (eVar 1)) sNil) (sSeq (sIf (tb (eOp2 (gEq id) (eVar 0) (eK (.int 7)))) (sRaise "InvalidPair" (eVar 1)) sNil) (sRaise "InvalidField" (eVar 1))))))))))
noncomputable def m__law_raise_first : FSem := runFn 2 b__law_raise_first
noncomputable def b__law_raise_second : SemS := (sSeq (sIf (tb (eOp2 (gEq id) (eVar 0) (eK (.int 9)))) (sRaise "InvalidPicture" (eVar 1)) sNil) (sSeq (sIf (tb (eOp2 (gEq id) (eVar 0) (eK (.int 10)))) (sRaise "InvalidMake" (eVar 1)) sNil) (sSeq (sIf (tb (eOp2 (gEq id) (eVar 0) (eK (.int 11)))) (sRaise "InvalidStore" (eVar 1)) sNil) (sSeq (sIf (tb (eOp2 (gEq id) (eVar 0) (eK (.int 12)))) (sRaise "InvalidName" (eVar 1)) sNil) (sSeq (sIf (tb (eOp2 (gEq id) (eVar 0) (eK (.int 13)))) (sRaise "UnknownName" (eVar 1)) sNil) (sSeq (sIf (tb (eOp2 (gEq id) (eVar 0) (eK (.int 14)))) (sRaise "NothingToUndo" (eVar 1)) sNil) (sSeq (sIf (tb (eOp2 (gEq id) (eVar 0) (eK (.int 15)))) (sRaise "Unreadable" (eVar 1)) sNil) (sRaise "Unorderly" (eVar 1)))))))))
noncomputable def m__law_raise_second : FSem := runFn 2 b__law_raise_second
noncomputable def b__law_raise_named_first : SemS := (sSeq (sIf (tb (eOp2 (gEq id) (eVar 0) (eK (.int 0)))) (sRaise "InvalidBook" (eVar 1)) sNil) (sSeq (sIf (tb (eOp2 (gEq id) (eVar 0) (eK (.int 1)))) (sRaise "InvalidKind" (eVar 1)) sNil) (sSeq (sIf (tb (eOp2 (gEq id) (eVar 0) (eK (.int 2)))) (sRaise "InvalidDepth" (eVar 1)) sNil) (sSeq (sIf (tb (eOp2 (gEq id) (eVar 0) (eK (.int 3)))) (sRaise "InvalidCell" (eVar 1)) sNil) (sSeq (sIf (tb (eOp2 (gEq id) (eVar 0) (eK (.int 4)))) (sRaise "InvalidNumber" (eVar 1)) sNil) (sSeq (sIf (tb (eOp2 (gEq id) (eVar 0) (eK (.int 5)))) (sRaise "InvalidBox" (eVar 1)) sNil) (sSeq (sIf (tb (eOp2 (gEq id) (eVar 0) (eK (.int 6)))) (sRaise "InvalidPosture" (eVar 1)) sNil) (sSeq (sIf (tb (eOp2 (gEq id) (eVar 0) (eK (.int 7)))) (sRaise "InvalidPair" (eVar 1)) sNil) (sRaise "InvalidField" (eVar 1))))))))))
noncomputable def m__law_raise_named_first : FSem := runFn 2 b__law_raise_named_first
noncomputable def b__law_raise_named_second : SemS := (sSeq (sIf (tb (eOp2 (gEq id) (eVar 0) (eK (.int 9)))) (sRaise "InvalidPicture" (eVar 1)) sNil) (sSeq (sIf (tb (eOp2 (gEq id) (eVar 0) (eK (.int 10)))) (sRaise "InvalidMake" (eVar 1)) sNil) (sSeq (sIf (tb (eOp2 (gEq id) (eVar 0) (eK (.int 11)))) (sRaise "InvalidStore" (eVar 1)) sNil) (sSeq (sIf (tb (eOp2 (gEq id) (eVar 0) (eK (.int 12)))) (sRaise "InvalidName" (eVar 1)) sNil) (sSeq (sIf (tb (eOp2 (gEq id) (eVar 0) (eK (.int 13)))) (sRaise "UnknownName" (eVar 1)) sNil) (sSeq (sIf (tb (eOp2 (gEq id) (eVar 0) (eK (.int 14)))) (sRaise "NothingToUndo" (eVar 1)) sNil) (sSeq (sIf (tb (eOp2 (gEq id) (eVar 0) (eK (.int 15)))) (sRaise "Unreadable" (eVar 1)) sNil) (sRaise "Unorderly" (eVar 1)))))))))
noncomputable def m__law_raise_named_second : FSem := runFn 2 b__law_raise_named_second
noncomputable def b__law_raised : SemS := (sIf (tAnd (tb (eOp2 gLt (eVar 0) (eK (.int 9)))) (tb (eVar 2))) (sDrop (eCall 2 m__law_raise_named_first (aCons (eVar 0) (aCons (eVar 1) aNil)))) (sIf (tb (eOp2 gLt (eVar 0) (eK (.int 9)))) (sDrop (eCall 2 m__law_raise_first (aCons (eVar 0) (aCons (eVar 1) aNil)))) (sIf (tb (eVar 2)) (sDrop (eCall 2 m__law_raise_named_second (aCons (eVar 0) (aCons (eVar 1) aNil)))) (sDrop (eCall 2 m__law_raise_second (aCons (eVar 0) (aCons (eVar 1) aNil)))))))
noncomputable def m__law_raised : FSem := runFn 3 b__law_raised
noncomputable def b__law_kinds : SemS := (sSeq (sSet 1 (eLst (aCons (eIsx (["ThreadError", "InvalidBook", "InvalidKind", "InvalidDepth", "InvalidCell", "InvalidNumber", "InvalidBox", "InvalidPosture", "InvalidPair", "InvalidField", "InvalidPicture", "InvalidMake", "InvalidStore", "InvalidName", "UnknownName", "NothingToUndo", "Unreadable", "Unorderly"] : List Str) (fun c => subE c "InvalidBook") (eVar 0)) (aCons (eIsx (["ThreadError", "InvalidBook", "InvalidKind", "InvalidDepth", "InvalidCell", "InvalidNumber", "InvalidBox", "InvalidPosture", "InvalidPair", "InvalidField", "InvalidPicture", "InvalidMake", "InvalidStore", "InvalidName", "UnknownName", "NothingToUndo", "Unreadable", "Unorderly"] : List Str) (fun c => subE c "InvalidKind") (eVar 0)) (aCons (eIsx (["ThreadError", "InvalidBook", "InvalidKind", "InvalidDepth", "InvalidCell", "InvalidNumber", "InvalidBox", "InvalidPosture", "InvalidPair", "InvalidField", "InvalidPicture", "InvalidMake", "InvalidStore", "InvalidName", "UnknownName", "NothingToUndo", "Unreadable", "Unorderly"] : List Str) (fun c => subE c "InvalidDepth") (eVar 0)) aNil))))) (sSeq (sSet 1 (eOp2 gAdd (eVar 1) (eLst (aCons (eIsx (["ThreadError", "InvalidBook", "InvalidKind", "InvalidDepth", "InvalidCell", "InvalidNumber", "InvalidBox", "InvalidPosture", "InvalidPair", "InvalidField", "InvalidPicture", "InvalidMake", "InvalidStore", "InvalidName", "UnknownName", "NothingToUndo", "Unreadable", "Unorderly"] : List Str) (fun c => subE c "InvalidCell") (eVar 0)) (aCons (eIsx (["ThreadError", "InvalidBook", "InvalidKind", "InvalidDepth", "InvalidCell", "InvalidNumber", "InvalidBox", "InvalidPosture", "InvalidPair", "InvalidField", "InvalidPicture", "InvalidMake", "InvalidStore", "InvalidName", "UnknownName", "NothingToUndo", "Unreadable", "Unorderly"] : List Str) (fun c => subE c "InvalidNumber") (eVar 0)) (aCons (eIsx (["ThreadError", "InvalidBook", "InvalidKind", "InvalidDepth", "InvalidCell", "InvalidNumber", "InvalidBox", "InvalidPosture", "InvalidPair", "InvalidField", "InvalidPicture", "InvalidMake", "InvalidStore", "InvalidName", "UnknownName", "NothingToUndo", "Unreadable", "Unorderly"] : List Str) (fun c => subE c "InvalidBox") (eVar 0)) aNil)))))) (sSeq (sSet 1 (eOp2 gAdd (eVar 1) (eLst (aCons (eIsx (["ThreadError", "InvalidBook", "InvalidKind", "InvalidDepth", "InvalidCell", "InvalidNumber", "InvalidBox", "InvalidPosture", "InvalidPair", "InvalidField", "InvalidPicture", "InvalidMake", "InvalidStore", "InvalidName", "UnknownName", "NothingToUndo", "Unreadable", "Unorderly"] : List Str) (fun c => subE c "InvalidPosture") (eVar 0)) (aCons (eIsx (["ThreadError", "InvalidBook", "InvalidKind", "InvalidDepth", "InvalidCell", "InvalidNumber", "InvalidBox", "InvalidPosture", "InvalidPair", "InvalidField", "InvalidPicture", "InvalidMake", "InvalidStore", "InvalidName", "UnknownName", "NothingToUndo", "Unreadable", "Unorderly"] : List Str) (fun c => subE c "InvalidPair") (eVar 0)) (aCons (eIsx (["ThreadError", "InvalidBook", "InvalidKind", "InvalidDepth", "InvalidCell", "InvalidNumber", "InvalidBox", "InvalidPosture", "InvalidPair", "InvalidField", "InvalidPicture", "InvalidMake", "InvalidStore", "InvalidName", "UnknownName", "NothingToUndo", "Unreadable", "Unorderly"] : List Str) (fun c => subE c "InvalidField") (eVar 0)) aNil)))))) (sSeq (sSet 1 (eOp2 gAdd (eVar 1) (eLst (aCons (eIsx (["ThreadError", "InvalidBook", "InvalidKind", "InvalidDepth", "InvalidCell", "InvalidNumber", "InvalidBox", "InvalidPosture", "InvalidPair", "InvalidField", "InvalidPicture", "InvalidMake", "InvalidStore", "InvalidName", "UnknownName", "NothingToUndo", "Unreadable", "Unorderly"] : List Str) (fun c => subE c "InvalidPicture") (eVar 0)) (aCons (eIsx (["ThreadError", "InvalidBook", "InvalidKind", "InvalidDepth", "InvalidCell", "InvalidNumber", "InvalidBox", "InvalidPosture", "InvalidPair", "InvalidField", "InvalidPicture", "InvalidMake", "InvalidStore", "InvalidName", "UnknownName", "NothingToUndo", "Unreadable", "Unorderly"] : List Str) (fun c => subE c "InvalidMake") (eVar 0)) (aCons (eIsx (["ThreadError", "InvalidBook", "InvalidKind", "InvalidDepth", "InvalidCell", "InvalidNumber", "InvalidBox", "InvalidPosture", "InvalidPair", "InvalidField", "InvalidPicture", "InvalidMake", "InvalidStore", "InvalidName", "UnknownName", "NothingToUndo", "Unreadable", "Unorderly"] : List Str) (fun c => subE c "InvalidStore") (eVar 0)) aNil)))))) (sSeq (sSet 1 (eOp2 gAdd (eVar 1) (eLst (aCons (eIsx (["ThreadError", "InvalidBook", "InvalidKind", "InvalidDepth", "InvalidCell", "InvalidNumber", "InvalidBox", "InvalidPosture", "InvalidPair", "InvalidField", "InvalidPicture", "InvalidMake", "InvalidStore", "InvalidName", "UnknownName", "NothingToUndo", "Unreadable", "Unorderly"] : List Str) (fun c => subE c "InvalidName") (eVar 0)) (aCons (eIsx (["ThreadError", "InvalidBook", "InvalidKind", "InvalidDepth", "InvalidCell", "InvalidNumber", "InvalidBox", "InvalidPosture", "InvalidPair", "InvalidField", "InvalidPicture", "InvalidMake", "InvalidStore", "InvalidName", "UnknownName", "NothingToUndo", "Unreadable", "Unorderly"] : List Str) (fun c => subE c "UnknownName") (eVar 0)) (aCons (eIsx (["ThreadError", "InvalidBook", "InvalidKind", "InvalidDepth", "InvalidCell", "InvalidNumber", "InvalidBox", "InvalidPosture", "InvalidPair", "InvalidField", "InvalidPicture", "InvalidMake", "InvalidStore", "InvalidName", "UnknownName", "NothingToUndo", "Unreadable", "Unorderly"] : List Str) (fun c => subE c "NothingToUndo") (eVar 0)) aNil)))))) (sRet (eOp2 gAdd (eVar 1) (eLst (aCons (eIsx (["ThreadError", "InvalidBook", "InvalidKind", "InvalidDepth", "InvalidCell", "InvalidNumber", "InvalidBox", "InvalidPosture", "InvalidPair", "InvalidField", "InvalidPicture", "InvalidMake", "InvalidStore", "InvalidName", "UnknownName", "NothingToUndo", "Unreadable", "Unorderly"] : List Str) (fun c => subE c "Unreadable") (eVar 0)) (aCons (eIsx (["ThreadError", "InvalidBook", "InvalidKind", "InvalidDepth", "InvalidCell", "InvalidNumber", "InvalidBox", "InvalidPosture", "InvalidPair", "InvalidField", "InvalidPicture", "InvalidMake", "InvalidStore", "InvalidName", "UnknownName", "NothingToUndo", "Unreadable", "Unorderly"] : List Str) (fun c => subE c "Unorderly") (eVar 0)) aNil))))))))))
noncomputable def m__law_kinds : FSem := runFn 2 b__law_kinds
noncomputable def b__law_given : SemS := (sSeq (sSet 1 (eOp2 gSub (eCall 2 m__law_take (aCons (eVar 0) (aCons (eOp2 gPow (eK (.int 10)) (eK (.int 30))) aNil))) (eOp2 gPow (eK (.int 10)) (eK (.int 29))))) (sSeq (sSet 2 (eLst (aCons (eVar 1) (aCons (eCall 2 m__law_take (aCons (eVar 0) (aCons (eK (.int 9)) aNil))) (aCons (eK (.str "")) (aCons (eK (.str "a b")) (aCons (eK .none) (aCons (eK (.bool true)) (aCons (eK (.bool false)) (aCons (eTup aNil) (aCons (eTup (aCons (eVar 1) (aCons (eK (.int 1)) aNil))) (aCons (eLst (aCons (eVar 1) (aCons (eK (.str "x")) aNil))) (aCons (eTup (aCons (eTup (aCons (eK (.int 1)) (aCons (eK (.int 2)) aNil))) (aCons (eTup (aCons (eK (.str "a")) (aCons (eTup aNil) aNil))) aNil))) (aCons (eLst aNil) aNil)))))))))))))) (sSeq (sSet 2 (eOp2 gAdd (eVar 2) (eLst (aCons (eNeg (eK (.int 1))) (aCons (eK (.int 0)) aNil))))) (sRet (eOp2 gIx (eVar 2) (eCall 2 m__law_take (aCons (eVar 0) (aCons (eK (.int 14)) aNil))))))))
noncomputable def m__law_given : FSem := runFn 3 b__law_given
noncomputable def x1__law_right : SemE := (eComp (iR1 (aCons (eK (.int 17)) aNil)) (gN 5) tTrue (eOp2 (gEq id) (eVar 5) (eVar 0)) [5])
noncomputable def b__law_right : SemS := (sSeq (sSet 3 (eK .none)) (sSeq (sTryK (["ThreadError", "InvalidBook", "InvalidKind", "InvalidDepth", "InvalidCell", "InvalidNumber", "InvalidBox", "InvalidPosture", "InvalidPair", "InvalidField", "InvalidPicture", "InvalidMake", "InvalidStore", "InvalidName", "UnknownName", "NothingToUndo", "Unreadable", "Unorderly"] : List Str) (sDrop (eCall 3 m__law_raised (aCons (eVar 0) (aCons (eVar 1) (aCons (eVar 2) aNil))))) "ThreadError" 4 3) (sSeq (sIf (tOr (tb (eOp2 (gIsN id) (eVar 3) (eK .none))) (tNot (tb (eIsx (["ThreadError", "InvalidBook", "InvalidKind", "InvalidDepth", "InvalidCell", "InvalidNumber", "InvalidBox", "InvalidPosture", "InvalidPair", "InvalidField", "InvalidPicture", "InvalidMake", "InvalidStore", "InvalidName", "UnknownName", "NothingToUndo", "Unreadable", "Unorderly"] : List Str) (fun _ => true) (eVar 3))))) (sRet (eK (.bool false))) sNil) (sRet (eAnd (eOp2 (gEq id) (eCall 1 m__law_kinds (aCons (eVar 3) aNil)) x1__law_right) (eCall 2 (m__law_same 8) (aCons (eVal (eVar 3)) (aCons (eVar 1) aNil))))))))
noncomputable def m__law_right : FSem := runFn 6 b__law_right
noncomputable def b__law_base_right : SemS := (sSeq (sSet 1 (eK .none)) (sSeq (sTryK (["ThreadError", "InvalidBook", "InvalidKind", "InvalidDepth", "InvalidCell", "InvalidNumber", "InvalidBox", "InvalidPosture", "InvalidPair", "InvalidField", "InvalidPicture", "InvalidMake", "InvalidStore", "InvalidName", "UnknownName", "NothingToUndo", "Unreadable", "Unorderly"] : List Str) (sRaise "ThreadError" (eVar 0)) "ThreadError" 2 1) (sSeq (sIf (tOr (tNot (tb (eIsx (["ThreadError", "InvalidBook", "InvalidKind", "InvalidDepth", "InvalidCell", "InvalidNumber", "InvalidBox", "InvalidPosture", "InvalidPair", "InvalidField", "InvalidPicture", "InvalidMake", "InvalidStore", "InvalidName", "UnknownName", "NothingToUndo", "Unreadable", "Unorderly"] : List Str) (fun _ => true) (eVar 1)))) (tb (eOp2 (gIn id) (eK (.bool true)) (eCall 1 m__law_kinds (aCons (eVar 1) aNil))))) (sRet (eK (.bool false))) sNil) (sRet (eAnd (eCall 2 (m__law_same 8) (aCons (eVal (eVar 1)) (aCons (eVar 0) aNil))) (eCall 2 (m__law_same 8) (aCons (eVal (eNewX "ThreadError" (eVar 0))) (aCons (eVar 0) aNil))))))))
noncomputable def m__law_base_right : FSem := runFn 3 b__law_base_right
noncomputable def y1_law : SemS := (sSeq (sSet 4 (eCall 2 m__law_deck (aCons (eVar 0) (aCons (eVar 3) aNil)))) (sSeq (sPar [5, 6] (aCons (eCall 2 m__law_take (aCons (eVar 4) (aCons (eK (.int 17)) aNil))) (aCons (eOp2 (gEq id) (eCall 2 m__law_take (aCons (eVar 4) (aCons (eK (.int 2)) aNil))) (eK (.int 1))) aNil))) (sSeq (sPar [7, 8] (aCons (eCall 1 m__law_given (aCons (eVar 4) aNil)) (aCons (eCall 1 m__law_given (aCons (eVar 4) aNil)) aNil))) (sSeq (sIf (tOr (tNot (tb (eCall 3 m__law_right (aCons (eVar 5) (aCons (eVar 7) (aCons (eVar 6) aNil)))))) (tOr (tNot (tb (eCall 3 m__law_right (aCons (eVar 5) (aCons (eVar 8) (aCons (eNot (eVar 6)) aNil)))))) (tNot (tb (eCall 1 m__law_base_right (aCons (eVar 8) aNil)))))) (sRet (eK (.bool false))) sNil) (sSeq (sTryK (["ThreadError", "InvalidBook", "InvalidKind", "InvalidDepth", "InvalidCell", "InvalidNumber", "InvalidBox", "InvalidPosture", "InvalidPair", "InvalidField", "InvalidPicture", "InvalidMake", "InvalidStore", "InvalidName", "UnknownName", "NothingToUndo", "Unreadable", "Unorderly"] : List Str) (sDrop (eCall 3 m__law_raised (aCons (eVar 5) (aCons (eVar 7) (aCons (eVar 6) aNil))))) "ThreadError" 9 1) (sSeq (sTryK (["ThreadError", "InvalidBook", "InvalidKind", "InvalidDepth", "InvalidCell", "InvalidNumber", "InvalidBox", "InvalidPosture", "InvalidPair", "InvalidField", "InvalidPicture", "InvalidMake", "InvalidStore", "InvalidName", "UnknownName", "NothingToUndo", "Unreadable", "Unorderly"] : List Str) (sDrop (eCall 3 m__law_raised (aCons (eVar 5) (aCons (eVar 8) (aCons (eVar 6) aNil))))) "ThreadError" 9 2) (sIf (tOr (tNot (tb (eCall 2 (m__law_same 8) (aCons (eVal (eVar 1)) (aCons (eVar 7) aNil))))) (tNot (tb (eCall 2 (m__law_same 8) (aCons (eVal (eVar 2)) (aCons (eVar 8) aNil)))))) (sRet (eK (.bool false))) sNil)))))))
noncomputable def l1_law : SemS := (sFor (iR1 (aCons (eFn gMax2 (aCons (eK (.int 1)) (aCons (eFn gMin2 (aCons (eFn gLen (aCons (eVar 0) aNil)) (aCons (eK (.int 40)) aNil))) aNil))) aNil)) (gN 3) y1_law)
noncomputable def y2_law : SemS := (sIf (tOr (tNot (tb (eCall 3 m__law_right (aCons (eVar 5) (aCons (eVar 5) (aCons (eK (.bool false)) aNil)))))) (tNot (tb (eCall 3 m__law_right (aCons (eVar 5) (aCons (eK (.str "a")) (aCons (eK (.bool true)) aNil))))))) (sRet (eK (.bool false))) sNil)
noncomputable def l2_law : SemS := (sFor (iR1 (aCons (eK (.int 17)) aNil)) (gN 5) y2_law)
noncomputable def b_law : SemS := (sSeq (sPar [1, 2] (aCons (eK .none) (aCons (eK .none) aNil))) (sSeq l1_law (sSeq l2_law (sRet (eK (.bool true))))))
noncomputable def m_law : FSem := runFn 10 b_law
end Lw

set_option maxHeartbeats 4000000
namespace Lw
open PySem PySem.Spec PyProof.Rows L2 Ev Lz
theorem boot_len : bootBuiltins "len" = some (.builtin "len") := by decide +kernel
theorem boot_max : bootBuiltins "max" = some (.builtin "max") := by decide +kernel
theorem boot_min : bootBuiltins "min" = some (.builtin "min") := by decide +kernel
theorem boot_int : bootBuiltins "int" = some (.type "int") := by decide +kernel
theorem boot_tuple : bootBuiltins "tuple" = some (.type "tuple") := by decide +kernel
theorem boot_list : bootBuiltins "list" = some (.type "list") := by decide +kernel
theorem boot_bool : bootBuiltins "bool" = some (.type "bool") := by decide +kernel
theorem boot_str : bootBuiltins "str" = some (.type "str") := by decide +kernel
section
variable {P : Program} {w : World} {K : PySem.W.Frag} {h : Heap} {mg : Str → Option Value} {base : Heap}
theorem sc_ini : FnScope ["self", "value"] ["self", "value"] (defScope s_ini) := ⟨rfl, rfl, rfl, by decide +kernel, rfl, by decide +kernel, by decide +kernel⟩
theorem ok_ini (X0 : K.In h) (G : h.Ns mainGlobals mg) (c : He.SaysD fa fn K) : ∃ fd, FunD K "__init__" "ThreadError.__init__" (defArgs s_ini) (defBody s_ini) (defScope s_ini) [] [] (He.fAd K iniP) fd ∧ FnOk P w K mg base (L2N.CX P w) 1 (He.fAd K iniP) fd ["self", "value"] (spI K) := by
  obtain ⟨fd, F⟩ := c.def_ 13 (d := d_ini) rfl
  exact ⟨fd, F, ini_ok F sc_ini rfl rfl rfl⟩
abbrev N__law_deck : List Str := ["script", "k", "cell", "stir"]
theorem sc__law_deck : FnScope N__law_deck ["script", "k"] (defScope s__law_deck) := ⟨rfl, rfl, rfl, by decide +kernel, rfl, by decide +kernel, by decide +kernel⟩
theorem ok__law_deck (X0 : K.In h) (G : h.Ns mainGlobals mg) (c : He.SaysD fa fn K) (cx : exB (["ThreadError", "InvalidBook", "InvalidKind", "InvalidDepth", "InvalidCell", "InvalidNumber", "InvalidBox", "InvalidPosture", "InvalidPair", "InvalidField", "InvalidPicture", "InvalidMake", "InvalidStore", "InvalidName", "UnknownName", "NothingToUndo", "Unreadable", "Unorderly"] : List Str) K = true) : ∃ fd, FunD K "_law_deck" "_law_deck" (defArgs s__law_deck) (defBody s__law_deck) (defScope s__law_deck) [] [] (He.ga K "_law_deck") fd ∧ FnOk P w K mg base (L2N.CX P w) 1 (He.ga K "_law_deck") fd ["script", "k"] (spF K 2 m__law_deck) := by
  have f_int : mg "int" = none := He.free_ok X0 G (c.fact 15 rfl)
  have f_len : mg "len" = none := He.free_ok X0 G (c.fact 17 rfl)
  obtain ⟨fd, F⟩ := c.def_ 0 (d := d__law_deck) rfl
  refine ⟨fd, F, fn_ok (k := 0) F sc__law_deck fun cdv A outer s H E hr B => ?_⟩
  have hp : PassesOwn (model P w) _ _ _ := passes_of (X := cxOf (L2N.CX P w) P w K mg base N__law_deck "_law_deck" (defScope s__law_deck) (He.ga K "_law_deck") cdv A outer s H E) (K := fun e s'' => L2N.CX P w outer H s E e s'') rfl
  have tk := L2N.takes_of (X := cxOf (L2N.CX P w) P w K mg base N__law_deck "_law_deck" (defScope s__law_deck) (He.ga K "_law_deck") cdv A outer s H E) (E := E) rfl rfl rfl rfl
  have nd := sc__law_deck.nd
  exact (qcons (qset (i := 2) nd rfl (.inl rfl) qint) (qcons (qif (qtcmp op_lt does_lt (qvar (i := 1) rfl (.inl rfl)) (qfnB call_len_seq does_len rfl f_len boot_len (qa_cons (qvar (i := 0) rfl (.inl rfl)) qa_nil))) (qone (qset (i := 2) nd rfl (.inl rfl) (qix (qvar (i := 0) rfl (.inl rfl)) (qvar (i := 1) rfl (.inl rfl))))) qnil) (qcons (qset (i := 3) nd rfl (.inl rfl) (qop op_mod does_mod (qfnT call_int1 does_int rfl f_int boot_int (qa_cons (qop op_add4 does_add (qop op_add4 does_add (qvar (i := 2) rfl (.inl rfl)) (qop op_mulW does_mul qint (qvar (i := 1) rfl (.inl rfl)))) qint) qa_nil)) qint)) (qcons (qset (i := 3) nd rfl (.inl rfl) (qop op_mod does_mod (qfnT call_int1 does_int rfl f_int boot_int (qa_cons (qop op_add4 does_add (qop op_add4 does_add (qop op_mulW does_mul (qop op_mulW does_mul (qvar (i := 3) rfl (.inl rfl)) (qvar (i := 3) rfl (.inl rfl))) (qvar (i := 3) rfl (.inl rfl))) (qop op_mulW does_mul qint (qvar (i := 1) rfl (.inl rfl)))) qint) qa_nil)) qint)) (qcons (qif (qtcmp op_lt does_lt (qvar (i := 2) rfl (.inl rfl)) (qop op_pow does_pow qint qint)) (qone (qret (qlst (qa_cons qint (qa_cons (qvar (i := 3) rfl (.inl rfl)) qa_nil))))) qnil) (qone (qret (qlst (qa_cons (qop op_sub does_sub (qvar (i := 2) rfl (.inl rfl)) (qop op_pow does_pow qint qint)) (qa_cons (qvar (i := 3) rfl (.inl rfl)) qa_nil))))))))))
abbrev N__law_take : List Str := ["deck", "many", "taken"]
theorem sc__law_take : FnScope N__law_take ["deck", "many"] (defScope s__law_take) := ⟨rfl, rfl, rfl, by decide +kernel, rfl, by decide +kernel, by decide +kernel⟩
theorem ok__law_take (X0 : K.In h) (G : h.Ns mainGlobals mg) (c : He.SaysD fa fn K) (cx : exB (["ThreadError", "InvalidBook", "InvalidKind", "InvalidDepth", "InvalidCell", "InvalidNumber", "InvalidBox", "InvalidPosture", "InvalidPair", "InvalidField", "InvalidPicture", "InvalidMake", "InvalidStore", "InvalidName", "UnknownName", "NothingToUndo", "Unreadable", "Unorderly"] : List Str) K = true) : ∃ fd, FunD K "_law_take" "_law_take" (defArgs s__law_take) (defBody s__law_take) (defScope s__law_take) [] [] (He.ga K "_law_take") fd ∧ FnOk P w K mg base (L2N.CX P w) 1 (He.ga K "_law_take") fd ["deck", "many"] (spF K 2 m__law_take) := by
  have f_int : mg "int" = none := He.free_ok X0 G (c.fact 15 rfl)
  obtain ⟨fd, F⟩ := c.def_ 1 (d := d__law_take) rfl
  refine ⟨fd, F, fn_ok (k := 0) F sc__law_take fun cdv A outer s H E hr B => ?_⟩
  have hp : PassesOwn (model P w) _ _ _ := passes_of (X := cxOf (L2N.CX P w) P w K mg base N__law_take "_law_take" (defScope s__law_take) (He.ga K "_law_take") cdv A outer s H E) (K := fun e s'' => L2N.CX P w outer H s E e s'') rfl
  have tk := L2N.takes_of (X := cxOf (L2N.CX P w) P w K mg base N__law_take "_law_take" (defScope s__law_take) (He.ga K "_law_take") cdv A outer s H E) (E := E) rfl rfl rfl rfl
  have nd := sc__law_take.nd
  exact (qcons (qif (qtcmp op_gt does_gt (qix (qvar (i := 0) rfl (.inl rfl)) qint) qint) (qcons (qset (i := 2) nd rfl (.inl rfl) (qop op_mod does_mod (qfnT call_int1 does_int rfl f_int boot_int (qa_cons (qix (qvar (i := 0) rfl (.inl rfl)) qint) qa_nil)) (qvar (i := 1) rfl (.inl rfl)))) (qcons (qsetix (i := 0) rfl (.inl rfl) qint (qop op_fdivW does_div (qix (qvar (i := 0) rfl (.inl rfl)) qint) (qvar (i := 1) rfl (.inl rfl)))) (qone (qret (qvar (i := 2) rfl (.inl rfl)))))) qnil) (qcons (qsetix (i := 0) rfl (.inl rfl) qint (qop op_mod does_mod (qfnT call_int1 does_int rfl f_int boot_int (qa_cons (qop op_add4 does_add (qop op_mulW does_mul (qix (qvar (i := 0) rfl (.inl rfl)) qint) qint) qint) qa_nil)) (qop op_pow does_pow qint qint))) (qone (qret (qop op_mod does_mod (qop op_fdivW does_div (qix (qvar (i := 0) rfl (.inl rfl)) qint) (qop op_pow does_pow qint qint)) (qvar (i := 1) rfl (.inl rfl)))))))
abbrev N__law_same : List Str := ["found", "due", "k"]
theorem sc__law_same : FnScope N__law_same ["found", "due"] (defScope s__law_same) := ⟨rfl, rfl, rfl, by decide +kernel, rfl, by decide +kernel, by decide +kernel⟩
theorem ok__law_same (X0 : K.In h) (G : h.Ns mainGlobals mg) (c : He.SaysD fa fn K) (cx : exB (["ThreadError", "InvalidBook", "InvalidKind", "InvalidDepth", "InvalidCell", "InvalidNumber", "InvalidBox", "InvalidPosture", "InvalidPair", "InvalidField", "InvalidPicture", "InvalidMake", "InvalidStore", "InvalidName", "UnknownName", "NothingToUndo", "Unreadable", "Unorderly"] : List Str) K = true) : ∀ fuel : Nat, ∃ fd, FunD K "_law_same" "_law_same" (defArgs s__law_same) (defBody s__law_same) (defScope s__law_same) [] [] (He.ga K "_law_same") fd ∧ FnOk P w K mg base (L2N.CX P w) (1 + fuel) (He.ga K "_law_same") fd ["found", "due"] (spF K 2 (m__law_same fuel)) := by
  have f_bool : mg "bool" = none := He.free_ok X0 G (c.fact 14 rfl)
  have f_int : mg "int" = none := He.free_ok X0 G (c.fact 15 rfl)
  have f_isinstance : mg "isinstance" = none := He.free_ok X0 G (c.fact 16 rfl)
  have f_len : mg "len" = none := He.free_ok X0 G (c.fact 17 rfl)
  have f_list : mg "list" = none := He.free_ok X0 G (c.fact 18 rfl)
  have f_range : mg "range" = none := He.free_ok X0 G (c.fact 21 rfl)
  have f_str : mg "str" = none := He.free_ok X0 G (c.fact 22 rfl)
  have f_tuple : mg "tuple" = none := He.free_ok X0 G (c.fact 23 rfl)
  have g__law_same : mg "_law_same" = some (.ref (He.ga K "_law_same")) := He.glo_ok X0 G (c.fact 2 rfl)
  obtain ⟨fd, F__law_same⟩ := c.def_ 2 (d := d__law_same) rfl
  have F__law_same : FunD K "_law_same" "_law_same" (defArgs s__law_same) (defBody s__law_same) (defScope s__law_same) [] [] (He.ga K "_law_same") fd := F__law_same
  have b__law_same : Binds K fd ["found", "due"] [] := F__law_same.bindsN fun _ _ _ _ _ _ us hl => match us, hl with | [_, _], _ => rfl
  intro fuel
  refine ⟨fd, F__law_same, ?_⟩
  induction fuel with
  | zero =>
    refine (fn_ok (k := 0) (b := sNever) F__law_same sc__law_same fun cdv A outer s H E hr B => qnevers).imp fun vs H Q E z => ⟨z.1, ?_⟩
    obtain ⟨e, F, R, z⟩ := z.2
    exact z.elim
  | succ fuel ih =>
    have O__law_same := ih
    refine fn_ok (k := 1 + fuel) F__law_same sc__law_same fun cdv A outer s H E hr B => ?_
    have hp : PassesOwn (model P w) _ _ _ := passes_of (X := cxOf (L2N.CX P w) P w K mg base N__law_same "_law_same" (defScope s__law_same) (He.ga K "_law_same") cdv A outer s H E) (K := fun e s'' => L2N.CX P w outer H s E e s'') rfl
    have tk := L2N.takes_of (X := cxOf (L2N.CX P w) P w K mg base N__law_same "_law_same" (defScope s__law_same) (He.ga K "_law_same") cdv A outer s H E) (E := E) rfl rfl rfl rfl
    have nd := sc__law_same.nd
    exact (qcons (qif (qtval (qisi2 k_tl rfl f_isinstance rfl f_tuple boot_tuple rfl f_list boot_list (qvar (i := 1) rfl (.inr (.inl rfl))))) (qcons (qif (QW.t (qw_or (qtcmp (op_neD hr.units) does_ne (qisi k_tuple rfl f_isinstance rfl f_tuple boot_tuple (qvar (i := 0) rfl (.inr (.inl rfl)))) (qisi k_tuple rfl f_isinstance rfl f_tuple boot_tuple (qvar (i := 1) rfl (.inr (.inl rfl))))) (qw_or1 (qtcmp (op_neD hr.units) does_ne (qisi k_list rfl f_isinstance rfl f_list boot_list (qvar (i := 0) rfl (.inr (.inl rfl)))) (qisi k_list rfl f_isinstance rfl f_list boot_list (qvar (i := 1) rfl (.inr (.inl rfl)))))))) (qone (qret qbl)) qnil) (qcons (qif (qtcmp (op_neD hr.units) does_ne (qfnB call_len_seq does_len rfl f_len boot_len (qa_cons (qvar (i := 0) rfl (.inr (.inl rfl))) qa_nil)) (qfnB call_len_seq does_len rfl f_len boot_len (qa_cons (qvar (i := 1) rfl (.inr (.inl rfl))) qa_nil))) (qone (qret qbl)) qnil) (qone (qret (qcmp (op_eqD hr.units) does_eq (qcomp (vs := [2]) rfl nd (qir1 rfl f_range (qa_cons (qfnB call_len_seq does_len rfl f_len boot_len (qa_cons (qvar (i := 1) rfl (.inr (.inl rfl))) qa_nil)) qa_nil)) (blkOk_by (own := [("k", 2)]) (N := N__law_same) (sc := defScope s__law_same) (by decide +kernel)) (gok_n (by decide)) rfl (fun _ _ _ _ _ B => (qgn (i := 2) nd rfl (.inl rfl) (by decide))) (fun _ _ _ _ _ => (qtsone (qtnot (qtval (qcall O__law_same (hr.mono (by omega)) rfl g__law_same F__law_same.kp b__law_same (fun σ => L2N.passAt takesN0 σ) (qa_cons (qix (qvar (i := 0) rfl (.inr (.inl rfl))) (qvar (i := 2) rfl (.inl rfl))) (qa_cons (qix (qvar (i := 1) rfl (.inr (.inl rfl))) (qvar (i := 2) rfl (.inl rfl))) qa_nil))))))) (fun _ _ _ _ _ => (qvar (i := 2) rfl (.inl rfl)))) (qlst qa_nil)))))) qnil) (qcons (qif (qtcmp op_isN does_isN (qvar (i := 1) rfl (.inr (.inl rfl))) qnon) (qone (qret (qcmp op_isN does_isN (qvar (i := 0) rfl (.inr (.inl rfl))) qnon))) qnil) (qcons (qif (qtval (qisi k_str rfl f_isinstance rfl f_str boot_str (qvar (i := 1) rfl (.inr (.inl rfl))))) (qone (qret (qand (qisi k_str rfl f_isinstance rfl f_str boot_str (qvar (i := 0) rfl (.inr (.inl rfl)))) (qone_ (qcmp (op_eqD hr.units) does_eq (qvar (i := 0) rfl (.inr (.inl rfl))) (qvar (i := 1) rfl (.inr (.inl rfl)))))))) qnil) (qcons (qif (QW.t (qw_or (qtval (qisi k_bool rfl f_isinstance rfl f_bool boot_bool (qvar (i := 1) rfl (.inr (.inl rfl))))) (qw_or1 (qtval (qisi k_bool rfl f_isinstance rfl f_bool boot_bool (qvar (i := 0) rfl (.inr (.inl rfl)))))))) (qone (qret (qand (qisi k_bool rfl f_isinstance rfl f_bool boot_bool (qvar (i := 1) rfl (.inr (.inl rfl)))) (qand (qisi k_bool rfl f_isinstance rfl f_bool boot_bool (qvar (i := 0) rfl (.inr (.inl rfl)))) (qone_ (qcmp (op_eqD hr.units) does_eq (qvar (i := 0) rfl (.inr (.inl rfl))) (qvar (i := 1) rfl (.inr (.inl rfl))))))))) qnil) (qone (qret (qand (qisi k_int rfl f_isinstance rfl f_int boot_int (qvar (i := 0) rfl (.inr (.inl rfl)))) (qone_ (qcmp (op_eqD hr.units) does_eq (qvar (i := 0) rfl (.inr (.inl rfl))) (qvar (i := 1) rfl (.inr (.inl rfl))))))))))))
abbrev N__law_raise_first : List Str := ["which", "given"]
theorem sc__law_raise_first : FnScope N__law_raise_first ["which", "given"] (defScope s__law_raise_first) := ⟨rfl, rfl, rfl, by decide +kernel, rfl, by decide +kernel, by decide +kernel⟩
theorem ok__law_raise_first (X0 : K.In h) (G : h.Ns mainGlobals mg) (c : He.SaysD fa fn K) (cx : exB (["ThreadError", "InvalidBook", "InvalidKind", "InvalidDepth", "InvalidCell", "InvalidNumber", "InvalidBox", "InvalidPosture", "InvalidPair", "InvalidField", "InvalidPicture", "InvalidMake", "InvalidStore", "InvalidName", "UnknownName", "NothingToUndo", "Unreadable", "Unorderly"] : List Str) K = true) : ∃ fd, FunD K "_law_raise_first" "_law_raise_first" (defArgs s__law_raise_first) (defBody s__law_raise_first) (defScope s__law_raise_first) [] [] (He.ga K "_law_raise_first") fd ∧ FnOk P w K mg base (L2N.CX P w) 3 (He.ga K "_law_raise_first") fd ["which", "given"] (spF K 2 m__law_raise_first) := by
  have Ex : ExcOk K mg (["ThreadError", "InvalidBook", "InvalidKind", "InvalidDepth", "InvalidCell", "InvalidNumber", "InvalidBox", "InvalidPosture", "InvalidPair", "InvalidField", "InvalidPicture", "InvalidMake", "InvalidStore", "InvalidName", "UnknownName", "NothingToUndo", "Unreadable", "Unorderly"] : List Str) := exB_ok X0 G cx
  obtain ⟨fd_ini, F_ini, O_ini⟩ := ok_ini (P := P) (w := w) (base := base) X0 G c
  have k_ini : IniKw fd_ini := iniKw_of F_ini fun _ _ _ _ _ _ _ _ => rfl
  have b_ini : Binds K fd_ini ["self", "value"] [] := F_ini.bindsN fun _ _ _ _ _ _ us hl => match us, hl with | [_, _], _ => rfl
  obtain ⟨fd, F⟩ := c.def_ 3 (d := d__law_raise_first) rfl
  refine ⟨fd, F, fn_ok (k := 2) F sc__law_raise_first fun cdv A outer s H E hr B => ?_⟩
  have hp : PassesOwn (model P w) _ _ _ := passes_of (X := cxOf (L2N.CX P w) P w K mg base N__law_raise_first "_law_raise_first" (defScope s__law_raise_first) (He.ga K "_law_raise_first") cdv A outer s H E) (K := fun e s'' => L2N.CX P w outer H s E e s'') rfl
  have tk := L2N.takes_of (X := cxOf (L2N.CX P w) P w K mg base N__law_raise_first "_law_raise_first" (defScope s__law_raise_first) (He.ga K "_law_raise_first") cdv A outer s H E) (E := E) rfl rfl rfl rfl
  have nd := sc__law_raise_first.nd
  exact (qcons (qif (qtcmp (op_eqD hr.units) does_eq (qvar (i := 0) rfl (.inl rfl)) qint) (qone (qraise rfl tk Ex (by decide +kernel) O_ini (hr.mono (by decide)) b_ini rfl (qvar (i := 1) rfl (.inl rfl)))) qnil) (qcons (qif (qtcmp (op_eqD hr.units) does_eq (qvar (i := 0) rfl (.inl rfl)) qint) (qone (qraise rfl tk Ex (by decide +kernel) O_ini (hr.mono (by decide)) b_ini rfl (qvar (i := 1) rfl (.inl rfl)))) qnil) (qcons (qif (qtcmp (op_eqD hr.units) does_eq (qvar (i := 0) rfl (.inl rfl)) qint) (qone (qraise rfl tk Ex (by decide +kernel) O_ini (hr.mono (by decide)) b_ini rfl (qvar (i := 1) rfl (.inl rfl)))) qnil) (qcons (qif (qtcmp (op_eqD hr.units) does_eq (qvar (i := 0) rfl (.inl rfl)) qint) (qone (qraise rfl tk Ex (by decide +kernel) O_ini (hr.mono (by decide)) b_ini rfl (qvar (i := 1) rfl (.inl rfl)))) qnil) (qcons (qif (qtcmp (op_eqD hr.units) does_eq (qvar (i := 0) rfl (.inl rfl)) qint) (qone (qraise rfl tk Ex (by decide +kernel) O_ini (hr.mono (by decide)) b_ini rfl (qvar (i := 1) rfl (.inl rfl)))) qnil) (qcons (qif (qtcmp (op_eqD hr.units) does_eq (qvar (i := 0) rfl (.inl rfl)) qint) (qone (qraise rfl tk Ex (by decide +kernel) O_ini (hr.mono (by decide)) b_ini rfl (qvar (i := 1) rfl (.inl rfl)))) qnil) (qcons (qif (qtcmp (op_eqD hr.units) does_eq (qvar (i := 0) rfl (.inl rfl)) qint) (qone (qraise rfl tk Ex (by decide +kernel) O_ini (hr.mono (by decide)) b_ini rfl (qvar (i := 1) rfl (.inl rfl)))) qnil) (qcons (qif (qtcmp (op_eqD hr.units) does_eq (qvar (i := 0) rfl (.inl rfl)) qint) (qone (qraise rfl tk Ex (by decide +kernel) O_ini (hr.mono (by decide)) b_ini rfl (qvar (i := 1) rfl (.inl rfl)))) qnil) (qone (qraise rfl tk Ex (by decide +kernel) O_ini (hr.mono (by decide)) b_ini rfl (qvar (i := 1) rfl (.inl rfl))))))))))))
abbrev N__law_raise_second : List Str := ["which", "given"]
theorem sc__law_raise_second : FnScope N__law_raise_second ["which", "given"] (defScope s__law_raise_second) := ⟨rfl, rfl, rfl, by decide +kernel, rfl, by decide +kernel, by decide +kernel⟩
theorem ok__law_raise_second (X0 : K.In h) (G : h.Ns mainGlobals mg) (c : He.SaysD fa fn K) (cx : exB (["ThreadError", "InvalidBook", "InvalidKind", "InvalidDepth", "InvalidCell", "InvalidNumber", "InvalidBox", "InvalidPosture", "InvalidPair", "InvalidField", "InvalidPicture", "InvalidMake", "InvalidStore", "InvalidName", "UnknownName", "NothingToUndo", "Unreadable", "Unorderly"] : List Str) K = true) : ∃ fd, FunD K "_law_raise_second" "_law_raise_second" (defArgs s__law_raise_second) (defBody s__law_raise_second) (defScope s__law_raise_second) [] [] (He.ga K "_law_raise_second") fd ∧ FnOk P w K mg base (L2N.CX P w) 3 (He.ga K "_law_raise_second") fd ["which", "given"] (spF K 2 m__law_raise_second) := by
  have Ex : ExcOk K mg (["ThreadError", "InvalidBook", "InvalidKind", "InvalidDepth", "InvalidCell", "InvalidNumber", "InvalidBox", "InvalidPosture", "InvalidPair", "InvalidField", "InvalidPicture", "InvalidMake", "InvalidStore", "InvalidName", "UnknownName", "NothingToUndo", "Unreadable", "Unorderly"] : List Str) := exB_ok X0 G cx
  obtain ⟨fd_ini, F_ini, O_ini⟩ := ok_ini (P := P) (w := w) (base := base) X0 G c
  have k_ini : IniKw fd_ini := iniKw_of F_ini fun _ _ _ _ _ _ _ _ => rfl
  have b_ini : Binds K fd_ini ["self", "value"] [] := F_ini.bindsN fun _ _ _ _ _ _ us hl => match us, hl with | [_, _], _ => rfl
  obtain ⟨fd, F⟩ := c.def_ 4 (d := d__law_raise_second) rfl
  refine ⟨fd, F, fn_ok (k := 2) F sc__law_raise_second fun cdv A outer s H E hr B => ?_⟩
  have hp : PassesOwn (model P w) _ _ _ := passes_of (X := cxOf (L2N.CX P w) P w K mg base N__law_raise_second "_law_raise_second" (defScope s__law_raise_second) (He.ga K "_law_raise_second") cdv A outer s H E) (K := fun e s'' => L2N.CX P w outer H s E e s'') rfl
  have tk := L2N.takes_of (X := cxOf (L2N.CX P w) P w K mg base N__law_raise_second "_law_raise_second" (defScope s__law_raise_second) (He.ga K "_law_raise_second") cdv A outer s H E) (E := E) rfl rfl rfl rfl
  have nd := sc__law_raise_second.nd
  exact (qcons (qif (qtcmp (op_eqD hr.units) does_eq (qvar (i := 0) rfl (.inl rfl)) qint) (qone (qraise rfl tk Ex (by decide +kernel) O_ini (hr.mono (by decide)) b_ini rfl (qvar (i := 1) rfl (.inl rfl)))) qnil) (qcons (qif (qtcmp (op_eqD hr.units) does_eq (qvar (i := 0) rfl (.inl rfl)) qint) (qone (qraise rfl tk Ex (by decide +kernel) O_ini (hr.mono (by decide)) b_ini rfl (qvar (i := 1) rfl (.inl rfl)))) qnil) (qcons (qif (qtcmp (op_eqD hr.units) does_eq (qvar (i := 0) rfl (.inl rfl)) qint) (qone (qraise rfl tk Ex (by decide +kernel) O_ini (hr.mono (by decide)) b_ini rfl (qvar (i := 1) rfl (.inl rfl)))) qnil) (qcons (qif (qtcmp (op_eqD hr.units) does_eq (qvar (i := 0) rfl (.inl rfl)) qint) (qone (qraise rfl tk Ex (by decide +kernel) O_ini (hr.mono (by decide)) b_ini rfl (qvar (i := 1) rfl (.inl rfl)))) qnil) (qcons (qif (qtcmp (op_eqD hr.units) does_eq (qvar (i := 0) rfl (.inl rfl)) qint) (qone (qraise rfl tk Ex (by decide +kernel) O_ini (hr.mono (by decide)) b_ini rfl (qvar (i := 1) rfl (.inl rfl)))) qnil) (qcons (qif (qtcmp (op_eqD hr.units) does_eq (qvar (i := 0) rfl (.inl rfl)) qint) (qone (qraise rfl tk Ex (by decide +kernel) O_ini (hr.mono (by decide)) b_ini rfl (qvar (i := 1) rfl (.inl rfl)))) qnil) (qcons (qif (qtcmp (op_eqD hr.units) does_eq (qvar (i := 0) rfl (.inl rfl)) qint) (qone (qraise rfl tk Ex (by decide +kernel) O_ini (hr.mono (by decide)) b_ini rfl (qvar (i := 1) rfl (.inl rfl)))) qnil) (qone (qraise rfl tk Ex (by decide +kernel) O_ini (hr.mono (by decide)) b_ini rfl (qvar (i := 1) rfl (.inl rfl)))))))))))
abbrev N__law_raise_named_first : List Str := ["which", "given"]
theorem sc__law_raise_named_first : FnScope N__law_raise_named_first ["which", "given"] (defScope s__law_raise_named_first) := ⟨rfl, rfl, rfl, by decide +kernel, rfl, by decide +kernel, by decide +kernel⟩
theorem ok__law_raise_named_first (X0 : K.In h) (G : h.Ns mainGlobals mg) (c : He.SaysD fa fn K) (cx : exB (["ThreadError", "InvalidBook", "InvalidKind", "InvalidDepth", "InvalidCell", "InvalidNumber", "InvalidBox", "InvalidPosture", "InvalidPair", "InvalidField", "InvalidPicture", "InvalidMake", "InvalidStore", "InvalidName", "UnknownName", "NothingToUndo", "Unreadable", "Unorderly"] : List Str) K = true) : ∃ fd, FunD K "_law_raise_named_first" "_law_raise_named_first" (defArgs s__law_raise_named_first) (defBody s__law_raise_named_first) (defScope s__law_raise_named_first) [] [] (He.ga K "_law_raise_named_first") fd ∧ FnOk P w K mg base (L2N.CX P w) 3 (He.ga K "_law_raise_named_first") fd ["which", "given"] (spF K 2 m__law_raise_named_first) := by
  have Ex : ExcOk K mg (["ThreadError", "InvalidBook", "InvalidKind", "InvalidDepth", "InvalidCell", "InvalidNumber", "InvalidBox", "InvalidPosture", "InvalidPair", "InvalidField", "InvalidPicture", "InvalidMake", "InvalidStore", "InvalidName", "UnknownName", "NothingToUndo", "Unreadable", "Unorderly"] : List Str) := exB_ok X0 G cx
  obtain ⟨fd_ini, F_ini, O_ini⟩ := ok_ini (P := P) (w := w) (base := base) X0 G c
  have k_ini : IniKw fd_ini := iniKw_of F_ini fun _ _ _ _ _ _ _ _ => rfl
  have b_ini : Binds K fd_ini ["self", "value"] [] := F_ini.bindsN fun _ _ _ _ _ _ us hl => match us, hl with | [_, _], _ => rfl
  obtain ⟨fd, F⟩ := c.def_ 5 (d := d__law_raise_named_first) rfl
  refine ⟨fd, F, fn_ok (k := 2) F sc__law_raise_named_first fun cdv A outer s H E hr B => ?_⟩
  have hp : PassesOwn (model P w) _ _ _ := passes_of (X := cxOf (L2N.CX P w) P w K mg base N__law_raise_named_first "_law_raise_named_first" (defScope s__law_raise_named_first) (He.ga K "_law_raise_named_first") cdv A outer s H E) (K := fun e s'' => L2N.CX P w outer H s E e s'') rfl
  have tk := L2N.takes_of (X := cxOf (L2N.CX P w) P w K mg base N__law_raise_named_first "_law_raise_named_first" (defScope s__law_raise_named_first) (He.ga K "_law_raise_named_first") cdv A outer s H E) (E := E) rfl rfl rfl rfl
  have nd := sc__law_raise_named_first.nd
  exact (qcons (qif (qtcmp (op_eqD hr.units) does_eq (qvar (i := 0) rfl (.inl rfl)) qint) (qone (qraiseK rfl tk Ex (by decide +kernel) O_ini (hr.mono (by decide)) k_ini rfl (qvar (i := 1) rfl (.inl rfl)))) qnil) (qcons (qif (qtcmp (op_eqD hr.units) does_eq (qvar (i := 0) rfl (.inl rfl)) qint) (qone (qraiseK rfl tk Ex (by decide +kernel) O_ini (hr.mono (by decide)) k_ini rfl (qvar (i := 1) rfl (.inl rfl)))) qnil) (qcons (qif (qtcmp (op_eqD hr.units) does_eq (qvar (i := 0) rfl (.inl rfl)) qint) (qone (qraiseK rfl tk Ex (by decide +kernel) O_ini (hr.mono (by decide)) k_ini rfl (qvar (i := 1) rfl (.inl rfl)))) qnil) (qcons (qif (qtcmp (op_eqD hr.units) does_eq (qvar (i := 0) rfl (.inl rfl)) qint) (qone (qraiseK rfl tk Ex (by decide +kernel) O_ini (hr.mono (by decide)) k_ini rfl (qvar (i := 1) rfl (.inl rfl)))) qnil) (qcons (qif (qtcmp (op_eqD hr.units) does_eq (qvar (i := 0) rfl (.inl rfl)) qint) (qone (qraiseK rfl tk Ex (by decide +kernel) O_ini (hr.mono (by decide)) k_ini rfl (qvar (i := 1) rfl (.inl rfl)))) qnil) (qcons (qif (qtcmp (op_eqD hr.units) does_eq (qvar (i := 0) rfl (.inl rfl)) qint) (qone (qraiseK rfl tk Ex (by decide +kernel) O_ini (hr.mono (by decide)) k_ini rfl (qvar (i := 1) rfl (.inl rfl)))) qnil) (qcons (qif (qtcmp (op_eqD hr.units) does_eq (qvar (i := 0) rfl (.inl rfl)) qint) (qone (qraiseK rfl tk Ex (by decide +kernel) O_ini (hr.mono (by decide)) k_ini rfl (qvar (i := 1) rfl (.inl rfl)))) qnil) (qcons (qif (qtcmp (op_eqD hr.units) does_eq (qvar (i := 0) rfl (.inl rfl)) qint) (qone (qraiseK rfl tk Ex (by decide +kernel) O_ini (hr.mono (by decide)) k_ini rfl (qvar (i := 1) rfl (.inl rfl)))) qnil) (qone (qraiseK rfl tk Ex (by decide +kernel) O_ini (hr.mono (by decide)) k_ini rfl (qvar (i := 1) rfl (.inl rfl))))))))))))
abbrev N__law_raise_named_second : List Str := ["which", "given"]
theorem sc__law_raise_named_second : FnScope N__law_raise_named_second ["which", "given"] (defScope s__law_raise_named_second) := ⟨rfl, rfl, rfl, by decide +kernel, rfl, by decide +kernel, by decide +kernel⟩
theorem ok__law_raise_named_second (X0 : K.In h) (G : h.Ns mainGlobals mg) (c : He.SaysD fa fn K) (cx : exB (["ThreadError", "InvalidBook", "InvalidKind", "InvalidDepth", "InvalidCell", "InvalidNumber", "InvalidBox", "InvalidPosture", "InvalidPair", "InvalidField", "InvalidPicture", "InvalidMake", "InvalidStore", "InvalidName", "UnknownName", "NothingToUndo", "Unreadable", "Unorderly"] : List Str) K = true) : ∃ fd, FunD K "_law_raise_named_second" "_law_raise_named_second" (defArgs s__law_raise_named_second) (defBody s__law_raise_named_second) (defScope s__law_raise_named_second) [] [] (He.ga K "_law_raise_named_second") fd ∧ FnOk P w K mg base (L2N.CX P w) 3 (He.ga K "_law_raise_named_second") fd ["which", "given"] (spF K 2 m__law_raise_named_second) := by
  have Ex : ExcOk K mg (["ThreadError", "InvalidBook", "InvalidKind", "InvalidDepth", "InvalidCell", "InvalidNumber", "InvalidBox", "InvalidPosture", "InvalidPair", "InvalidField", "InvalidPicture", "InvalidMake", "InvalidStore", "InvalidName", "UnknownName", "NothingToUndo", "Unreadable", "Unorderly"] : List Str) := exB_ok X0 G cx
  obtain ⟨fd_ini, F_ini, O_ini⟩ := ok_ini (P := P) (w := w) (base := base) X0 G c
  have k_ini : IniKw fd_ini := iniKw_of F_ini fun _ _ _ _ _ _ _ _ => rfl
  have b_ini : Binds K fd_ini ["self", "value"] [] := F_ini.bindsN fun _ _ _ _ _ _ us hl => match us, hl with | [_, _], _ => rfl
  obtain ⟨fd, F⟩ := c.def_ 6 (d := d__law_raise_named_second) rfl
  refine ⟨fd, F, fn_ok (k := 2) F sc__law_raise_named_second fun cdv A outer s H E hr B => ?_⟩
  have hp : PassesOwn (model P w) _ _ _ := passes_of (X := cxOf (L2N.CX P w) P w K mg base N__law_raise_named_second "_law_raise_named_second" (defScope s__law_raise_named_second) (He.ga K "_law_raise_named_second") cdv A outer s H E) (K := fun e s'' => L2N.CX P w outer H s E e s'') rfl
  have tk := L2N.takes_of (X := cxOf (L2N.CX P w) P w K mg base N__law_raise_named_second "_law_raise_named_second" (defScope s__law_raise_named_second) (He.ga K "_law_raise_named_second") cdv A outer s H E) (E := E) rfl rfl rfl rfl
  have nd := sc__law_raise_named_second.nd
  exact (qcons (qif (qtcmp (op_eqD hr.units) does_eq (qvar (i := 0) rfl (.inl rfl)) qint) (qone (qraiseK rfl tk Ex (by decide +kernel) O_ini (hr.mono (by decide)) k_ini rfl (qvar (i := 1) rfl (.inl rfl)))) qnil) (qcons (qif (qtcmp (op_eqD hr.units) does_eq (qvar (i := 0) rfl (.inl rfl)) qint) (qone (qraiseK rfl tk Ex (by decide +kernel) O_ini (hr.mono (by decide)) k_ini rfl (qvar (i := 1) rfl (.inl rfl)))) qnil) (qcons (qif (qtcmp (op_eqD hr.units) does_eq (qvar (i := 0) rfl (.inl rfl)) qint) (qone (qraiseK rfl tk Ex (by decide +kernel) O_ini (hr.mono (by decide)) k_ini rfl (qvar (i := 1) rfl (.inl rfl)))) qnil) (qcons (qif (qtcmp (op_eqD hr.units) does_eq (qvar (i := 0) rfl (.inl rfl)) qint) (qone (qraiseK rfl tk Ex (by decide +kernel) O_ini (hr.mono (by decide)) k_ini rfl (qvar (i := 1) rfl (.inl rfl)))) qnil) (qcons (qif (qtcmp (op_eqD hr.units) does_eq (qvar (i := 0) rfl (.inl rfl)) qint) (qone (qraiseK rfl tk Ex (by decide +kernel) O_ini (hr.mono (by decide)) k_ini rfl (qvar (i := 1) rfl (.inl rfl)))) qnil) (qcons (qif (qtcmp (op_eqD hr.units) does_eq (qvar (i := 0) rfl (.inl rfl)) qint) (qone (qraiseK rfl tk Ex (by decide +kernel) O_ini (hr.mono (by decide)) k_ini rfl (qvar (i := 1) rfl (.inl rfl)))) qnil) (qcons (qif (qtcmp (op_eqD hr.units) does_eq (qvar (i := 0) rfl (.inl rfl)) qint) (qone (qraiseK rfl tk Ex (by decide +kernel) O_ini (hr.mono (by decide)) k_ini rfl (qvar (i := 1) rfl (.inl rfl)))) qnil) (qone (qraiseK rfl tk Ex (by decide +kernel) O_ini (hr.mono (by decide)) k_ini rfl (qvar (i := 1) rfl (.inl rfl)))))))))))
abbrev N__law_raised : List Str := ["which", "given", "named"]
theorem sc__law_raised : FnScope N__law_raised ["which", "given", "named"] (defScope s__law_raised) := ⟨rfl, rfl, rfl, by decide +kernel, rfl, by decide +kernel, by decide +kernel⟩
theorem ok__law_raised (X0 : K.In h) (G : h.Ns mainGlobals mg) (c : He.SaysD fa fn K) (cx : exB (["ThreadError", "InvalidBook", "InvalidKind", "InvalidDepth", "InvalidCell", "InvalidNumber", "InvalidBox", "InvalidPosture", "InvalidPair", "InvalidField", "InvalidPicture", "InvalidMake", "InvalidStore", "InvalidName", "UnknownName", "NothingToUndo", "Unreadable", "Unorderly"] : List Str) K = true) : ∃ fd, FunD K "_law_raised" "_law_raised" (defArgs s__law_raised) (defBody s__law_raised) (defScope s__law_raised) [] [] (He.ga K "_law_raised") fd ∧ FnOk P w K mg base (L2N.CX P w) 4 (He.ga K "_law_raised") fd ["which", "given", "named"] (spF K 3 m__law_raised) := by
  obtain ⟨fd__law_raise_named_first, F__law_raise_named_first, O__law_raise_named_first⟩ := ok__law_raise_named_first (P := P) (w := w) (base := base) X0 G c cx
  have b__law_raise_named_first : Binds K fd__law_raise_named_first ["which", "given"] [] := F__law_raise_named_first.bindsN fun _ _ _ _ _ _ us hl => match us, hl with | [_, _], _ => rfl
  have g__law_raise_named_first : mg "_law_raise_named_first" = some (.ref (He.ga K "_law_raise_named_first")) := He.glo_ok X0 G (c.fact 5 rfl)
  obtain ⟨fd__law_raise_first, F__law_raise_first, O__law_raise_first⟩ := ok__law_raise_first (P := P) (w := w) (base := base) X0 G c cx
  have b__law_raise_first : Binds K fd__law_raise_first ["which", "given"] [] := F__law_raise_first.bindsN fun _ _ _ _ _ _ us hl => match us, hl with | [_, _], _ => rfl
  have g__law_raise_first : mg "_law_raise_first" = some (.ref (He.ga K "_law_raise_first")) := He.glo_ok X0 G (c.fact 3 rfl)
  obtain ⟨fd__law_raise_named_second, F__law_raise_named_second, O__law_raise_named_second⟩ := ok__law_raise_named_second (P := P) (w := w) (base := base) X0 G c cx
  have b__law_raise_named_second : Binds K fd__law_raise_named_second ["which", "given"] [] := F__law_raise_named_second.bindsN fun _ _ _ _ _ _ us hl => match us, hl with | [_, _], _ => rfl
  have g__law_raise_named_second : mg "_law_raise_named_second" = some (.ref (He.ga K "_law_raise_named_second")) := He.glo_ok X0 G (c.fact 6 rfl)
  obtain ⟨fd__law_raise_second, F__law_raise_second, O__law_raise_second⟩ := ok__law_raise_second (P := P) (w := w) (base := base) X0 G c cx
  have b__law_raise_second : Binds K fd__law_raise_second ["which", "given"] [] := F__law_raise_second.bindsN fun _ _ _ _ _ _ us hl => match us, hl with | [_, _], _ => rfl
  have g__law_raise_second : mg "_law_raise_second" = some (.ref (He.ga K "_law_raise_second")) := He.glo_ok X0 G (c.fact 4 rfl)
  obtain ⟨fd, F⟩ := c.def_ 7 (d := d__law_raised) rfl
  refine ⟨fd, F, fn_ok (k := 3) F sc__law_raised fun cdv A outer s H E hr B => ?_⟩
  have hp : PassesOwn (model P w) _ _ _ := passes_of (X := cxOf (L2N.CX P w) P w K mg base N__law_raised "_law_raised" (defScope s__law_raised) (He.ga K "_law_raised") cdv A outer s H E) (K := fun e s'' => L2N.CX P w outer H s E e s'') rfl
  have tk := L2N.takes_of (X := cxOf (L2N.CX P w) P w K mg base N__law_raised "_law_raised" (defScope s__law_raised) (He.ga K "_law_raised") cdv A outer s H E) (E := E) rfl rfl rfl rfl
  have nd := sc__law_raised.nd
  exact (qone (qif (QW.t (qw_and (qtcmp op_lt does_lt (qvar (i := 0) rfl (.inl rfl)) qint) (qw_and1 (qtval (qvar (i := 2) rfl (.inl rfl)))))) (qone (qexpr (qcall O__law_raise_named_first (hr.mono (by decide)) rfl g__law_raise_named_first F__law_raise_named_first.kp b__law_raise_named_first (fun σ => L2N.passAt tk σ) (qa_cons (qvar (i := 0) rfl (.inl rfl)) (qa_cons (qvar (i := 1) rfl (.inl rfl)) qa_nil))))) (qone (qif (qtcmp op_lt does_lt (qvar (i := 0) rfl (.inl rfl)) qint) (qone (qexpr (qcall O__law_raise_first (hr.mono (by decide)) rfl g__law_raise_first F__law_raise_first.kp b__law_raise_first (fun σ => L2N.passAt tk σ) (qa_cons (qvar (i := 0) rfl (.inl rfl)) (qa_cons (qvar (i := 1) rfl (.inl rfl)) qa_nil))))) (qone (qif (qtval (qvar (i := 2) rfl (.inl rfl))) (qone (qexpr (qcall O__law_raise_named_second (hr.mono (by decide)) rfl g__law_raise_named_second F__law_raise_named_second.kp b__law_raise_named_second (fun σ => L2N.passAt tk σ) (qa_cons (qvar (i := 0) rfl (.inl rfl)) (qa_cons (qvar (i := 1) rfl (.inl rfl)) qa_nil))))) (qone (qexpr (qcall O__law_raise_second (hr.mono (by decide)) rfl g__law_raise_second F__law_raise_second.kp b__law_raise_second (fun σ => L2N.passAt tk σ) (qa_cons (qvar (i := 0) rfl (.inl rfl)) (qa_cons (qvar (i := 1) rfl (.inl rfl)) qa_nil)))))))))))
abbrev N__law_kinds : List Str := ["e", "found"]
theorem sc__law_kinds : FnScope N__law_kinds ["e"] (defScope s__law_kinds) := ⟨rfl, rfl, rfl, by decide +kernel, rfl, by decide +kernel, by decide +kernel⟩
theorem ok__law_kinds (X0 : K.In h) (G : h.Ns mainGlobals mg) (c : He.SaysD fa fn K) (cx : exB (["ThreadError", "InvalidBook", "InvalidKind", "InvalidDepth", "InvalidCell", "InvalidNumber", "InvalidBox", "InvalidPosture", "InvalidPair", "InvalidField", "InvalidPicture", "InvalidMake", "InvalidStore", "InvalidName", "UnknownName", "NothingToUndo", "Unreadable", "Unorderly"] : List Str) K = true) : ∃ fd, FunD K "_law_kinds" "_law_kinds" (defArgs s__law_kinds) (defBody s__law_kinds) (defScope s__law_kinds) [] [] (He.ga K "_law_kinds") fd ∧ FnOk P w K mg base (L2N.CX P w) 1 (He.ga K "_law_kinds") fd ["e"] (spF K 1 m__law_kinds) := by
  have Ex : ExcOk K mg (["ThreadError", "InvalidBook", "InvalidKind", "InvalidDepth", "InvalidCell", "InvalidNumber", "InvalidBox", "InvalidPosture", "InvalidPair", "InvalidField", "InvalidPicture", "InvalidMake", "InvalidStore", "InvalidName", "UnknownName", "NothingToUndo", "Unreadable", "Unorderly"] : List Str) := exB_ok X0 G cx
  have f_isinstance : mg "isinstance" = none := He.free_ok X0 G (c.fact 16 rfl)
  obtain ⟨fd, F⟩ := c.def_ 8 (d := d__law_kinds) rfl
  refine ⟨fd, F, fn_ok (k := 0) F sc__law_kinds fun cdv A outer s H E hr B => ?_⟩
  have hp : PassesOwn (model P w) _ _ _ := passes_of (X := cxOf (L2N.CX P w) P w K mg base N__law_kinds "_law_kinds" (defScope s__law_kinds) (He.ga K "_law_kinds") cdv A outer s H E) (K := fun e s'' => L2N.CX P w outer H s E e s'') rfl
  have tk := L2N.takes_of (X := cxOf (L2N.CX P w) P w K mg base N__law_kinds "_law_kinds" (defScope s__law_kinds) (He.ga K "_law_kinds") cdv A outer s H E) (E := E) rfl rfl rfl rfl
  have nd := sc__law_kinds.nd
  exact (qcons (qset (i := 1) nd rfl (.inl rfl) (qlst (qa_cons (qisxC Ex (by decide +kernel) rfl f_isinstance rfl (qvar (i := 0) rfl (.inl rfl))) (qa_cons (qisxC Ex (by decide +kernel) rfl f_isinstance rfl (qvar (i := 0) rfl (.inl rfl))) (qa_cons (qisxC Ex (by decide +kernel) rfl f_isinstance rfl (qvar (i := 0) rfl (.inl rfl))) qa_nil))))) (qcons (qset (i := 1) nd rfl (.inl rfl) (qop op_add4 does_add (qvar (i := 1) rfl (.inl rfl)) (qlst (qa_cons (qisxC Ex (by decide +kernel) rfl f_isinstance rfl (qvar (i := 0) rfl (.inl rfl))) (qa_cons (qisxC Ex (by decide +kernel) rfl f_isinstance rfl (qvar (i := 0) rfl (.inl rfl))) (qa_cons (qisxC Ex (by decide +kernel) rfl f_isinstance rfl (qvar (i := 0) rfl (.inl rfl))) qa_nil)))))) (qcons (qset (i := 1) nd rfl (.inl rfl) (qop op_add4 does_add (qvar (i := 1) rfl (.inl rfl)) (qlst (qa_cons (qisxC Ex (by decide +kernel) rfl f_isinstance rfl (qvar (i := 0) rfl (.inl rfl))) (qa_cons (qisxC Ex (by decide +kernel) rfl f_isinstance rfl (qvar (i := 0) rfl (.inl rfl))) (qa_cons (qisxC Ex (by decide +kernel) rfl f_isinstance rfl (qvar (i := 0) rfl (.inl rfl))) qa_nil)))))) (qcons (qset (i := 1) nd rfl (.inl rfl) (qop op_add4 does_add (qvar (i := 1) rfl (.inl rfl)) (qlst (qa_cons (qisxC Ex (by decide +kernel) rfl f_isinstance rfl (qvar (i := 0) rfl (.inl rfl))) (qa_cons (qisxC Ex (by decide +kernel) rfl f_isinstance rfl (qvar (i := 0) rfl (.inl rfl))) (qa_cons (qisxC Ex (by decide +kernel) rfl f_isinstance rfl (qvar (i := 0) rfl (.inl rfl))) qa_nil)))))) (qcons (qset (i := 1) nd rfl (.inl rfl) (qop op_add4 does_add (qvar (i := 1) rfl (.inl rfl)) (qlst (qa_cons (qisxC Ex (by decide +kernel) rfl f_isinstance rfl (qvar (i := 0) rfl (.inl rfl))) (qa_cons (qisxC Ex (by decide +kernel) rfl f_isinstance rfl (qvar (i := 0) rfl (.inl rfl))) (qa_cons (qisxC Ex (by decide +kernel) rfl f_isinstance rfl (qvar (i := 0) rfl (.inl rfl))) qa_nil)))))) (qone (qret (qop op_add4 does_add (qvar (i := 1) rfl (.inl rfl)) (qlst (qa_cons (qisxC Ex (by decide +kernel) rfl f_isinstance rfl (qvar (i := 0) rfl (.inl rfl))) (qa_cons (qisxC Ex (by decide +kernel) rfl f_isinstance rfl (qvar (i := 0) rfl (.inl rfl))) qa_nil)))))))))))
abbrev N__law_given : List Str := ["deck", "far", "some"]
theorem sc__law_given : FnScope N__law_given ["deck"] (defScope s__law_given) := ⟨rfl, rfl, rfl, by decide +kernel, rfl, by decide +kernel, by decide +kernel⟩
theorem ok__law_given (X0 : K.In h) (G : h.Ns mainGlobals mg) (c : He.SaysD fa fn K) (cx : exB (["ThreadError", "InvalidBook", "InvalidKind", "InvalidDepth", "InvalidCell", "InvalidNumber", "InvalidBox", "InvalidPosture", "InvalidPair", "InvalidField", "InvalidPicture", "InvalidMake", "InvalidStore", "InvalidName", "UnknownName", "NothingToUndo", "Unreadable", "Unorderly"] : List Str) K = true) : ∃ fd, FunD K "_law_given" "_law_given" (defArgs s__law_given) (defBody s__law_given) (defScope s__law_given) [] [] (He.ga K "_law_given") fd ∧ FnOk P w K mg base (L2N.CX P w) 2 (He.ga K "_law_given") fd ["deck"] (spF K 1 m__law_given) := by
  obtain ⟨fd__law_take, F__law_take, O__law_take⟩ := ok__law_take (P := P) (w := w) (base := base) X0 G c cx
  have b__law_take : Binds K fd__law_take ["deck", "many"] [] := F__law_take.bindsN fun _ _ _ _ _ _ us hl => match us, hl with | [_, _], _ => rfl
  have g__law_take : mg "_law_take" = some (.ref (He.ga K "_law_take")) := He.glo_ok X0 G (c.fact 1 rfl)
  obtain ⟨fd, F⟩ := c.def_ 9 (d := d__law_given) rfl
  refine ⟨fd, F, fn_ok (k := 1) F sc__law_given fun cdv A outer s H E hr B => ?_⟩
  have hp : PassesOwn (model P w) _ _ _ := passes_of (X := cxOf (L2N.CX P w) P w K mg base N__law_given "_law_given" (defScope s__law_given) (He.ga K "_law_given") cdv A outer s H E) (K := fun e s'' => L2N.CX P w outer H s E e s'') rfl
  have tk := L2N.takes_of (X := cxOf (L2N.CX P w) P w K mg base N__law_given "_law_given" (defScope s__law_given) (He.ga K "_law_given") cdv A outer s H E) (E := E) rfl rfl rfl rfl
  have nd := sc__law_given.nd
  exact (qcons (qset (i := 1) nd rfl (.inl rfl) (qop op_sub does_sub (qcall O__law_take (hr.mono (by decide)) rfl g__law_take F__law_take.kp b__law_take (fun σ => L2N.passAt tk σ) (qa_cons (qvar (i := 0) rfl (.inl rfl)) (qa_cons (qop op_pow does_pow qint qint) qa_nil))) (qop op_pow does_pow qint qint))) (qcons (qset (i := 2) nd rfl (.inl rfl) (qlst (qa_cons (qvar (i := 1) rfl (.inl rfl)) (qa_cons (qcall O__law_take (hr.mono (by decide)) rfl g__law_take F__law_take.kp b__law_take (fun σ => L2N.passAt tk σ) (qa_cons (qvar (i := 0) rfl (.inl rfl)) (qa_cons qint qa_nil))) (qa_cons qstr (qa_cons qstr (qa_cons qnon (qa_cons qbl (qa_cons qbl (qa_cons (qtup qa_nil) (qa_cons (qtup (qa_cons (qvar (i := 1) rfl (.inl rfl)) (qa_cons qint qa_nil))) (qa_cons (qlst (qa_cons (qvar (i := 1) rfl (.inl rfl)) (qa_cons qstr qa_nil))) (qa_cons (qtup (qa_cons (qtup (qa_cons qint (qa_cons qint qa_nil))) (qa_cons (qtup (qa_cons qstr (qa_cons (qtup qa_nil) qa_nil))) qa_nil))) (qa_cons (qlst qa_nil) qa_nil)))))))))))))) (qcons (qset (i := 2) nd rfl (.inl rfl) (qop op_add4 does_add (qvar (i := 2) rfl (.inl rfl)) (qlst (qa_cons (qneg qint) (qa_cons qint qa_nil))))) (qone (qret (qix (qvar (i := 2) rfl (.inl rfl)) (qcall O__law_take (hr.mono (by decide)) rfl g__law_take F__law_take.kp b__law_take (fun σ => L2N.passAt tk σ) (qa_cons (qvar (i := 0) rfl (.inl rfl)) (qa_cons qint qa_nil)))))))))
abbrev N__law_right : List Str := ["which", "given", "named", "caught", "e", "k"]
theorem sc__law_right : FnScope N__law_right ["which", "given", "named"] (defScope s__law_right) := ⟨rfl, rfl, rfl, by decide +kernel, rfl, by decide +kernel, by decide +kernel⟩
theorem ok__law_right (X0 : K.In h) (G : h.Ns mainGlobals mg) (c : He.SaysD fa fn K) (cx : exB (["ThreadError", "InvalidBook", "InvalidKind", "InvalidDepth", "InvalidCell", "InvalidNumber", "InvalidBox", "InvalidPosture", "InvalidPair", "InvalidField", "InvalidPicture", "InvalidMake", "InvalidStore", "InvalidName", "UnknownName", "NothingToUndo", "Unreadable", "Unorderly"] : List Str) K = true) : ∃ fd, FunD K "_law_right" "_law_right" (defArgs s__law_right) (defBody s__law_right) (defScope s__law_right) [] [] (He.ga K "_law_right") fd ∧ FnOk P w K mg base (L2N.CX P w) 10 (He.ga K "_law_right") fd ["which", "given", "named"] (spF K 3 m__law_right) := by
  obtain ⟨fd__law_raised, F__law_raised, O__law_raised⟩ := ok__law_raised (P := P) (w := w) (base := base) X0 G c cx
  have b__law_raised : Binds K fd__law_raised ["which", "given", "named"] [] := F__law_raised.bindsN fun _ _ _ _ _ _ us hl => match us, hl with | [_, _, _], _ => rfl
  have g__law_raised : mg "_law_raised" = some (.ref (He.ga K "_law_raised")) := He.glo_ok X0 G (c.fact 7 rfl)
  obtain ⟨fd__law_same, F__law_same, O__law_same⟩ := ok__law_same (P := P) (w := w) (base := base) X0 G c cx 8
  have b__law_same : Binds K fd__law_same ["found", "due"] [] := F__law_same.bindsN fun _ _ _ _ _ _ us hl => match us, hl with | [_, _], _ => rfl
  have g__law_same : mg "_law_same" = some (.ref (He.ga K "_law_same")) := He.glo_ok X0 G (c.fact 2 rfl)
  obtain ⟨fd__law_kinds, F__law_kinds, O__law_kinds⟩ := ok__law_kinds (P := P) (w := w) (base := base) X0 G c cx
  have b__law_kinds : Binds K fd__law_kinds ["e"] [] := F__law_kinds.bindsN fun _ _ _ _ _ _ us hl => match us, hl with | [_], _ => rfl
  have g__law_kinds : mg "_law_kinds" = some (.ref (He.ga K "_law_kinds")) := He.glo_ok X0 G (c.fact 8 rfl)
  have Ex : ExcOk K mg (["ThreadError", "InvalidBook", "InvalidKind", "InvalidDepth", "InvalidCell", "InvalidNumber", "InvalidBox", "InvalidPosture", "InvalidPair", "InvalidField", "InvalidPicture", "InvalidMake", "InvalidStore", "InvalidName", "UnknownName", "NothingToUndo", "Unreadable", "Unorderly"] : List Str) := exB_ok X0 G cx
  have f_ValueError : mg "ValueError" = none := He.free_ok X0 G (c.fact 13 rfl)
  have f_isinstance : mg "isinstance" = none := He.free_ok X0 G (c.fact 16 rfl)
  have f_range : mg "range" = none := He.free_ok X0 G (c.fact 21 rfl)
  obtain ⟨fd, F⟩ := c.def_ 10 (d := d__law_right) rfl
  refine ⟨fd, F, fn_ok (k := 9) F sc__law_right fun cdv A outer s H E hr B => ?_⟩
  have hp : PassesOwn (model P w) _ _ _ := passes_of (X := cxOf (L2N.CX P w) P w K mg base N__law_right "_law_right" (defScope s__law_right) (He.ga K "_law_right") cdv A outer s H E) (K := fun e s'' => L2N.CX P w outer H s E e s'') rfl
  have tk := L2N.takes_of (X := cxOf (L2N.CX P w) P w K mg base N__law_right "_law_right" (defScope s__law_right) (He.ga K "_law_right") cdv A outer s H E) (E := E) rfl rfl rfl rfl
  have nd := sc__law_right.nd
  exact (qcons (qset (i := 3) nd rfl (.inl rfl) qnon) (qcons (qtryK (cs := (["ThreadError", "InvalidBook", "InvalidKind", "InvalidDepth", "InvalidCell", "InvalidNumber", "InvalidBox", "InvalidPosture", "InvalidPair", "InvalidField", "InvalidPicture", "InvalidMake", "InvalidStore", "InvalidName", "UnknownName", "NothingToUndo", "Unreadable", "Unorderly"] : List Str)) (i := 4) (j := 3) rfl rfl rfl nd Ex (by decide +kernel) rfl rfl rfl rfl rfl (fun W2 pn xe tk hp => (qone (qexpr (qcall O__law_raised (hr.mono (by decide)) rfl g__law_raised F__law_raised.kp b__law_raised (fun σ => L2N.passAt tk σ) (qa_cons (qvar (i := 0) rfl (.inr (.inl rfl))) (qa_cons (qvar (i := 1) rfl (.inl rfl)) (qa_cons (qvar (i := 2) rfl (.inl rfl)) qa_nil)))))))) (qcons (qif (QW.t (qw_or (qtcmp op_isN does_isN (qvar (i := 3) rfl (.inl rfl)) qnon) (qw_or1 (qtnot (qtval (qisxV Ex rfl f_isinstance rfl f_ValueError (qvar (i := 3) rfl (.inl rfl)))))))) (qone (qret qbl)) qnil) (qone (qret (qand (qcmp (op_eqD hr.units) does_eq (qcall O__law_kinds (hr.mono (by decide)) rfl g__law_kinds F__law_kinds.kp b__law_kinds (fun σ => L2N.passAt tk σ) (qa_cons (qvar (i := 3) rfl (.inl rfl)) qa_nil)) (qcomp (vs := [5]) rfl nd (qir1 rfl f_range (qa_cons qint qa_nil)) (blkOk_by (own := [("k", 5)]) (N := N__law_right) (sc := defScope s__law_right) (by decide +kernel)) (gok_n (by decide)) rfl (fun _ _ _ _ _ B => (qgn (i := 5) nd rfl (.inl rfl) (by decide))) (fun _ _ _ _ _ => qtsnil) (fun _ _ _ _ _ => (qcmp (op_eqD hr.units) does_eq (qvar (i := 5) rfl (.inl rfl)) (qvar (i := 0) rfl (.inr (.inl rfl))))))) (qone_ (qcall O__law_same (hr.mono (by decide)) rfl g__law_same F__law_same.kp b__law_same (fun σ => L2N.passAt tk σ) (qa_cons (qval (qvar (i := 3) rfl (.inl rfl))) (qa_cons (qvar (i := 1) rfl (.inl rfl)) qa_nil))))))))))
abbrev N__law_base_right : List Str := ["given", "caught", "e"]
theorem sc__law_base_right : FnScope N__law_base_right ["given"] (defScope s__law_base_right) := ⟨rfl, rfl, rfl, by decide +kernel, rfl, by decide +kernel, by decide +kernel⟩
theorem ok__law_base_right (X0 : K.In h) (G : h.Ns mainGlobals mg) (c : He.SaysD fa fn K) (cx : exB (["ThreadError", "InvalidBook", "InvalidKind", "InvalidDepth", "InvalidCell", "InvalidNumber", "InvalidBox", "InvalidPosture", "InvalidPair", "InvalidField", "InvalidPicture", "InvalidMake", "InvalidStore", "InvalidName", "UnknownName", "NothingToUndo", "Unreadable", "Unorderly"] : List Str) K = true) : ∃ fd, FunD K "_law_base_right" "_law_base_right" (defArgs s__law_base_right) (defBody s__law_base_right) (defScope s__law_base_right) [] [] (He.ga K "_law_base_right") fd ∧ FnOk P w K mg base (L2N.CX P w) 10 (He.ga K "_law_base_right") fd ["given"] (spF K 1 m__law_base_right) := by
  obtain ⟨fd__law_same, F__law_same, O__law_same⟩ := ok__law_same (P := P) (w := w) (base := base) X0 G c cx 8
  have b__law_same : Binds K fd__law_same ["found", "due"] [] := F__law_same.bindsN fun _ _ _ _ _ _ us hl => match us, hl with | [_, _], _ => rfl
  have g__law_same : mg "_law_same" = some (.ref (He.ga K "_law_same")) := He.glo_ok X0 G (c.fact 2 rfl)
  obtain ⟨fd__law_kinds, F__law_kinds, O__law_kinds⟩ := ok__law_kinds (P := P) (w := w) (base := base) X0 G c cx
  have b__law_kinds : Binds K fd__law_kinds ["e"] [] := F__law_kinds.bindsN fun _ _ _ _ _ _ us hl => match us, hl with | [_], _ => rfl
  have g__law_kinds : mg "_law_kinds" = some (.ref (He.ga K "_law_kinds")) := He.glo_ok X0 G (c.fact 8 rfl)
  have Ex : ExcOk K mg (["ThreadError", "InvalidBook", "InvalidKind", "InvalidDepth", "InvalidCell", "InvalidNumber", "InvalidBox", "InvalidPosture", "InvalidPair", "InvalidField", "InvalidPicture", "InvalidMake", "InvalidStore", "InvalidName", "UnknownName", "NothingToUndo", "Unreadable", "Unorderly"] : List Str) := exB_ok X0 G cx
  obtain ⟨fd_ini, F_ini, O_ini⟩ := ok_ini (P := P) (w := w) (base := base) X0 G c
  have k_ini : IniKw fd_ini := iniKw_of F_ini fun _ _ _ _ _ _ _ _ => rfl
  have b_ini : Binds K fd_ini ["self", "value"] [] := F_ini.bindsN fun _ _ _ _ _ _ us hl => match us, hl with | [_, _], _ => rfl
  have f_ValueError : mg "ValueError" = none := He.free_ok X0 G (c.fact 13 rfl)
  have f_isinstance : mg "isinstance" = none := He.free_ok X0 G (c.fact 16 rfl)
  obtain ⟨fd, F⟩ := c.def_ 11 (d := d__law_base_right) rfl
  refine ⟨fd, F, fn_ok (k := 9) F sc__law_base_right fun cdv A outer s H E hr B => ?_⟩
  have hp : PassesOwn (model P w) _ _ _ := passes_of (X := cxOf (L2N.CX P w) P w K mg base N__law_base_right "_law_base_right" (defScope s__law_base_right) (He.ga K "_law_base_right") cdv A outer s H E) (K := fun e s'' => L2N.CX P w outer H s E e s'') rfl
  have tk := L2N.takes_of (X := cxOf (L2N.CX P w) P w K mg base N__law_base_right "_law_base_right" (defScope s__law_base_right) (He.ga K "_law_base_right") cdv A outer s H E) (E := E) rfl rfl rfl rfl
  have nd := sc__law_base_right.nd
  exact (qcons (qset (i := 1) nd rfl (.inl rfl) qnon) (qcons (qtryK (cs := (["ThreadError", "InvalidBook", "InvalidKind", "InvalidDepth", "InvalidCell", "InvalidNumber", "InvalidBox", "InvalidPosture", "InvalidPair", "InvalidField", "InvalidPicture", "InvalidMake", "InvalidStore", "InvalidName", "UnknownName", "NothingToUndo", "Unreadable", "Unorderly"] : List Str)) (i := 2) (j := 1) rfl rfl rfl nd Ex (by decide +kernel) rfl rfl rfl rfl rfl (fun W2 pn xe tk hp => (qone (qraiseK rfl tk Ex (by decide +kernel) O_ini (hr.mono (by decide)) k_ini rfl (qvar (i := 0) rfl (.inl rfl)))))) (qcons (qif (QW.t (qw_or (qtnot (qtval (qisxV Ex rfl f_isinstance rfl f_ValueError (qvar (i := 1) rfl (.inl rfl))))) (qw_or1 (qtcmp (op_in2 (room65 hr)) does_in qbl (qcall O__law_kinds (hr.mono (by decide)) rfl g__law_kinds F__law_kinds.kp b__law_kinds (fun σ => L2N.passAt tk σ) (qa_cons (qvar (i := 1) rfl (.inl rfl)) qa_nil)))))) (qone (qret qbl)) qnil) (qone (qret (qand (qcall O__law_same (hr.mono (by decide)) rfl g__law_same F__law_same.kp b__law_same (fun σ => L2N.passAt tk σ) (qa_cons (qval (qvar (i := 1) rfl (.inl rfl))) (qa_cons (qvar (i := 0) rfl (.inl rfl)) qa_nil))) (qone_ (qcall O__law_same (hr.mono (by decide)) rfl g__law_same F__law_same.kp b__law_same (fun σ => L2N.passAt tk σ) (qa_cons (qval (qnewX Ex (by decide +kernel) O_ini (hr.mono (by decide)) b_ini rfl (qvar (i := 0) rfl (.inl rfl)))) (qa_cons (qvar (i := 0) rfl (.inl rfl)) qa_nil))))))))))
abbrev N_law : List Str := ["script", "first", "second", "k", "deck", "which", "named", "given", "other", "e"]
theorem sc_law : FnScope N_law ["script"] (defScope s_law) := ⟨rfl, rfl, rfl, by decide +kernel, rfl, by decide +kernel, by decide +kernel⟩
theorem ok_law (X0 : K.In h) (G : h.Ns mainGlobals mg) (c : He.SaysD fa fn K) (cx : exB (["ThreadError", "InvalidBook", "InvalidKind", "InvalidDepth", "InvalidCell", "InvalidNumber", "InvalidBox", "InvalidPosture", "InvalidPair", "InvalidField", "InvalidPicture", "InvalidMake", "InvalidStore", "InvalidName", "UnknownName", "NothingToUndo", "Unreadable", "Unorderly"] : List Str) K = true) : ∃ fd, FunD K "law" "law" (defArgs s_law) (defBody s_law) (defScope s_law) [] [] (He.ga K "law") fd ∧ FnOk P w K mg base (L2N.CX P w) 11 (He.ga K "law") fd ["script"] (spF K 1 m_law) := by
  obtain ⟨fd__law_deck, F__law_deck, O__law_deck⟩ := ok__law_deck (P := P) (w := w) (base := base) X0 G c cx
  have b__law_deck : Binds K fd__law_deck ["script", "k"] [] := F__law_deck.bindsN fun _ _ _ _ _ _ us hl => match us, hl with | [_, _], _ => rfl
  have g__law_deck : mg "_law_deck" = some (.ref (He.ga K "_law_deck")) := He.glo_ok X0 G (c.fact 0 rfl)
  obtain ⟨fd__law_take, F__law_take, O__law_take⟩ := ok__law_take (P := P) (w := w) (base := base) X0 G c cx
  have b__law_take : Binds K fd__law_take ["deck", "many"] [] := F__law_take.bindsN fun _ _ _ _ _ _ us hl => match us, hl with | [_, _], _ => rfl
  have g__law_take : mg "_law_take" = some (.ref (He.ga K "_law_take")) := He.glo_ok X0 G (c.fact 1 rfl)
  obtain ⟨fd__law_given, F__law_given, O__law_given⟩ := ok__law_given (P := P) (w := w) (base := base) X0 G c cx
  have b__law_given : Binds K fd__law_given ["deck"] [] := F__law_given.bindsN fun _ _ _ _ _ _ us hl => match us, hl with | [_], _ => rfl
  have g__law_given : mg "_law_given" = some (.ref (He.ga K "_law_given")) := He.glo_ok X0 G (c.fact 9 rfl)
  obtain ⟨fd__law_raised, F__law_raised, O__law_raised⟩ := ok__law_raised (P := P) (w := w) (base := base) X0 G c cx
  have b__law_raised : Binds K fd__law_raised ["which", "given", "named"] [] := F__law_raised.bindsN fun _ _ _ _ _ _ us hl => match us, hl with | [_, _, _], _ => rfl
  have g__law_raised : mg "_law_raised" = some (.ref (He.ga K "_law_raised")) := He.glo_ok X0 G (c.fact 7 rfl)
  obtain ⟨fd__law_right, F__law_right, O__law_right⟩ := ok__law_right (P := P) (w := w) (base := base) X0 G c cx
  have b__law_right : Binds K fd__law_right ["which", "given", "named"] [] := F__law_right.bindsN fun _ _ _ _ _ _ us hl => match us, hl with | [_, _, _], _ => rfl
  have g__law_right : mg "_law_right" = some (.ref (He.ga K "_law_right")) := He.glo_ok X0 G (c.fact 10 rfl)
  obtain ⟨fd__law_base_right, F__law_base_right, O__law_base_right⟩ := ok__law_base_right (P := P) (w := w) (base := base) X0 G c cx
  have b__law_base_right : Binds K fd__law_base_right ["given"] [] := F__law_base_right.bindsN fun _ _ _ _ _ _ us hl => match us, hl with | [_], _ => rfl
  have g__law_base_right : mg "_law_base_right" = some (.ref (He.ga K "_law_base_right")) := He.glo_ok X0 G (c.fact 11 rfl)
  obtain ⟨fd__law_same, F__law_same, O__law_same⟩ := ok__law_same (P := P) (w := w) (base := base) X0 G c cx 8
  have b__law_same : Binds K fd__law_same ["found", "due"] [] := F__law_same.bindsN fun _ _ _ _ _ _ us hl => match us, hl with | [_, _], _ => rfl
  have g__law_same : mg "_law_same" = some (.ref (He.ga K "_law_same")) := He.glo_ok X0 G (c.fact 2 rfl)
  have Ex : ExcOk K mg (["ThreadError", "InvalidBook", "InvalidKind", "InvalidDepth", "InvalidCell", "InvalidNumber", "InvalidBox", "InvalidPosture", "InvalidPair", "InvalidField", "InvalidPicture", "InvalidMake", "InvalidStore", "InvalidName", "UnknownName", "NothingToUndo", "Unreadable", "Unorderly"] : List Str) := exB_ok X0 G cx
  have f_len : mg "len" = none := He.free_ok X0 G (c.fact 17 rfl)
  have f_max : mg "max" = none := He.free_ok X0 G (c.fact 19 rfl)
  have f_min : mg "min" = none := He.free_ok X0 G (c.fact 20 rfl)
  have f_range : mg "range" = none := He.free_ok X0 G (c.fact 21 rfl)
  obtain ⟨fd, F⟩ := c.def_ 12 (d := d_law) rfl
  refine ⟨fd, F, fn_ok (k := 10) F sc_law fun cdv A outer s H E hr B => ?_⟩
  have hp : PassesOwn (model P w) _ _ _ := passes_of (X := cxOf (L2N.CX P w) P w K mg base N_law "law" (defScope s_law) (He.ga K "law") cdv A outer s H E) (K := fun e s'' => L2N.CX P w outer H s E e s'') rfl
  have tk := L2N.takes_of (X := cxOf (L2N.CX P w) P w K mg base N_law "law" (defScope s_law) (He.ga K "law") cdv A outer s H E) (E := E) rfl rfl rfl rfl
  have nd := sc_law.nd
  exact (qcons (qparT (is := [1, 2]) (gs := gsNames [1, 2]) rfl (qa_cons qnon (qa_cons qnon qa_nil)) (pgs_cons (pg_name (i := 1) nd rfl (.inl rfl)) (pgs_cons (pg_name (i := 2) nd rfl (.inl rfl)) pgs_nil)) (gsNames_ok [1, 2]) (by decide)) (qcons (qfor (ws := [3]) hp rfl (qir1 rfl f_range (qa_cons (qfnB (call_max2 rfl) does_max2 rfl f_max boot_max (qa_cons qint (qa_cons (qfnB (call_min2 rfl) does_min2 rfl f_min boot_min (qa_cons (qfnB call_len_seq does_len rfl f_len boot_len (qa_cons (qvar (i := 0) rfl (.inl rfl)) qa_nil)) (qa_cons qint qa_nil))) qa_nil))) qa_nil)) (fun B => (qgn (i := 3) nd rfl (.inl rfl) (by decide))) (fun B => (qcons (qset (i := 4) nd rfl (.inl rfl) (qcall O__law_deck (hr.mono (by decide)) rfl g__law_deck F__law_deck.kp b__law_deck (fun σ => L2N.passAt tk σ) (qa_cons (qvar (i := 0) rfl (.inl rfl)) (qa_cons (qvar (i := 3) rfl (.inl rfl)) qa_nil)))) (qcons (qpar2 (i := 5) (j := 6) rfl nd rfl rfl (by decide) rfl rfl (qa_cons (qcall O__law_take (hr.mono (by decide)) rfl g__law_take F__law_take.kp b__law_take (fun σ => L2N.passAt tk σ) (qa_cons (qvar (i := 4) rfl (.inl rfl)) (qa_cons qint qa_nil))) (qa_cons (qcmp (op_eqD hr.units) does_eq (qcall O__law_take (hr.mono (by decide)) rfl g__law_take F__law_take.kp b__law_take (fun σ => L2N.passAt tk σ) (qa_cons (qvar (i := 4) rfl (.inl rfl)) (qa_cons qint qa_nil))) qint) qa_nil)) (by rfl)) (qcons (qpar2 (i := 7) (j := 8) rfl nd rfl rfl (by decide) rfl rfl (qa_cons (qcall O__law_given (hr.mono (by decide)) rfl g__law_given F__law_given.kp b__law_given (fun σ => L2N.passAt tk σ) (qa_cons (qvar (i := 4) rfl (.inl rfl)) qa_nil)) (qa_cons (qcall O__law_given (hr.mono (by decide)) rfl g__law_given F__law_given.kp b__law_given (fun σ => L2N.passAt tk σ) (qa_cons (qvar (i := 4) rfl (.inl rfl)) qa_nil)) qa_nil)) (by rfl)) (qcons (qif (QW.t (qw_or (qtnot (qtval (qcall O__law_right (hr.mono (by decide)) rfl g__law_right F__law_right.kp b__law_right (fun σ => L2N.passAt tk σ) (qa_cons (qvar (i := 5) rfl (.inl rfl)) (qa_cons (qvar (i := 7) rfl (.inl rfl)) (qa_cons (qvar (i := 6) rfl (.inl rfl)) qa_nil)))))) (qw_or (qtnot (qtval (qcall O__law_right (hr.mono (by decide)) rfl g__law_right F__law_right.kp b__law_right (fun σ => L2N.passAt tk σ) (qa_cons (qvar (i := 5) rfl (.inl rfl)) (qa_cons (qvar (i := 8) rfl (.inl rfl)) (qa_cons (qnot (qvar (i := 6) rfl (.inl rfl))) qa_nil)))))) (qw_or1 (qtnot (qtval (qcall O__law_base_right (hr.mono (by decide)) rfl g__law_base_right F__law_base_right.kp b__law_base_right (fun σ => L2N.passAt tk σ) (qa_cons (qvar (i := 8) rfl (.inl rfl)) qa_nil)))))))) (qone (qret qbl)) qnil) (qcons (qtryK (cs := (["ThreadError", "InvalidBook", "InvalidKind", "InvalidDepth", "InvalidCell", "InvalidNumber", "InvalidBox", "InvalidPosture", "InvalidPair", "InvalidField", "InvalidPicture", "InvalidMake", "InvalidStore", "InvalidName", "UnknownName", "NothingToUndo", "Unreadable", "Unorderly"] : List Str)) (i := 9) (j := 1) rfl rfl rfl nd Ex (by decide +kernel) rfl rfl rfl rfl rfl (fun W2 pn xe tk hp => (qone (qexpr (qcall O__law_raised (hr.mono (by decide)) rfl g__law_raised F__law_raised.kp b__law_raised (fun σ => L2N.passAt tk σ) (qa_cons (qvar (i := 5) rfl (.inl rfl)) (qa_cons (qvar (i := 7) rfl (.inl rfl)) (qa_cons (qvar (i := 6) rfl (.inl rfl)) qa_nil)))))))) (qcons (qtryK (cs := (["ThreadError", "InvalidBook", "InvalidKind", "InvalidDepth", "InvalidCell", "InvalidNumber", "InvalidBox", "InvalidPosture", "InvalidPair", "InvalidField", "InvalidPicture", "InvalidMake", "InvalidStore", "InvalidName", "UnknownName", "NothingToUndo", "Unreadable", "Unorderly"] : List Str)) (i := 9) (j := 2) rfl rfl rfl nd Ex (by decide +kernel) rfl rfl rfl rfl rfl (fun W2 pn xe tk hp => (qone (qexpr (qcall O__law_raised (hr.mono (by decide)) rfl g__law_raised F__law_raised.kp b__law_raised (fun σ => L2N.passAt tk σ) (qa_cons (qvar (i := 5) rfl (.inl rfl)) (qa_cons (qvar (i := 8) rfl (.inl rfl)) (qa_cons (qvar (i := 6) rfl (.inl rfl)) qa_nil)))))))) (qone (qif (QW.t (qw_or (qtnot (qtval (qcall O__law_same (hr.mono (by decide)) rfl g__law_same F__law_same.kp b__law_same (fun σ => L2N.passAt tk σ) (qa_cons (qval (qvar (i := 1) rfl (.inl rfl))) (qa_cons (qvar (i := 7) rfl (.inl rfl)) qa_nil))))) (qw_or1 (qtnot (qtval (qcall O__law_same (hr.mono (by decide)) rfl g__law_same F__law_same.kp b__law_same (fun σ => L2N.passAt tk σ) (qa_cons (qval (qvar (i := 2) rfl (.inl rfl))) (qa_cons (qvar (i := 8) rfl (.inl rfl)) qa_nil)))))))) (qone (qret qbl)) qnil)))))))))) (qcons (qfor (ws := [5]) hp rfl (qir1 rfl f_range (qa_cons qint qa_nil)) (fun B => (qgn (i := 5) nd rfl (.inl rfl) (by decide))) (fun B => (qone (qif (QW.t (qw_or (qtnot (qtval (qcall O__law_right (hr.mono (by decide)) rfl g__law_right F__law_right.kp b__law_right (fun σ => L2N.passAt tk σ) (qa_cons (qvar (i := 5) rfl (.inl rfl)) (qa_cons (qvar (i := 5) rfl (.inl rfl)) (qa_cons qbl qa_nil)))))) (qw_or1 (qtnot (qtval (qcall O__law_right (hr.mono (by decide)) rfl g__law_right F__law_right.kp b__law_right (fun σ => L2N.passAt tk σ) (qa_cons (qvar (i := 5) rfl (.inl rfl)) (qa_cons qstr (qa_cons qbl qa_nil))))))))) (qone (qret qbl)) qnil)))) (qone (qret qbl)))))
end
end Lw
set_option linter.all false
set_option maxRecDepth 100000
namespace Pu
open PySem PySem.Spec Ev
inductive F2 {α β : Type} (P : α → β → Prop) : List α → List β → Prop
  | nil : F2 P [] []
  | cons {a b as bs} : P a b → F2 P as bs → F2 P (a :: as) (b :: bs)
theorem F2.len {α β : Type} {P : α → β → Prop} : ∀ {as : List α} {bs : List β}, F2 P as bs → as.length = bs.length
  | _, _, .nil => rfl
  | _, _, .cons _ h => by rw [List.length_cons, List.length_cons, h.len]
theorem F2.get {α β : Type} {P : α → β → Prop} : ∀ {as : List α} {bs : List β} {i : Nat} {a : α} {b : β}, F2 P as bs → as[i]? = some a → bs[i]? = some b → P a b
  | _, _, i, a, b, .nil, h, _ => by simp at h
  | _, _, 0, a, b, .cons p _, h, h' => by simp at h h'; rw [← h, ← h']; exact p
  | _, _, i + 1, a, b, .cons _ q, h, h' => q.get (by simpa using h) (by simpa using h')
/-! ### pure: what loops and comprehensions do -/
/-! ### ranges -/
/-! ### numerals -/
theorem c0 : ((0 : Nat) : Int) = 0 := rfl
theorem c1 : ((1 : Nat) : Int) = 1 := rfl
theorem c2 : ((2 : Nat) : Int) = 2 := rfl
theorem c3 : ((3 : Nat) : Int) = 3 := rfl
theorem c4 : ((4 : Nat) : Int) = 4 := rfl
theorem c5 : ((5 : Nat) : Int) = 5 := rfl
theorem c6 : ((6 : Nat) : Int) = 6 := rfl
theorem c7 : ((7 : Nat) : Int) = 7 := rfl
theorem c8 : ((8 : Nat) : Int) = 8 := rfl
theorem c9 : ((9 : Nat) : Int) = 9 := rfl
theorem s1 : (1 ≤ sizeLine) = True := eq_true (by unfold sizeLine; omega)
theorem s2 : (2 ≤ sizeLine) = True := eq_true (by unfold sizeLine; omega)
theorem s3 : (3 ≤ sizeLine) = True := eq_true (by unfold sizeLine; omega)
theorem s4 : (4 ≤ sizeLine) = True := eq_true (by unfold sizeLine; omega)
theorem s5 : (5 ≤ sizeLine) = True := eq_true (by unfold sizeLine; omega)
theorem s6 : (6 ≤ sizeLine) = True := eq_true (by unfold sizeLine; omega)
theorem s7 : (7 ≤ sizeLine) = True := eq_true (by unfold sizeLine; omega)
theorem s8 : (8 ≤ sizeLine) = True := eq_true (by unfold sizeLine; omega)
theorem s9 : (9 ≤ sizeLine) = True := eq_true (by unfold sizeLine; omega)
/-! ### equality -/
theorem gEq_int (k : Bool → Bool) (i j : Int) : gEq k (.int i) (.int j) = some (.r (.bool (k (decide (i = j))))) := rfl
def lentS : Sl → Bool
  | .ow true _ => true
  | .fz _ => true
  | _ => false
theorem lentS_v (t : T) : lentS (.v t) = false := rfl
theorem lentS_un : lentS .un = false := rfl
theorem lentS_f (b : Bx) : lentS (.ow false b) = false := rfl
theorem lentS_t (b : Bx) : lentS (.ow true b) = true := rfl
theorem lentS_z (b : Bx) : lentS (.fz b) = true := rfl
def lentO : Option Sl → Bool
  | some s => lentS s
  | none => false
theorem isLent_eq (e : En) (i : Nat) : isLent e i = lentO e[i]? := by
  unfold isLent
  cases e[i]? with
  | none => rfl
  | some s => cases s with
    | ow l b => cases l <;> rfl
    | _ => rfl
end Pu

set_option Elab.async false
set_option linter.all false
set_option maxRecDepth 100000
namespace Wp
open PySem PySem.Spec Ev Pu
/-! ### what a run yields, and what is wanted of it -/
def W {α : Type} (o : Out α) (Q : α → En → Prop) : Prop := ∃ a e, o = .ok a e ∧ Q a e
theorem w_of {α : Type} {o : Out α} {a : α} {e : En} {Q : α → En → Prop} (h : o = .ok a e) (q : Q a e) : W o Q := ⟨a, e, h, q⟩
theorem w_imp {α : Type} {o : Out α} {P Q : α → En → Prop} (h : W o P) (q : ∀ a e, P a e → Q a e) : W o Q := by
  obtain ⟨a, e, h, p⟩ := h
  exact ⟨a, e, h, q a e p⟩
theorem w_bind {α β : Type} {o : Out α} {f : α → En → Out β} {Q : β → En → Prop} (h : W o fun a e => W (f a e) Q) : W (o.bind f) Q := by
  obtain ⟨a, e, h, b, e2, h2, q⟩ := h
  exact ⟨b, e2, by rw [h]; exact h2, q⟩
/-! ### statements -/
def KSeq (b : SemS) (Q : Fl → En → Prop) : Fl → En → Prop := fun fl e => match fl with
  | .nx => W (b e) Q
  | fl => Q fl e
theorem kseq_rt {b : SemS} {Q : Fl → En → Prop} {e : En} {r : Od} (h : Q (.rt r) e) : KSeq b Q (.rt r) e := h
theorem kseq_bk {b : SemS} {Q : Fl → En → Prop} {e : En} (h : Q .bk e) : KSeq b Q .bk e := h
theorem kseq_ct {b : SemS} {Q : Fl → En → Prop} {e : En} (h : Q .ct e) : KSeq b Q .ct e := h
theorem w_seq {a b : SemS} {Q : Fl → En → Prop} {e : En} (h : W (a e) (KSeq b Q)) : W (sSeq a b e) Q := by
  obtain ⟨fl, e1, h, k⟩ := h
  unfold sSeq
  rw [h]
  cases fl with
  | nx => exact k
  | rt r => exact ⟨_, _, rfl, k⟩
  | bk => exact ⟨_, _, rfl, k⟩
  | ct => exact ⟨_, _, rfl, k⟩
theorem w_nil {Q : Fl → En → Prop} {e : En} (h : Q .nx e) : W (sNil e) Q := ⟨_, _, rfl, h⟩
theorem w_brk {Q : Fl → En → Prop} {e : En} (h : Q .bk e) : W (sBrk e) Q := ⟨_, _, rfl, h⟩
theorem w_cnt {Q : Fl → En → Prop} {e : En} (h : Q .ct e) : W (sCnt e) Q := ⟨_, _, rfl, h⟩
theorem w_drop {m : SemE} {Q : Fl → En → Prop} {e : En} (h : W (m e) fun _ e1 => Q .nx e1) : W (sDrop m e) Q :=
  w_bind (w_imp h fun _ _ q => ⟨_, _, rfl, q⟩)
def KIf (m1 m2 : SemS) (Q : Fl → En → Prop) : Bool → En → Prop := fun k e => (k = true → W (m1 e) Q) ∧ (k = false → W (m2 e) Q)
theorem w_if {c : SemT} {m1 m2 : SemS} {Q : Fl → En → Prop} {e : En} (h : W (c e) (KIf m1 m2 Q)) : W (sIf c m1 m2 e) Q :=
  w_bind (w_imp h fun k e1 q => by
    cases k with
    | true => exact q.1 rfl
    | false => exact q.2 rfl)
theorem kif_t {m1 m2 : SemS} {Q : Fl → En → Prop} {k : Bool} {e : En} (hk : k = true) (h : W (m1 e) Q) : KIf m1 m2 Q k e := ⟨fun _ => h, fun z => (by rw [hk] at z; cases z)⟩
theorem kif_f {m1 m2 : SemS} {Q : Fl → En → Prop} {k : Bool} {e : En} (hk : k = false) (h : W (m2 e) Q) : KIf m1 m2 Q k e := ⟨fun z => (by rw [hk] at z; cases z), fun _ => h⟩
def KSet (i : Nat) (Q : Fl → En → Prop) : Od → En → Prop := fun r e => W (setO i r e) Q
theorem w_set {i : Nat} {m : SemE} {Q : Fl → En → Prop} {e : En} (h : W (m e) (KSet i Q)) : W (sSet i m e) Q := w_bind h
theorem isLent_of {e : En} {i : Nat} {l : Sl} (h : e[i]? = some l) (h2 : lentS l = false) : isLent e i = false := by rw [isLent_eq, h]; exact h2
theorem kset_r {i : Nat} {Q : Fl → En → Prop} {t : T} {e : En} (hl : isLent e i = false) (h : Q .nx (e.set i (.v t))) : KSet i Q (.r t) e := ⟨_, _, by unfold setO; rw [hl]; rfl, h⟩
theorem kset_b {i : Nat} {Q : Fl → En → Prop} {z : Bx} {e : En} (hl : isLent e i = false) (h : Q .nx (e.set i (.ow false z))) : KSet i Q (.b z) e := ⟨_, _, by unfold setO; rw [hl]; rfl, h⟩
theorem kset_s {i j : Nat} {Q : Fl → En → Prop} {t : T} {e e' : En} (hl : isLent e i = false) (he : esc (.s j) e = some (t, e')) (h : Q .nx (e'.set i (.v t))) : KSet i Q (.s j) e := ⟨_, _, by
  unfold setO; rw [hl]; simp only [he]; rfl, h⟩
def KRet (Q : Fl → En → Prop) : Od → En → Prop := fun r e => W (retO r e) Q
theorem w_ret {m : SemE} {Q : Fl → En → Prop} {e : En} (h : W (m e) (KRet Q)) : W (sRet m e) Q := w_bind h
theorem w_retN {Q : Fl → En → Prop} {e : En} (h : Q (.rt (.r .none)) e) : W (sRetN e) Q := ⟨_, _, rfl, h⟩
theorem kret_r {Q : Fl → En → Prop} {t : T} {e : En} (h : Q (.rt (.r t)) e) : KRet Q (.r t) e := ⟨_, _, rfl, h⟩
theorem kret_b {Q : Fl → En → Prop} {z : Bx} {e : En} (h : Q (.rt (.b z)) e) : KRet Q (.b z) e := ⟨_, _, rfl, h⟩
theorem kret_so {Q : Fl → En → Prop} {i : Nat} {z : Bx} {e : En} (hi : e[i]? = some (.ow false z)) (h : Q (.rt (.b z)) (e.set i .un)) : KRet Q (.s i) e := ⟨_, _, by unfold retO; simp only [hi], h⟩
def KAsg (g : SemG) (Q : Fl → En → Prop) : Od → En → Prop := fun r e => ∃ t e2, esc r e = some (t, e2) ∧ ∃ e3, g t e2 = some e3 ∧ Q .nx e3
theorem w_asg {g : SemG} {m : SemE} {Q : Fl → En → Prop} {e : En} (h : W (m e) (KAsg g Q)) : W (sAsg g m e) Q :=
  w_bind (w_imp h fun r e1 ⟨t, e2, h1, e3, h2, q⟩ => ⟨_, _, by simp only [h1, h2], q⟩)
theorem kasg {g : SemG} {Q : Fl → En → Prop} {r : Od} {e e2 e3 : En} {t : T} (h1 : esc r e = some (t, e2)) (h2 : g t e2 = some e3) (q : Q .nx e3) : KAsg g Q r e := ⟨t, e2, h1, e3, h2, q⟩
def KPar (is : List Nat) (Q : Fl → En → Prop) : List Od → En → Prop := fun rs e => ∃ rs' e2, presc rs e = some (rs', e2) ∧ ∃ e3, setOs is rs' e2 = some e3 ∧ Q .nx e3
theorem w_par {is : List Nat} {m : SemA} {Q : Fl → En → Prop} {e : En} (h : W (m e) (KPar is Q)) : W (sPar is m e) Q :=
  w_bind (w_imp h fun rs e1 ⟨rs', e2, h1, e3, h2, q⟩ => ⟨_, _, by simp only [h1, h2], q⟩)
theorem kpar {is : List Nat} {Q : Fl → En → Prop} {rs rs' : List Od} {e e2 e3 : En} (h1 : presc rs e = some (rs', e2)) (h2 : setOs is rs' e2 = some e3) (q : Q .nx e3) : KPar is Q rs e := ⟨rs', e2, h1, e3, h2, q⟩
theorem setOs_nil {e e' : En} (h : e' = e) : setOs [] [] e = some e' := by rw [h]; rfl
theorem setOs_r {i : Nat} {is : List Nat} {t : T} {rs : List Od} {e e' : En} (hl : isLent e i = false) (h : setOs is rs (e.set i (.v t)) = some e') : setOs (i :: is) (.r t :: rs) e = some e' := by
  unfold setOs setO; rw [hl]; exact h
theorem setOs_b {i : Nat} {is : List Nat} {z : Bx} {rs : List Od} {e e' : En} (hl : isLent e i = false) (h : setOs is rs (e.set i (.ow false z)) = some e') : setOs (i :: is) (.b z :: rs) e = some e' := by
  unfold setOs setO; rw [hl]; exact h
theorem gN_ok {i : Nat} {t : T} {e e' : En} (hl : isLent e i = false) (h : e' = e.set i (.v t)) : gN i t e = some e' := by unfold gN; rw [hl, h]; rfl
theorem gsNil_ok {e e' : En} (h : e' = e) : gsNil [] e = some e' := by rw [h]; rfl
theorem gsCons_ok {g : SemG} {gs : SemGs} {t : T} {ts : List T} {e e1 e' : En} (h1 : g t e = some e1) (h2 : gs ts e1 = some e') : gsCons g gs (t :: ts) e = some e' := by unfold gsCons; simp only [h1, h2]
theorem gT_ok {n : Nat} {gs : SemGs} {ts : List T} {e e' : En} (hn : ts.length = n) (h : gs ts e = some e') : gT n gs (.tuple ts) e = some e' := by unfold gT; simp only [hn, h, if_true]
def KAug (i : Nat) (t : T) (g : T → T → Option Od) (Q : Fl → En → Prop) : Od → En → Prop := fun r e => ∃ u k, r.val e = some u ∧ g t u = some (.r (.int k)) ∧ isLent e i = false ∧ Q .nx (e.set i (.v (.int k)))
theorem w_aug {i : Nat} {g : T → T → Option Od} {m : SemE} {Q : Fl → En → Prop} {e : En} {t : T} (hi : e[i]? = some (.v t)) (h : W (m e) (KAug i t g Q)) : W (sAug i g m e) Q := by
  unfold sAug
  simp only [hi]
  exact w_bind (w_imp h fun r e1 ⟨u, k, h1, h2, h3, q⟩ => ⟨_, _, by simp only [h1, h2, setO, h3]; rfl, q⟩)
theorem kaug {i : Nat} {t u : T} {g : T → T → Option Od} {Q : Fl → En → Prop} {r : Od} {e : En} {k : Int} (h1 : r.val e = some u) (h2 : g t u = some (.r (.int k))) (h3 : isLent e i = false) (q : Q .nx (e.set i (.v (.int k)))) : KAug i t g Q r e := ⟨u, k, h1, h2, h3, q⟩
def KSetIx2 (i : Nat) (r : Od) (Q : Fl → En → Prop) : Od → En → Prop := fun ri e2 => ∃ k t e3 l ts j, ri.val e2 = some (.int k) ∧ esc r e2 = some (t, e3) ∧ e3[i]? = some (.ow l (.l ts)) ∧ L2.ixN ts.length k = some j ∧ Q .nx (e3.set i (.ow l (.l (ts.set j t))))
def KSetIx1 (i : Nat) (mi : SemE) (Q : Fl → En → Prop) : Od → En → Prop := fun r e1 => ∃ l ts, e1[i]? = some (.ow l (.l ts)) ∧ W (mi e1) (KSetIx2 i r Q)
theorem w_setix {i : Nat} {mi mv : SemE} {Q : Fl → En → Prop} {e : En} (h : W (mv e) (KSetIx1 i mi Q)) : W (sSetIx i mi mv e) Q := by
  refine w_bind (w_imp h fun r e1 ⟨l, ts, h1, h2⟩ => ?_)
  simp only [h1]
  exact w_bind (w_imp h2 fun ri e2 ⟨k, t, e3, l, ts, j, q1, q2, q3, q4, q⟩ => ⟨_, _, by simp only [q1, q2, q3, q4], q⟩)
theorem ksetix1 {i : Nat} {mi : SemE} {Q : Fl → En → Prop} {r : Od} {e1 : En} {l : Bool} {ts : List T} (h1 : e1[i]? = some (.ow l (.l ts))) (h : W (mi e1) (KSetIx2 i r Q)) : KSetIx1 i mi Q r e1 := ⟨l, ts, h1, h⟩
theorem ksetix2 {i : Nat} {Q : Fl → En → Prop} {r ri : Od} {e2 e3 : En} {k : Int} {t : T} {l : Bool} {ts : List T} {j : Nat} (q1 : ri.val e2 = some (.int k)) (q2 : esc r e2 = some (t, e3)) (q3 : e3[i]? = some (.ow l (.l ts))) (q4 : L2.ixN ts.length k = some j) (q : Q .nx (e3.set i (.ow l (.l (ts.set j t))))) :
    KSetIx2 i r Q ri e2 := ⟨k, t, e3, l, ts, j, q1, q2, q3, q4, q⟩
theorem ixN_nat {n k : Nat} (h : k < n) : L2.ixN n (k : Int) = some k := by unfold L2.ixN; simp [h]
/-! ### tests -/
def KTb (Q : Bool → En → Prop) : Od → En → Prop := fun r e => ∃ k, r.val e = some (.bool k) ∧ Q k e
theorem w_tb {m : SemE} {Q : Bool → En → Prop} {e : En} (h : W (m e) (KTb Q)) : W (tb m e) Q := w_bind (w_imp h fun r e1 ⟨k, h1, q⟩ => ⟨_, _, by simp only [h1], q⟩)
theorem ktb {Q : Bool → En → Prop} {k : Bool} {e : En} (q : Q k e) : KTb Q (.r (.bool k)) e := ⟨k, rfl, q⟩
theorem ktb_s {Q : Bool → En → Prop} {r : Od} {k : Bool} {e : En} (h : r.val e = some (.bool k)) (q : Q k e) : KTb Q r e := ⟨k, h, q⟩
theorem w_tnot {t : SemT} {Q : Bool → En → Prop} {e : En} (h : W (t e) fun k e1 => Q (!k) e1) : W (Ev.tNot t e) Q := w_bind (w_imp h fun k e1 q => ⟨_, _, rfl, q⟩)
def KAnd (t : SemT) (Q : Bool → En → Prop) : Bool → En → Prop := fun k e => (k = true → W (t e) Q) ∧ (k = false → Q false e)
theorem w_tand {t1 t2 : SemT} {Q : Bool → En → Prop} {e : En} (h : W (t1 e) (KAnd t2 Q)) : W (Ev.tAnd t1 t2 e) Q := w_bind (w_imp h fun k e1 q => by
  cases k with
  | true => exact q.1 rfl
  | false => exact ⟨_, _, rfl, q.2 rfl⟩)
theorem kand_t {t : SemT} {Q : Bool → En → Prop} {k : Bool} {e : En} (hk : k = true) (h : W (t e) Q) : KAnd t Q k e := ⟨fun _ => h, fun z => (by rw [hk] at z; cases z)⟩
theorem kand_f {t : SemT} {Q : Bool → En → Prop} {k : Bool} {e : En} (hk : k = false) (h : Q false e) : KAnd t Q k e := ⟨fun z => (by rw [hk] at z; cases z), fun _ => h⟩
def KOr (t : SemT) (Q : Bool → En → Prop) : Bool → En → Prop := fun k e => (k = true → Q true e) ∧ (k = false → W (t e) Q)
theorem w_tor {t1 t2 : SemT} {Q : Bool → En → Prop} {e : En} (h : W (t1 e) (KOr t2 Q)) : W (Ev.tOr t1 t2 e) Q := w_bind (w_imp h fun k e1 q => by
  cases k with
  | true => exact ⟨_, _, rfl, q.1 rfl⟩
  | false => exact q.2 rfl)
theorem kor_t {t : SemT} {Q : Bool → En → Prop} {k : Bool} {e : En} (hk : k = true) (h : Q true e) : KOr t Q k e := ⟨fun _ => h, fun z => (by rw [hk] at z; cases z)⟩
theorem kor_f {t : SemT} {Q : Bool → En → Prop} {k : Bool} {e : En} (hk : k = false) (h : W (t e) Q) : KOr t Q k e := ⟨fun z => (by rw [hk] at z; cases z), fun _ => h⟩
theorem w_true {Q : Bool → En → Prop} {e : En} (h : Q true e) : W (tTrue e) Q := ⟨_, _, rfl, h⟩
/-! ### expressions -/
theorem w_var_v {i : Nat} {t : T} {e : En} {Q : Od → En → Prop} (hi : e[i]? = some (.v t)) (q : Q (.r t) e) : W (eVar i e) Q := ⟨_, _, by unfold eVar; rw [hi], q⟩
theorem w_var_f {i : Nat} {z : Bx} {e : En} {Q : Od → En → Prop} (hi : e[i]? = some (.fz z)) (q : Q (.r z.t) e) : W (eVar i e) Q := ⟨_, _, by unfold eVar; rw [hi], q⟩
theorem w_var_o {i : Nat} {l : Bool} {z : Bx} {e : En} {Q : Od → En → Prop} (hi : e[i]? = some (.ow l z)) (q : Q (.s i) e) : W (eVar i e) Q := ⟨_, _, by unfold eVar; rw [hi], q⟩
theorem w_k {t : T} {e : En} {Q : Od → En → Prop} (q : Q (.r t) e) : W (eK t e) Q := ⟨_, _, rfl, q⟩
def KTwo1 (mb : SemE) (g : T → T → Option Od) (Q : Od → En → Prop) : Od → En → Prop := fun r e1 => W (mb e1) fun r2 e2 => ∃ t u w, r.val e2 = some t ∧ r2.val e2 = some u ∧ g t u = some w ∧ Q w e2
def KTwo2 (r : Od) (g : T → T → Option Od) (Q : Od → En → Prop) : Od → En → Prop := fun r2 e2 => ∃ t u w, r.val e2 = some t ∧ r2.val e2 = some u ∧ g t u = some w ∧ Q w e2
theorem w_op2 {g : T → T → Option Od} {ma mb : SemE} {Q : Od → En → Prop} {e : En} (h : W (ma e) (KTwo1 mb g Q)) : W (eOp2 g ma mb e) Q :=
  w_bind (w_imp h fun r e1 h1 => w_bind (w_imp h1 fun r2 e2 ⟨t, u, w, q1, q2, q3, q⟩ => ⟨_, _, by unfold v2; simp only [q1, q2, q3], q⟩))
theorem ktwo1 {mb : SemE} {g : T → T → Option Od} {Q : Od → En → Prop} {r : Od} {e1 : En} (h : W (mb e1) (KTwo2 r g Q)) : KTwo1 mb g Q r e1 := h
theorem ktwo2 {r r2 : Od} {g : T → T → Option Od} {Q : Od → En → Prop} {e2 : En} {t u : T} {w : Od} (h1 : r.val e2 = some t) (h2 : r2.val e2 = some u) (h3 : g t u = some w) (q : Q w e2) : KTwo2 r g Q r2 e2 := ⟨t, u, w, h1, h2, h3, q⟩
theorem w_anil {e : En} {Q : List Od → En → Prop} (q : Q [] e) : W (aNil e) Q := ⟨_, _, rfl, q⟩
def KCons1 (r : SemA) (Q : List Od → En → Prop) : Od → En → Prop := fun x e1 => W (r e1) fun xs e2 => Q (x :: xs) e2
theorem w_acons {m : SemE} {r : SemA} {Q : List Od → En → Prop} {e : En} (h : W (m e) (KCons1 r Q)) : W (aCons m r e) Q :=
  w_bind (w_imp h fun x e1 h1 => w_bind (w_imp h1 fun xs e2 q => ⟨_, _, rfl, q⟩))
theorem kcons1 {r : SemA} {Q : List Od → En → Prop} {x : Od} {e1 : En} (h : W (r e1) fun xs e2 => Q (x :: xs) e2) : KCons1 r Q x e1 := h
def KFnG (g : List T → Option Od) (Q : Od → En → Prop) : List Od → En → Prop := fun rs e1 => ∃ ts w, vals e1 rs = some ts ∧ g ts = some w ∧ Q w e1
theorem w_fng {g : List T → Option Od} {ma : SemA} {Q : Od → En → Prop} {e : En} (h : W (ma e) (KFnG g Q)) : W (eFn g ma e) Q :=
  w_bind (w_imp h fun rs e1 ⟨ts, w, h1, h2, q⟩ => ⟨_, _, by simp only [h1, h2], q⟩)
theorem kfng {g : List T → Option Od} {Q : Od → En → Prop} {rs : List Od} {e1 : En} {ts : List T} {w : Od} (h1 : vals e1 rs = some ts) (h2 : g ts = some w) (q : Q w e1) : KFnG g Q rs e1 := ⟨ts, w, h1, h2, q⟩
def KDisp (k : List T → Od) (Q : Od → En → Prop) : List Od → En → Prop := fun rs e1 => ∃ ts e2, escs rs e1 = some (ts, e2) ∧ ts.length ≤ sizeLine ∧ Q (k ts) e2
theorem w_tup {m : SemA} {Q : Od → En → Prop} {e : En} (h : W (m e) (KDisp (fun ts => .r (.tuple ts)) Q)) : W (eTup m e) Q :=
  w_bind (w_imp h fun rs e1 ⟨ts, e2, h1, h2, q⟩ => ⟨_, _, by simp only [h1, h2, if_true], q⟩)
theorem w_lst {m : SemA} {Q : Od → En → Prop} {e : En} (h : W (m e) (KDisp (fun ts => .b (.l ts)) Q)) : W (eLst m e) Q :=
  w_bind (w_imp h fun rs e1 ⟨ts, e2, h1, h2, q⟩ => ⟨_, _, by simp only [h1, h2, if_true], q⟩)
theorem kdisp_t {Q : Od → En → Prop} {rs : List Od} {e1 e2 : En} {ts : List T} (h1 : escs rs e1 = some (ts, e2)) (h2 : Nat.ble ts.length 64 = true) (q : Q (.r (.tuple ts)) e2) : KDisp (fun ts => .r (.tuple ts)) Q rs e1 := ⟨ts, e2, h1, Nat.le_trans (Nat.le_of_ble_eq_true h2) (by unfold sizeLine; omega), q⟩
theorem kdisp_l {Q : Od → En → Prop} {rs : List Od} {e1 e2 : En} {ts : List T} (h1 : escs rs e1 = some (ts, e2)) (h2 : Nat.ble ts.length 64 = true) (q : Q (.b (.l ts)) e2) : KDisp (fun ts => .b (.l ts)) Q rs e1 := ⟨ts, e2, h1, Nat.le_trans (Nat.le_of_ble_eq_true h2) (by unfold sizeLine; omega), q⟩
def KCall (n : Nat) (m : FSem) (Q : Od → En → Prop) : List Od → En → Prop := fun rs e1 => rs.length = n ∧ ∃ ss, toSls e1 rs = some ss ∧ (sIdx rs).Nodup ∧ W (m ss) fun r ss' => (∀ i, r ≠ .s i) ∧ Q r (wb rs ss' e1)
theorem callR_w {m : FSem} {rs : List Od} {e1 : En} {ss : List Sl} {Q : Od → En → Prop} (h1 : toSls e1 rs = some ss) (h2 : (sIdx rs).Nodup) (h : W (m ss) fun r ss' => (∀ i, r ≠ .s i) ∧ Q r (wb rs ss' e1)) : W (eCallR m rs e1) Q := by
  obtain ⟨r, ss', h3, h4, q⟩ := h
  unfold eCallR
  simp only [h1, h2, h3, if_true]
  cases r with
  | s i => exact absurd rfl (h4 i)
  | r t => exact ⟨_, _, rfl, q⟩
  | b z => exact ⟨_, _, rfl, q⟩
theorem w_call {n : Nat} {m : FSem} {ma : SemA} {Q : Od → En → Prop} {e : En} (h : W (ma e) (KCall n m Q)) : W (eCall n m ma e) Q :=
  w_bind (w_imp h fun rs e1 ⟨h1, ss, h2, h3, h4⟩ => by rw [if_pos h1]; exact callR_w h2 h3 h4)
/-- what comes back of a call -/
def KBack (rs : List Od) (e1 : En) (Q : Od → En → Prop) : Od → En → Prop := fun r ss' => (∀ i, r ≠ .s i) ∧ Q r (wb rs ss' e1)
theorem kcall {n : Nat} {m : FSem} {Q : Od → En → Prop} {rs : List Od} {e1 : En} {ss : List Sl} (h1 : rs.length = n) (h2 : toSls e1 rs = some ss) (h3 : (sIdx rs).Nodup) (h : W (m ss) (KBack rs e1 Q)) : KCall n m Q rs e1 := ⟨h1, ss, h2, h3, h⟩
def KCallK (n : Nat) (perm : List Nat) (m : FSem) (Q : Od → En → Prop) : List Od → En → Prop := fun rs e1 => ((pick perm rs).length = n ∧ rs.length = n ∧ perm.Nodup) ∧ ∃ ss, toSls e1 (pick perm rs) = some ss ∧ (sIdx (pick perm rs)).Nodup ∧ W (m ss) (KBack (pick perm rs) e1 Q)
theorem w_callk {n : Nat} {perm : List Nat} {m : FSem} {ma : SemA} {Q : Od → En → Prop} {e : En} (h : W (ma e) (KCallK n perm m Q)) : W (eCallK n perm m ma e) Q :=
  w_bind (w_imp h fun rs e1 ⟨h1, ss, h2, h3, h4⟩ => by rw [if_pos h1]; exact callR_w h2 h3 h4)
theorem kcallk {n : Nat} {perm : List Nat} {m : FSem} {Q : Od → En → Prop} {rs : List Od} {e1 : En} {ss : List Sl} (h0 : perm.Nodup) (h1 : (pick perm rs).length = n ∧ rs.length = n) (h2 : toSls e1 (pick perm rs) = some ss) (h3 : (sIdx (pick perm rs)).Nodup) (h : W (m ss) (KBack (pick perm rs) e1 Q)) : KCallK n perm m Q rs e1 := ⟨⟨h1.1, h1.2, h0⟩, ss, h2, h3, h⟩
def KMut2 (i : Nat) (g : List T → List T → Option (List T × T)) (Q : Od → En → Prop) : List Od → En → Prop := fun rs e1 => ∃ us e2 l ts ts' w, escs rs e1 = some (us, e2) ∧ e2[i]? = some (.ow l (.l ts)) ∧ g ts us = some (ts', w) ∧ Q (.r w) (e2.set i (.ow l (.l ts')))
theorem w_mut {i : Nat} {g : List T → List T → Option (List T × T)} {ma : SemA} {Q : Od → En → Prop} {e : En} {l : Bool} {ts : List T} (hi : e[i]? = some (.ow l (.l ts))) (h : W (ma e) (KMut2 i g Q)) : W (eMut i g ma e) Q := by
  unfold eMut
  simp only [hi]
  exact w_bind (w_imp h fun rs e1 ⟨us, e2, l, ts, ts', w, h1, h2, h3, q⟩ => ⟨_, _, by simp only [h1, h2, h3], q⟩)
theorem kmut2 {i : Nat} {g : List T → List T → Option (List T × T)} {Q : Od → En → Prop} {rs : List Od} {e1 e2 : En} {us ts ts' : List T} {w : T} {l : Bool} (h1 : escs rs e1 = some (us, e2)) (h2 : e2[i]? = some (.ow l (.l ts))) (h3 : g ts us = some (ts', w)) (q : Q (.r w) (e2.set i (.ow l (.l ts')))) : KMut2 i g Q rs e1 := ⟨us, e2, l, ts, ts', w, h1, h2, h3, q⟩
theorem gAppend_ok {ts : List T} {u : T} (h : ts.length < sizeLine) : gAppend ts [u] = some (ts ++ [u], .none) := by unfold gAppend; simp only [h, if_true]
def KAndE (mb : SemE) (Q : Od → En → Prop) : Bool → En → Prop := fun k e => (k = true → W (mb e) Q) ∧ (k = false → Q (.r (.bool false)) e)
theorem w_eand {ma mb : SemE} {Q : Od → En → Prop} {e : En} (h : W (tb ma e) (KAndE mb Q)) : W (eAnd ma mb e) Q := w_bind (w_imp h fun k e1 q => by
  cases k with
  | true => exact q.1 rfl
  | false => exact ⟨_, _, rfl, q.2 rfl⟩)
theorem kande_t {mb : SemE} {Q : Od → En → Prop} {k : Bool} {e : En} (hk : k = true) (h : W (mb e) Q) : KAndE mb Q k e := ⟨fun _ => h, fun z => (by rw [hk] at z; cases z)⟩
theorem kande_f {mb : SemE} {Q : Od → En → Prop} {k : Bool} {e : En} (hk : k = false) (h : Q (.r (.bool false)) e) : KAndE mb Q k e := ⟨fun z => (by rw [hk] at z; cases z), fun _ => h⟩
def KOrE (mb : SemE) (Q : Od → En → Prop) : Bool → En → Prop := fun k e => (k = true → Q (.r (.bool true)) e) ∧ (k = false → W (mb e) Q)
theorem w_eor {ma mb : SemE} {Q : Od → En → Prop} {e : En} (h : W (tb ma e) (KOrE mb Q)) : W (eOr ma mb e) Q := w_bind (w_imp h fun k e1 q => by
  cases k with
  | true => exact ⟨_, _, rfl, q.1 rfl⟩
  | false => exact q.2 rfl)
theorem kore_t {mb : SemE} {Q : Od → En → Prop} {k : Bool} {e : En} (hk : k = true) (h : Q (.r (.bool true)) e) : KOrE mb Q k e := ⟨fun _ => h, fun z => (by rw [hk] at z; cases z)⟩
theorem kore_f {mb : SemE} {Q : Od → En → Prop} {k : Bool} {e : En} (hk : k = false) (h : W (mb e) Q) : KOrE mb Q k e := ⟨fun z => (by rw [hk] at z; cases z), fun _ => h⟩
theorem w_enot {ma : SemE} {Q : Od → En → Prop} {e : En} (h : W (tb ma e) fun k e1 => Q (.r (.bool !k)) e1) : W (eNot ma e) Q := w_bind (w_imp h fun k e1 q => ⟨_, _, rfl, q⟩)
def KIfE (ma mb : SemE) (Q : Od → En → Prop) : Bool → En → Prop := fun k e => (k = true → W (ma e) Q) ∧ (k = false → W (mb e) Q)
theorem w_eif {t : SemT} {ma mb : SemE} {Q : Od → En → Prop} {e : En} (h : W (t e) (KIfE ma mb Q)) : W (eIf t ma mb e) Q := w_bind (w_imp h fun k e1 q => by
  cases k with
  | true => exact q.1 rfl
  | false => exact q.2 rfl)
theorem kife_t {ma mb : SemE} {Q : Od → En → Prop} {k : Bool} {e : En} (hk : k = true) (h : W (ma e) Q) : KIfE ma mb Q k e := ⟨fun _ => h, fun z => (by rw [hk] at z; cases z)⟩
theorem kife_f {ma mb : SemE} {Q : Od → En → Prop} {k : Bool} {e : En} (hk : k = false) (h : W (mb e) Q) : KIfE ma mb Q k e := ⟨fun z => (by rw [hk] at z; cases z), fun _ => h⟩
def KNeg (Q : Od → En → Prop) : Od → En → Prop := fun r e => ∃ i, r.val e = some (.int i) ∧ Q (.r (.int (-i))) e
theorem w_neg {m : SemE} {Q : Od → En → Prop} {e : En} (h : W (m e) (KNeg Q)) : W (eNeg m e) Q := w_bind (w_imp h fun r e1 ⟨i, h1, q⟩ => ⟨_, _, by simp only [h1], q⟩)
theorem kneg {Q : Od → En → Prop} {r : Od} {e : En} {i : Int} (h : r.val e = some (.int i)) (q : Q (.r (.int (-i))) e) : KNeg Q r e := ⟨i, h, q⟩
def KIsi (f : T → Bool) (Q : Od → En → Prop) : Od → En → Prop := fun r e => ∃ t, r.val e = some t ∧ Q (.r (.bool (f t))) e
theorem w_isi {f : T → Bool} {m : SemE} {Q : Od → En → Prop} {e : En} (h : W (m e) (KIsi f Q)) : W (eIsi f m e) Q := w_bind (w_imp h fun r e1 ⟨t, h1, q⟩ => ⟨_, _, by simp only [h1], q⟩)
theorem kisi {f : T → Bool} {Q : Od → En → Prop} {r : Od} {e : En} {t : T} (h : r.val e = some t) (q : Q (.r (.bool (f t))) e) : KIsi f Q r e := ⟨t, h, q⟩
/-- slices -/
def KSl (lo hi : SemP) (Q : Od → En → Prop) : Od → En → Prop := fun r e1 => W (lo e1) fun l e2 => W (hi e2) fun h e3 => (∃ ts, r.val e3 = some (.list ts) ∧ Q (.b (.l (cutT ts l h))) e3) ∨ (∃ ts, r.val e3 = some (.tuple ts) ∧ Q (.r (.tuple (cutT ts l h))) e3)
theorem w_sl {m : SemE} {lo hi : SemP} {Q : Od → En → Prop} {e : En} (h : W (m e) (KSl lo hi Q)) : W (eSl m lo hi e) Q :=
  w_bind (w_imp h fun r e1 h1 => w_bind (w_imp h1 fun l e2 h2 => w_bind (w_imp h2 fun x e3 h3 => by
    rcases h3 with ⟨ts, h4, q⟩ | ⟨ts, h4, q⟩
    · exact ⟨_, _, by simp only [h4], q⟩
    · exact ⟨_, _, by simp only [h4], q⟩)))
theorem w_pno {Q : Option Int → En → Prop} {e : En} (q : Q none e) : W (pNo e) Q := ⟨_, _, rfl, q⟩
def KPso (Q : Option Int → En → Prop) : Od → En → Prop := fun r e => ∃ i, r.val e = some (.int i) ∧ Q (some i) e
theorem w_pso {m : SemE} {Q : Option Int → En → Prop} {e : En} (h : W (m e) (KPso Q)) : W (pSo m e) Q := w_bind (w_imp h fun r e1 ⟨i, h1, q⟩ => ⟨_, _, by simp only [h1], q⟩)
theorem kpso {Q : Option Int → En → Prop} {r : Od} {e : En} {i : Int} (h : r.val e = some (.int i)) (q : Q (some i) e) : KPso Q r e := ⟨i, h, q⟩
def KRev (Q : Od → En → Prop) : Od → En → Prop := fun r e3 => (∃ ts, r.val e3 = some (.list ts) ∧ Q (.b (.l ts.reverse)) e3) ∨ (∃ ts, r.val e3 = some (.tuple ts) ∧ Q (.r (.tuple ts.reverse)) e3)
theorem w_rev {m : SemE} {Q : Od → En → Prop} {e : En} (h : W (m e) (KRev Q)) : W (eRev m e) Q :=
  w_bind (w_imp h fun r e1 h1 => by
    rcases h1 with ⟨ts, h4, q⟩ | ⟨ts, h4, q⟩
    · exact ⟨_, _, by simp only [h4], q⟩
    · exact ⟨_, _, by simp only [h4], q⟩)
theorem krev_l {Q : Od → En → Prop} {r : Od} {e : En} {ts : List T} (h : r.val e = some (.list ts)) (q : Q (.b (.l ts.reverse)) e) : KRev Q r e := .inl ⟨ts, h, q⟩
theorem krev_t {Q : Od → En → Prop} {r : Od} {e : En} {ts : List T} (h : r.val e = some (.tuple ts)) (q : Q (.r (.tuple ts.reverse)) e) : KRev Q r e := .inr ⟨ts, h, q⟩
def KIndex1 (ma : SemA) (Q : Od → En → Prop) : Od → En → Prop := fun r e1 => ∃ ts0, r.val e1 = some (.list ts0) ∧ W (ma e1) fun rs e2 => ∃ ts u j, r.val e2 = some (.list ts) ∧ vals e2 rs = some [u] ∧ SeqAt.shaped (.list ts) = true ∧ SeqAt.shaped u = true ∧ findT ts u = some j ∧ Q (.r (.int (j : Nat))) e2
theorem w_index {mo : SemE} {ma : SemA} {Q : Od → En → Prop} {e : En} (h : W (mo e) (KIndex1 ma Q)) : W (eIndex mo ma e) Q :=
  w_bind (w_imp h fun r e1 ⟨ts0, h1, h2⟩ => by
    simp only [h1]
    exact w_bind (w_imp h2 fun rs e2 ⟨ts, u, j, q1, q2, q3, q4, q5, q⟩ => ⟨_, _, by simp only [q1, q2, q3, q4, q5, Bool.and_self, if_true], q⟩))
/-! ### functions -/
def KFun (ss : List Sl) (Q : Od → En → Prop) : Fl → En → Prop := fun fl e' => match fl with
  | .nx => Q (.r .none) (finE ss e')
  | .rt r => Q r (finE ss e')
  | _ => False
theorem w_fun {n : Nat} {b : SemS} {ss : List Sl} {e0 : En} {Q : Od → En → Prop} (h0 : ss.all okArg = true) (he : e0 = ss ++ List.replicate (n - ss.length) .un) (h : W (b e0) (KFun ss Q)) : W (runFn n b ss) Q := by
  obtain ⟨fl, e', h1, q⟩ := h
  unfold runFn
  rw [if_pos h0, ← he, h1]
  cases fl with
  | nx => exact ⟨_, _, rfl, q⟩
  | rt r => exact ⟨_, _, rfl, q⟩
  | bk => exact q.elim
  | ct => exact q.elim
theorem kfun_rt {ss : List Sl} {Q : Od → En → Prop} {r : Od} {e' : En} (q : Q r (finE ss e')) : KFun ss Q (.rt r) e' := q
theorem kfun_nx {ss : List Sl} {Q : Od → En → Prop} {e' : En} (q : Q (.r .none) (finE ss e')) : KFun ss Q .nx e' := q
/-! ### loops -/
def KFor (g : SemG) (b : SemS) (Q : Fl → En → Prop) : List T → En → Prop := fun ts e => W (forS g b ts e) Q
theorem w_for {mi : SemI} {g : SemG} {b : SemS} {Q : Fl → En → Prop} {e : En} (h : W (mi e) (KFor g b Q)) : W (sFor mi g b e) Q := w_bind h
def KOf (Q : List T → En → Prop) : Od → En → Prop := fun r e => ∃ ts e2, (esc r e = some (.list ts, e2) ∨ esc r e = some (.tuple ts, e2)) ∧ Q ts e2
theorem w_iof {m : SemE} {Q : List T → En → Prop} {e : En} (h : W (m e) (KOf Q)) : W (iOf m e) Q := w_bind (w_imp h fun r e1 ⟨ts, e2, h1, q⟩ => by
  rcases h1 with h1 | h1 <;> exact ⟨_, _, by simp only [h1], q⟩)
theorem kof_l {Q : List T → En → Prop} {r : Od} {e e2 : En} {ts : List T} (h : esc r e = some (.list ts, e2)) (q : Q ts e2) : KOf Q r e := ⟨ts, e2, .inl h, q⟩
theorem kof_t {Q : List T → En → Prop} {r : Od} {e e2 : En} {ts : List T} (h : esc r e = some (.tuple ts, e2)) (q : Q ts e2) : KOf Q r e := ⟨ts, e2, .inr h, q⟩
/-- the numbers below n -/
def below (n : Nat) : List T := (List.range n).map fun (k : Nat) => PyData.int (k : Int)
theorem below_is (n : Nat) : intsT 0 n = below n := by
  unfold intsT below
  exact List.map_congr_left fun k _ => by rw [Int.zero_add]
def KR1 (Q : List T → En → Prop) : List Od → En → Prop := fun rs e => ∃ n : Nat, vals e rs = some [.int (n : Int)] ∧ n < 16777216 ∧ Q (below n) e
theorem w_r1 {m : SemA} {Q : List T → En → Prop} {e : En} (h : W (m e) (KR1 Q)) : W (iR1 m e) Q := w_bind (w_imp h fun rs e1 ⟨n, h1, h2, q⟩ => by
  simp only [h1]
  rw [if_pos ⟨by omega, by omega⟩]
  refine ⟨_, _, rfl, ?_⟩
  rw [Int.toNat_natCast, below_is]
  exact q)
theorem kr1 {Q : List T → En → Prop} {rs : List Od} {e : En} {n : Nat} (h1 : vals e rs = some [.int (n : Int)]) (h2 : n < 16777216) (q : Q (below n) e) : KR1 Q rs e := ⟨n, h1, h2, q⟩
theorem kr1_eq {Q : List T → En → Prop} {rs : List Od} {e : En} {j : Int} (n : Nat) (h1 : vals e rs = some [.int j]) (hj : j = (n : Int)) (h2 : n < 16777216) (q : Q (below n) e) : KR1 Q rs e := ⟨n, by rw [h1, hj], h2, q⟩
/-- the numbers from lo on -/
def above (lo : Int) (n : Nat) : List T := (List.range n).map fun (k : Nat) => PyData.int (lo + (k : Int))
def KR2 (Q : List T → En → Prop) : List Od → En → Prop := fun rs e => ∃ i j : Int, vals e rs = some [.int i, .int j] ∧ (-(2 ^ 62) ≤ i ∧ i < 2 ^ 62 ∧ -(2 ^ 62) ≤ j ∧ j < 2 ^ 62) ∧ Q (above i (j - i).toNat) e
theorem w_r2 {m : SemA} {Q : List T → En → Prop} {e : En} (h : W (m e) (KR2 Q)) : W (iR2 m e) Q := w_bind (w_imp h fun rs e1 ⟨i, j, h1, h2, q⟩ => by
  simp only [h1]
  rw [if_pos h2]
  exact ⟨_, _, rfl, q⟩)
def KZip (Q : List T → En → Prop) : List Od → En → Prop := fun rs e => ∃ ts us e2, escs rs e = some ([.list ts, .list us], e2) ∧ Q (pairs ts us) e2
theorem w_izip {m : SemA} {Q : List T → En → Prop} {e : En} (h : W (m e) (KZip Q)) : W (iZip m e) Q := w_bind (w_imp h fun rs e1 ⟨ts, us, e2, h1, q⟩ => ⟨_, _, by simp only [h1], q⟩)
def KEnu (Q : List T → En → Prop) : List Od → En → Prop := fun rs e => ∃ ts e2, escs rs e = some ([.list ts], e2) ∧ Q (enumT ts) e2
theorem w_ienu {m : SemA} {Q : List T → En → Prop} {e : En} (h : W (m e) (KEnu Q)) : W (iEnu m e) Q := w_bind (w_imp h fun rs e1 ⟨ts, e2, h1, q⟩ => ⟨_, _, by simp only [h1], q⟩)
/-- what a turn of a loop leaves -/
def KTurn (I : En → Prop) (R : Od → En → Prop) (X : En → Prop) : Fl → En → Prop := fun fl e => match fl with
  | .nx => I e
  | .ct => I e
  | .rt r => R r e
  | .bk => X e
theorem kturn_nx {I : En → Prop} {R : Od → En → Prop} {X : En → Prop} {e : En} (h : I e) : KTurn I R X .nx e := h
theorem kturn_ct {I : En → Prop} {R : Od → En → Prop} {X : En → Prop} {e : En} (h : I e) : KTurn I R X .ct e := h
theorem kturn_rt {I : En → Prop} {R : Od → En → Prop} {X : En → Prop} {r : Od} {e : En} (h : R r e) : KTurn I R X (.rt r) e := h
theorem kturn_bk {I : En → Prop} {R : Od → En → Prop} {X : En → Prop} {e : En} (h : X e) : KTurn I R X .bk e := h
/-- a loop by what is done -/
theorem for_w {α : Type} (inn : α → T) (I : List α → En → Prop) {g : SemG} {b : SemS} {Q : Fl → En → Prop} : ∀ (xs don : List α) (e : En), I don e →
    (∀ (d2 : List α) (x : α) (rest : List α), xs = d2 ++ x :: rest → ∀ e, I (don ++ d2) e → ∃ e1, g (inn x) e = some e1 ∧ W (b e1) (KTurn (I (don ++ d2 ++ [x])) (fun r e => Q (.rt r) e) (fun e => Q .nx e))) →
    (∀ e, I (don ++ xs) e → Q .nx e) → W (forS g b (xs.map inn) e) Q
  | [], don, e, h, _, q => ⟨_, _, rfl, q e (by rw [List.append_nil]; exact h)⟩
  | x :: xs, don, e, h, s, q => by
    obtain ⟨e1, h1, fl, e2, h2, h3⟩ := s [] x xs rfl e (by rw [List.append_nil]; exact h)
    rw [List.append_nil] at h3
    rw [List.map_cons, forS, h1]
    simp only [h2]
    have go : I (don ++ [x]) e2 → W (forS g b (xs.map inn) e2) Q := fun h3 =>
      for_w inn I xs (don ++ [x]) e2 h3 (fun d2 y rest hx e hi => by
        have := s (x :: d2) y rest (by rw [hx]; rfl) e (by rw [List.append_assoc] at hi; exact hi)
        rw [show don ++ x :: d2 = don ++ [x] ++ d2 by rw [List.append_assoc]; rfl] at this
        exact this) fun e hi => q e (by rw [List.append_assoc] at hi; exact hi)
    cases fl with
    | nx => exact go h3
    | ct => exact go h3
    | rt r => exact ⟨_, _, rfl, h3⟩
    | bk => exact ⟨_, _, rfl, h3⟩
theorem for_on_w {α : Type} (inn : α → T) (xs : List α) (I : List α → En → Prop) {g : SemG} {b : SemS} {Q : Fl → En → Prop} {e : En} (h0 : I [] e)
    (hs : ∀ (don : List α) (x : α) (rest : List α), xs = don ++ x :: rest → ∀ e, I don e → ∃ e1, g (inn x) e = some e1 ∧ W (b e1) (KTurn (I (don ++ [x])) (fun r e => Q (.rt r) e) (fun e => Q .nx e)))
    (hq : ∀ e, I xs e → Q .nx e) : W (forS g b (xs.map inn) e) Q :=
  for_w inn I xs [] e h0 (fun d2 x rest hx e hi => by rw [List.nil_append] at hi ⊢; exact hs d2 x rest hx e hi) hq
theorem range_cut {n : Nat} {don rest : List Nat} {k : Nat} (h : List.range n = don ++ k :: rest) : don = List.range k ∧ k < n := by
  have hk : don.length < n := by
    have := congrArg List.length h
    rw [List.length_range, List.length_append, List.length_cons] at this
    omega
  have e : (List.range n)[don.length]? = some k := by rw [h]; simp
  rw [List.getElem?_range hk] at e
  have e : don.length = k := by simpa using e
  subst e
  refine ⟨?_, hk⟩
  have := congrArg (List.take don.length) h
  rw [List.take_range, List.take_left, Nat.min_eq_left (Nat.le_of_lt hk)] at this
  exact this.symm
/-- a loop over the numbers below n -/
theorem for_below {n : Nat} (I : Nat → En → Prop) {g : SemG} {b : SemS} {Q : Fl → En → Prop} {e : En} (h0 : I 0 e)
    (hs : ∀ k, k < n → ∀ e, I k e → ∃ e1, g (.int (k : Int)) e = some e1 ∧ W (b e1) (KTurn (I (k + 1)) (fun r e => Q (.rt r) e) (fun e => Q .nx e)))
    (hq : ∀ e, I n e → Q .nx e) : W (forS g b (below n) e) Q :=
  for_on_w (fun (k : Nat) => PyData.int (k : Int)) (List.range n) (fun don e => I don.length e) h0 (fun don k rest hx e hi => by
    obtain ⟨h1, h2⟩ := range_cut hx
    have hl : don.length = k := by rw [h1, List.length_range]
    rw [hl] at hi
    obtain ⟨e1, q1, q2⟩ := hs k h2 e hi
    exact ⟨e1, q1, by rw [List.length_append, hl]; exact q2⟩) fun e hi => hq e (by rw [List.length_range] at hi; exact hi)
/-- a comprehension by what is done: each one wanted, some left out -/
theorem comp_w {α : Type} (inn : α → T) (I : List α → List T → En → Prop) {g : SemG} {c : SemT} {m : SemE} {vs : List Nat} {Q : Od → En → Prop} : ∀ (xs don : List α) (acc : List T) (e : En), I don acc e → acc.length + xs.length ≤ sizeLine →
    (∀ (d2 : List α) (x : α) (rest : List α), xs = d2 ++ x :: rest → ∀ acc e, I (don ++ d2) acc e → ∃ e1, g (inn x) (wipeE e vs) = some e1 ∧ W (c e1) fun k e2 => if k then W (m e2) fun r e3 => ∃ u e4, esc r e3 = some (u, e4) ∧ I (don ++ d2 ++ [x]) (acc ++ [u]) (restE e e4 vs) else I (don ++ d2 ++ [x]) acc (restE e e2 vs)) →
    (∀ acc e, I (don ++ xs) acc e → Q (.b (.l acc)) e) → W (compS g c m vs (xs.map inn) acc e) Q
  | [], don, acc, e, h, _, _, q => ⟨_, _, rfl, q acc e (by rw [List.append_nil]; exact h)⟩
  | x :: xs, don, acc, e, h, hl, s, q => by
    obtain ⟨e1, h1, k, e2, h2, h3⟩ := s [] x xs rfl acc e (by rw [List.append_nil]; exact h)
    rw [List.append_nil] at h3
    rw [List.length_cons] at hl
    have go : ∀ acc' e', acc'.length + xs.length ≤ sizeLine → I (don ++ [x]) acc' e' → W (compS g c m vs (xs.map inn) acc' e') Q := fun acc' e' hl' h3 =>
      comp_w inn I xs (don ++ [x]) acc' e' h3 hl' (fun d2 y rest hx acc e hi => by
        have := s (x :: d2) y rest (by rw [hx]; rfl) acc e (by rw [List.append_assoc] at hi; exact hi)
        rw [show don ++ x :: d2 = don ++ [x] ++ d2 by rw [List.append_assoc]; rfl] at this
        exact this) fun acc e hi => q acc e (by rw [List.append_assoc] at hi; exact hi)
    rw [List.map_cons, compS, h1]
    simp only [h2, Out.nx, Out.bind]
    cases k with
    | true =>
      rw [if_pos rfl] at h3
      obtain ⟨r, e3, q1, u, e4, q2, q3⟩ := h3
      simp only [q1, q2, if_true]
      rw [if_pos (show acc.length < sizeLine by omega)]
      exact go _ _ (by rw [List.length_append, List.length_singleton]; omega) q3
    | false =>
      rw [if_neg (by decide)] at h3 ⊢
      exact go _ _ (by omega) h3
def KComp (g : SemG) (c : SemT) (m : SemE) (vs : List Nat) (Q : Od → En → Prop) : List T → En → Prop := fun ts e => W (compS g c m vs ts [] e) Q
theorem w_comp {mi : SemI} {g : SemG} {c : SemT} {m : SemE} {vs : List Nat} {Q : Od → En → Prop} {e : En} (h : W (mi e) (KComp g c m vs Q)) : W (eComp mi g c m vs e) Q := w_bind h
/-- what an element of a comprehension leaves -/
def KElt (I : T → En → Prop) : Od → En → Prop := fun r e3 => ∃ u e4, esc r e3 = some (u, e4) ∧ I u e4
theorem kelt {I : T → En → Prop} {r : Od} {e3 e4 : En} {u : T} (h : esc r e3 = some (u, e4)) (q : I u e4) : KElt I r e3 := ⟨u, e4, h, q⟩
/-- all elements, each by a relation, with a state -/
theorem comp_all {α : Type} (inn : α → T) (xs : List α) (I : List α → List T → En → Prop) {g : SemG} {m : SemE} {vs : List Nat} {Q : Od → En → Prop} {e : En} (h0 : I [] [] e) (hl : xs.length ≤ sizeLine)
    (hs : ∀ (don : List α) (x : α) (rest : List α), xs = don ++ x :: rest → ∀ acc e, I don acc e → ∃ e1, g (inn x) (wipeE e vs) = some e1 ∧ W (m e1) (KElt fun u e4 => I (don ++ [x]) (acc ++ [u]) (restE e e4 vs)))
    (hq : ∀ acc e, I xs acc e → Q (.b (.l acc)) e) : KComp g tTrue m vs Q (xs.map inn) e :=
  comp_w inn I xs [] [] e h0 (by rw [List.length_nil]; omega) (fun d2 x rest hx acc e hi => by
    rw [List.nil_append] at hi ⊢
    obtain ⟨e1, h1, h2⟩ := hs d2 x rest hx acc e hi
    exact ⟨e1, h1, ⟨true, e1, rfl, h2⟩⟩) hq
/-- a comprehension of a function, the state stays -/
theorem comp_map_w {α : Type} (inn out : α → T) (xs : List α) {g : SemG} {m : SemE} {vs : List Nat} {Q : Od → En → Prop} {e : En} (hl : xs.length ≤ sizeLine)
    (hs : ∀ x ∈ xs, ∃ e1, g (inn x) (wipeE e vs) = some e1 ∧ W (m e1) (KElt fun u e4 => u = out x ∧ restE e e4 vs = e))
    (q : Q (.b (.l (xs.map out))) e) : KComp g tTrue m vs Q (xs.map inn) e :=
  comp_all inn xs (fun don acc e' => acc = don.map out ∧ e' = e) ⟨rfl, rfl⟩ hl (fun don x rest hx acc e' ⟨h1, h2⟩ => by
    subst h2
    obtain ⟨e1, q1, q2⟩ := hs x (by rw [hx]; simp)
    refine ⟨e1, q1, w_imp q2 fun r e3 ⟨u, e4, z1, z2, z3⟩ => ⟨u, e4, z1, ?_, z3⟩⟩
    rw [h1, z2, List.map_append]; rfl) fun acc e' ⟨h1, h2⟩ => by rw [h1, h2]; exact q
/-- a comprehension with an if, the state stays -/
theorem comp_filter_w {α : Type} (inn out : α → T) (p : α → Bool) (xs : List α) {g : SemG} {c : SemT} {m : SemE} {vs : List Nat} {Q : Od → En → Prop} {e : En} (hl : xs.length ≤ sizeLine)
    (hs : ∀ x ∈ xs, ∃ e1, g (inn x) (wipeE e vs) = some e1 ∧ W (c e1) fun k e2 => k = p x ∧ (p x = false → restE e e2 vs = e) ∧ (p x = true → W (m e2) (KElt fun u e4 => u = out x ∧ restE e e4 vs = e)))
    (q : Q (.b (.l ((xs.filter p).map out))) e) : KComp g c m vs Q (xs.map inn) e :=
  comp_w inn (fun don acc e' => acc = (don.filter p).map out ∧ e' = e) xs [] [] e ⟨rfl, rfl⟩ (by rw [List.length_nil]; omega) (fun d2 x rest hx acc e' ⟨h1, h2⟩ => by
    subst h2
    rw [List.nil_append] at h1 ⊢
    obtain ⟨e1, q1, k, e2, q2, rfl, q3, q4⟩ := hs x (by rw [hx]; simp)
    refine ⟨e1, q1, _, _, q2, ?_⟩
    cases hp : p x with
    | true =>
      rw [if_pos rfl]
      refine w_imp (q4 hp) fun r e3 ⟨u, e4, z1, z2, z3⟩ => ⟨u, e4, z1, ?_, z3⟩
      rw [h1, z2, List.filter_append, List.map_append, List.filter_cons_of_pos hp]; rfl
    | false =>
      rw [if_neg (by decide)]
      refine ⟨?_, q3 hp⟩
      rw [h1, List.filter_append, List.filter_cons_of_neg (by rw [hp]; decide), List.filter_nil, List.append_nil]) fun acc e' ⟨h1, h2⟩ => by rw [h1, h2]; exact q
/-! ### whiles -/
/-! ### operations -/
theorem gMul_ok {i j : Int} (h : mulOk i j = true) : gMul (.int i) (.int j) = some (.r (.int (i * j))) := by simp only [gMul, h, if_true]
theorem gMod_ok {i j : Int} (h : 0 < j) : gMod (.int i) (.int j) = some (.r (.int (i % j))) := by unfold gMod gII; simp only [h, decide_true, if_true]
theorem gDiv_ok {i j : Int} (h : 0 < j) (h2 : j.natAbs.log2 < 9000) : gDiv (.int i) (.int j) = some (.r (.int (i / j))) := by unfold gDiv gII; simp only [h, h2, and_self, decide_true, if_true]
theorem gIx_l {ts : List T} {k : Nat} {x : T} (h : ts[k]? = some x) : gIx (.list ts) (.int (k : Int)) = some (.r x) := by
  have := (List.getElem?_eq_some_iff.mp h)
  unfold gIx L2.atI
  simp [ixN_nat this.1, h]
theorem gIx_t {ts : List T} {k : Nat} {x : T} (h : ts[k]? = some x) : gIx (.tuple ts) (.int (k : Int)) = some (.r x) := by
  have := (List.getElem?_eq_some_iff.mp h)
  unfold gIx L2.atI
  simp [ixN_nat this.1, h]
theorem gAdd_tt {xs ys : List T} (h : xs.length + ys.length ≤ sizeLine) : gAdd (.tuple xs) (.tuple ys) = some (.r (.tuple (xs ++ ys))) := by simp only [gAdd, h, if_true]
theorem gAdd_ll {xs ys : List T} (h : xs.length + ys.length ≤ sizeLine) : gAdd (.list xs) (.list ys) = some (.b (.l (xs ++ ys))) := by simp only [gAdd, h, if_true]
theorem gEq_i (k : Bool → Bool) (i j : Int) : gEq k (.int i) (.int j) = some (.r (.bool (k (decide (i = j))))) := rfl
theorem gEq_n (i j : Int) : gEq not (.int i) (.int j) = some (.r (.bool (decide (i ≠ j)))) := by
  show some (Od.r (.bool (!decide (i = j)))) = _
  congr 3
  by_cases h : i = j <;> simp [h]
theorem gEq_e (i j : Int) : gEq id (.int i) (.int j) = some (.r (.bool (decide (i = j)))) := rfl
/-! ### repeating, slices again -/
def KRep1 (mb : SemE) (Q : Od → En → Prop) : Od → En → Prop := fun ra e1 => W (mb e1) fun rb e2 => ∃ (us : List T) (n : Nat), ra = .b (.l us) ∧ rb.val e2 = some (.int (n : Int)) ∧ (n ≤ 65536 ∧ us.length ≤ 16) ∧ Q (.b (.l (List.replicate n us).flatten)) e2
def KRep2 (ra : Od) (Q : Od → En → Prop) : Od → En → Prop := fun rb e2 => ∃ (us : List T) (n : Nat), ra = .b (.l us) ∧ rb.val e2 = some (.int (n : Int)) ∧ (n ≤ 65536 ∧ us.length ≤ 16) ∧ Q (.b (.l (List.replicate n us).flatten)) e2
theorem w_rep {ma mb : SemE} {Q : Od → En → Prop} {e : En} (h : W (ma e) (KRep1 mb Q)) : W (eRep ma mb e) Q :=
  w_bind (w_imp h fun ra e1 h1 => w_bind (w_imp h1 fun rb e2 ⟨us, n, q1, q2, ⟨q3, q4⟩, q⟩ => by
    subst q1
    simp only [q2]
    rw [if_pos ⟨by omega, by omega, q4⟩, Int.toNat_natCast]
    exact ⟨_, _, rfl, q⟩))
theorem krep1 {mb : SemE} {Q : Od → En → Prop} {ra : Od} {e1 : En} (h : W (mb e1) (KRep2 ra Q)) : KRep1 mb Q ra e1 := h
def KSl2 (r : Od) (l : Option Int) (Q : Od → En → Prop) : Option Int → En → Prop := fun h e3 => (∃ ts, r.val e3 = some (.list ts) ∧ Q (.b (.l (cutT ts l h))) e3) ∨ (∃ ts, r.val e3 = some (.tuple ts) ∧ Q (.r (.tuple (cutT ts l h))) e3)
def KSl1 (hi : SemP) (r : Od) (Q : Od → En → Prop) : Option Int → En → Prop := fun l e2 => W (hi e2) (KSl2 r l Q)
theorem ksl_ {lo hi : SemP} {Q : Od → En → Prop} {r : Od} {e1 : En} (h : W (lo e1) (KSl1 hi r Q)) : KSl lo hi Q r e1 := h
theorem ksl1 {hi : SemP} {Q : Od → En → Prop} {r : Od} {l : Option Int} {e2 : En} (h : W (hi e2) (KSl2 r l Q)) : KSl1 hi r Q l e2 := h
theorem ksl2_l {Q : Od → En → Prop} {r : Od} {l h : Option Int} {e3 : En} {ts : List T} (h1 : r.val e3 = some (.list ts)) (q : Q (.b (.l (cutT ts l h))) e3) : KSl2 r l Q h e3 := .inl ⟨ts, h1, q⟩
theorem ksl2_t {Q : Od → En → Prop} {r : Od} {l h : Option Int} {e3 : En} {ts : List T} (h1 : r.val e3 = some (.tuple ts)) (q : Q (.r (.tuple (cutT ts l h))) e3) : KSl2 r l Q h e3 := .inr ⟨ts, h1, q⟩
/-! ### index -/
def KIndex2 (r : Od) (Q : Od → En → Prop) : List Od → En → Prop := fun rs e2 => ∃ ts u j, r.val e2 = some (.list ts) ∧ vals e2 rs = some [u] ∧ SeqAt.shaped (.list ts) = true ∧ SeqAt.shaped u = true ∧ findT ts u = some j ∧ Q (.r (.int (j : Nat))) e2
theorem kindex1_ {ma : SemA} {Q : Od → En → Prop} {r : Od} {e1 : En} {ts0 : List T} (h0 : r.val e1 = some (.list ts0)) (h : W (ma e1) (KIndex2 r Q)) : KIndex1 ma Q r e1 := ⟨ts0, h0, h⟩
/-! ### dicts whose keys are tuples -/
def KMGet (i : Nat) (Q : Od → En → Prop) : Od → En → Prop := fun r e1 => ∃ t l kvs kk u, r.val e1 = some t ∧ e1[i]? = some (.ow l (.m kvs)) ∧ keyM t = some kk ∧ mLook kvs t = some u ∧ Q (.r u) e1
theorem w_mget {i : Nat} {mk : SemE} {Q : Od → En → Prop} {e : En} {l : Bool} {kvs : List (T × T)} (hi : e[i]? = some (.ow l (.m kvs))) (h : W (mk e) (KMGet i Q)) : W (eMGet i mk e) Q := by
  unfold eMGet
  simp only [hi]
  exact w_bind (w_imp h fun r e1 ⟨t, l, kvs, kk, u, q1, q2, q3, q4, q⟩ => ⟨_, _, by simp only [q1, q2, q3, q4], q⟩)
theorem kmget {i : Nat} {Q : Od → En → Prop} {r : Od} {e1 : En} {t : T} {l : Bool} {kvs : List (T × T)} {kk : List L2.Key} {u : T} (q1 : r.val e1 = some t) (q2 : e1[i]? = some (.ow l (.m kvs))) (q3 : keyM t = some kk) (q4 : mLook kvs t = some u) (q : Q (.r u) e1) : KMGet i Q r e1 := ⟨t, l, kvs, kk, u, q1, q2, q3, q4, q⟩
def KMIn (neg : Bool) (i : Nat) (Q : Od → En → Prop) : Od → En → Prop := fun r e1 => ∃ t l kvs kk c, r.val e1 = some t ∧ e1[i]? = some (.ow l (.m kvs)) ∧ keyM t = some kk ∧ (mLook kvs t).isSome = c ∧ Q (.r (.bool (if neg then !c else c))) e1
theorem w_min {neg : Bool} {i : Nat} {mk : SemE} {Q : Od → En → Prop} {e : En} (h : W (mk e) (KMIn neg i Q)) : W (eMIn neg i mk e) Q :=
  w_bind (w_imp h fun r e1 ⟨t, l, kvs, kk, c, q1, q2, q3, q4, q⟩ => ⟨_, _, by simp only [q1, q2, q3, q4], q⟩)
theorem kmin {neg : Bool} {i : Nat} {Q : Od → En → Prop} {r : Od} {e1 : En} {t : T} {l : Bool} {kvs : List (T × T)} {kk : List L2.Key} {c : Bool} (q1 : r.val e1 = some t) (q2 : e1[i]? = some (.ow l (.m kvs))) (q3 : keyM t = some kk) (q4 : (mLook kvs t).isSome = c) (q : Q (.r (.bool (if neg then !c else c))) e1) : KMIn neg i Q r e1 := ⟨t, l, kvs, kk, c, q1, q2, q3, q4, q⟩
def KMPut2 (i : Nat) (r : Od) (Q : Fl → En → Prop) : Od → En → Prop := fun rk e2 => ∃ t u e3 l kvs kk, rk.val e2 = some t ∧ esc r e2 = some (u, e3) ∧ e3[i]? = some (.ow l (.m kvs)) ∧ keyM t = some kk ∧ kvs.length < sizeLine ∧ Q .nx (e3.set i (.ow l (.m (mPut kvs t u))))
def KMPut1 (i : Nat) (mk : SemE) (Q : Fl → En → Prop) : Od → En → Prop := fun r e1 => ∃ l kvs, e1[i]? = some (.ow l (.m kvs)) ∧ W (mk e1) (KMPut2 i r Q)
theorem w_mput {i : Nat} {mk mv : SemE} {Q : Fl → En → Prop} {e : En} (h : W (mv e) (KMPut1 i mk Q)) : W (sMPut i mk mv e) Q := by
  refine w_bind (w_imp h fun r e1 ⟨l, kvs, h1, h2⟩ => ?_)
  simp only [h1]
  exact w_bind (w_imp h2 fun rk e2 ⟨t, u, e3, l, kvs, kk, q1, q2, q3, q4, q5, q⟩ => ⟨_, _, by simp only [q1, q2, q3, q4]; rw [if_pos q5], q⟩)
theorem kmput1 {i : Nat} {mk : SemE} {Q : Fl → En → Prop} {r : Od} {e1 : En} {l : Bool} {kvs : List (T × T)} (h1 : e1[i]? = some (.ow l (.m kvs))) (h : W (mk e1) (KMPut2 i r Q)) : KMPut1 i mk Q r e1 := ⟨l, kvs, h1, h⟩
theorem kmput2 {i : Nat} {r : Od} {Q : Fl → En → Prop} {rk : Od} {e2 e3 : En} {t u : T} {l : Bool} {kvs : List (T × T)} {kk : List L2.Key} (q1 : rk.val e2 = some t) (q2 : esc r e2 = some (u, e3)) (q3 : e3[i]? = some (.ow l (.m kvs))) (q4 : keyM t = some kk) (q5 : kvs.length < sizeLine) (q : Q .nx (e3.set i (.ow l (.m (mPut kvs t u))))) : KMPut2 i r Q rk e2 := ⟨t, u, e3, l, kvs, kk, q1, q2, q3, q4, q5, q⟩
theorem w_mnew {Q : Od → En → Prop} {e : En} (q : Q (.b (.m [])) e) : W (eMNew e) Q := ⟨_, _, rfl, q⟩
def KMD2 (rk : Od) (Q : Od → En → Prop) : Od → En → Prop := fun rv e2 => ∃ t u kk, rk.val e2 = some t ∧ rv = .r u ∧ keyM t = some kk ∧ Q (.b (.m [(t, u)])) e2
def KMD1 (mv : SemE) (Q : Od → En → Prop) : Od → En → Prop := fun rk e1 => W (mv e1) (KMD2 rk Q)
theorem w_mdict1 {mk mv : SemE} {Q : Od → En → Prop} {e : En} (h : W (mk e) (KMD1 mv Q)) : W (eMDict1 mk mv e) Q :=
  w_bind (w_imp h fun rk e1 h1 => w_bind (w_imp h1 fun rv e2 ⟨t, u, kk, q1, q2, q3, q⟩ => by subst q2; exact ⟨_, _, by simp only [q1, q3], q⟩))
theorem kmd1 {mv : SemE} {Q : Od → En → Prop} {rk : Od} {e1 : En} (h : W (mv e1) (KMD2 rk Q)) : KMD1 mv Q rk e1 := h
theorem kmd2 {rk : Od} {Q : Od → En → Prop} {u : T} {e2 : En} {t : T} {kk : List L2.Key} (q1 : rk.val e2 = some t) (q3 : keyM t = some kk) (q : Q (.b (.m [(t, u)])) e2) : KMD2 rk Q (.r u) e2 := ⟨t, u, kk, q1, rfl, q3, q⟩
/-! ### dicts whose keys are ints -/
def KDGet (i : Nat) (Q : Od → En → Prop) : Od → En → Prop := fun r e1 => ∃ t l kvs kk u, r.val e1 = some t ∧ e1[i]? = some (.ow l (.d kvs)) ∧ keyOf t = some kk ∧ dLook kvs t = some u ∧ Q (.r u) e1
theorem w_dget {i : Nat} {mk : SemE} {Q : Od → En → Prop} {e : En} {l : Bool} {kvs : List (T × T)} (hi : e[i]? = some (.ow l (.d kvs))) (h : W (mk e) (KDGet i Q)) : W (eDGet i mk e) Q := by
  unfold eDGet
  simp only [hi]
  exact w_bind (w_imp h fun r e1 ⟨t, l, kvs, kk, u, q1, q2, q3, q4, q⟩ => ⟨_, _, by simp only [q1, q2, q3, q4], q⟩)
theorem kdget {i : Nat} {Q : Od → En → Prop} {r : Od} {e1 : En} {t : T} {l : Bool} {kvs : List (T × T)} {kk : L2.Key} {u : T} (q1 : r.val e1 = some t) (q2 : e1[i]? = some (.ow l (.d kvs))) (q3 : keyOf t = some kk) (q4 : dLook kvs t = some u) (q : Q (.r u) e1) : KDGet i Q r e1 := ⟨t, l, kvs, kk, u, q1, q2, q3, q4, q⟩
def KDPut2 (i : Nat) (r : Od) (Q : Fl → En → Prop) : Od → En → Prop := fun rk e2 => ∃ t u e3 l kvs kk, rk.val e2 = some t ∧ esc r e2 = some (u, e3) ∧ e3[i]? = some (.ow l (.d kvs)) ∧ keyOf t = some kk ∧ kvs.length < sizeLine ∧ Q .nx (e3.set i (.ow l (.d (dPut kvs t u))))
def KDPut1 (i : Nat) (mk : SemE) (Q : Fl → En → Prop) : Od → En → Prop := fun r e1 => ∃ l kvs, e1[i]? = some (.ow l (.d kvs)) ∧ W (mk e1) (KDPut2 i r Q)
theorem w_dput {i : Nat} {mk mv : SemE} {Q : Fl → En → Prop} {e : En} (h : W (mv e) (KDPut1 i mk Q)) : W (sDPutV i mk mv e) Q := by
  refine w_bind (w_imp h fun r e1 ⟨l, kvs, h1, h2⟩ => ?_)
  simp only [h1]
  exact w_bind (w_imp h2 fun rk e2 ⟨t, u, e3, l, kvs, kk, q1, q2, q3, q4, q5, q⟩ => ⟨_, _, by simp only [q1, q2, q3, q4]; rw [if_pos q5], q⟩)
theorem kdput1 {i : Nat} {mk : SemE} {Q : Fl → En → Prop} {r : Od} {e1 : En} {l : Bool} {kvs : List (T × T)} (h1 : e1[i]? = some (.ow l (.d kvs))) (h : W (mk e1) (KDPut2 i r Q)) : KDPut1 i mk Q r e1 := ⟨l, kvs, h1, h⟩
theorem kdput2 {i : Nat} {r : Od} {Q : Fl → En → Prop} {rk : Od} {e2 e3 : En} {t u : T} {l : Bool} {kvs : List (T × T)} {kk : L2.Key} (q1 : rk.val e2 = some t) (q2 : esc r e2 = some (u, e3)) (q3 : e3[i]? = some (.ow l (.d kvs))) (q4 : keyOf t = some kk) (q5 : kvs.length < sizeLine) (q : Q .nx (e3.set i (.ow l (.d (dPut kvs t u))))) : KDPut2 i r Q rk e2 := ⟨t, u, e3, l, kvs, kk, q1, q2, q3, q4, q5, q⟩
theorem w_eq {α : Type} {o : Out α} {a : α} {b : En} (h : W o fun r e => r = a ∧ e = b) : o = .ok a b := by
  obtain ⟨r, e, h, rfl, rfl⟩ := h
  exact h
/-! ### dict(xs), xs[i], xs[j] = v, w -/
def KDictP (Q : Od → En → Prop) : List Od → En → Prop := fun rs e1 => ∃ ts e2 kvs, escs rs e1 = some ([.list ts], e2) ∧ pairsOf ts = some kvs ∧ Q (.b (.d (mergeT [] kvs))) e2
theorem w_dictp {m : SemA} {Q : Od → En → Prop} {e : En} (h : W (m e) (KDictP Q)) : W (eDictP m e) Q :=
  w_bind (w_imp h fun rs e1 ⟨ts, e2, kvs, h1, h2, q⟩ => ⟨_, _, by simp only [h1, h2], q⟩)
theorem kdictp {Q : Od → En → Prop} {rs : List Od} {e1 e2 : En} {ts : List T} {kvs : List (T × T)} (h1 : escs rs e1 = some ([.list ts], e2)) (h2 : pairsOf ts = some kvs) (q : Q (.b (.d (mergeT [] kvs))) e2) : KDictP Q rs e1 := ⟨ts, e2, kvs, h1, h2, q⟩
def KPutS (tgs : List (Nat × SemE)) (Q : Fl → En → Prop) : List Od → En → Prop := fun rs e1 => ∃ ts e2, escs rs e1 = some (ts, e2) ∧ (ts.length = tgs.length ∧ ts.length ≤ sizeLine) ∧ W (putS tgs ts e2) Q
theorem w_putS {tgs : List (Nat × SemE)} {m : SemA} {Q : Fl → En → Prop} {e : En} (h : W (m e) (KPutS tgs Q)) : W (sPutS tgs m e) Q :=
  w_bind (w_imp h fun rs e1 ⟨ts, e2, h1, h2, q⟩ => by simp only [h1]; rw [if_pos h2]; exact q)
theorem kputS {tgs : List (Nat × SemE)} {Q : Fl → En → Prop} {rs : List Od} {e1 e2 : En} {ts : List T} (h1 : escs rs e1 = some (ts, e2)) (h2 : ts.length = tgs.length) (h3 : Nat.ble ts.length 64 = true) (q : W (putS tgs ts e2) Q) : KPutS tgs Q rs e1 := ⟨ts, e2, h1, ⟨h2, Nat.le_trans (Nat.le_of_ble_eq_true h3) (by unfold sizeLine; omega)⟩, q⟩
theorem putS_nil {Q : Fl → En → Prop} {e : En} (q : Q .nx e) : W (putS [] [] e) Q := ⟨_, _, by unfold putS; rfl, q⟩
def KPutL (i : Nat) (t : T) (tgs : List (Nat × SemE)) (ts : List T) (Q : Fl → En → Prop) : Od → En → Prop := fun ri e2 => ∃ k l us j, ri.val e2 = some (.int k) ∧ e2[i]? = some (.ow l (.l us)) ∧ L2.ixN us.length k = some j ∧ W (putS tgs ts (e2.set i (.ow l (.l (us.set j t))))) Q
theorem putS_l {i : Nat} {mk : SemE} {tgs : List (Nat × SemE)} {t : T} {ts : List T} {Q : Fl → En → Prop} {e : En} {l : Bool} {us : List T} (hi : e[i]? = some (.ow l (.l us))) (h : W (mk e) (KPutL i t tgs ts Q)) : W (putS ((i, mk) :: tgs) (t :: ts) e) Q := by
  unfold putS
  simp only [hi]
  exact w_bind (w_imp h fun ri e2 ⟨k, l, us, j, q1, q2, q3, q⟩ => by simp only [q1, q2, q3]; exact q)
theorem kputL {i : Nat} {t : T} {tgs : List (Nat × SemE)} {ts : List T} {Q : Fl → En → Prop} {ri : Od} {e2 : En} {k : Int} {l : Bool} {us : List T} {j : Nat} (q1 : ri.val e2 = some (.int k)) (q2 : e2[i]? = some (.ow l (.l us))) (q3 : L2.ixN us.length k = some j) (q : W (putS tgs ts (e2.set i (.ow l (.l (us.set j t))))) Q) : KPutL i t tgs ts Q ri e2 := ⟨k, l, us, j, q1, q2, q3, q⟩
def KPutD (i : Nat) (t : T) (tgs : List (Nat × SemE)) (ts : List T) (Q : Fl → En → Prop) : Od → En → Prop := fun ri e2 => ∃ u l kvs kk, ri.val e2 = some u ∧ e2[i]? = some (.ow l (.d kvs)) ∧ keyOf u = some kk ∧ kvs.length < sizeLine ∧ W (putS tgs ts (e2.set i (.ow l (.d (dPut kvs u t))))) Q
theorem putS_d {i : Nat} {mk : SemE} {tgs : List (Nat × SemE)} {t : T} {ts : List T} {Q : Fl → En → Prop} {e : En} {l : Bool} {kvs : List (T × T)} (hi : e[i]? = some (.ow l (.d kvs))) (h : W (mk e) (KPutD i t tgs ts Q)) : W (putS ((i, mk) :: tgs) (t :: ts) e) Q := by
  unfold putS
  simp only [hi]
  exact w_bind (w_imp h fun ri e2 ⟨u, l, kvs, kk, q1, q2, q3, q4, q⟩ => by simp only [q1, q2, q3]; rw [if_pos q4]; exact q)
theorem kputD {i : Nat} {t : T} {tgs : List (Nat × SemE)} {ts : List T} {Q : Fl → En → Prop} {ri : Od} {e2 : En} {u : T} {l : Bool} {kvs : List (T × T)} {kk : L2.Key} (q1 : ri.val e2 = some u) (q2 : e2[i]? = some (.ow l (.d kvs))) (q3 : keyOf u = some kk) (q4 : kvs.length < sizeLine) (q : W (putS tgs ts (e2.set i (.ow l (.d (dPut kvs u t))))) Q) : KPutD i t tgs ts Q ri e2 := ⟨u, l, kvs, kk, q1, q2, q3, q4, q⟩
/-! ### range from, zip, enumerate, max -/
def KR2w (Q : List T → En → Prop) : List Od → En → Prop := fun rs e => ∃ i j : Int, vals e rs = some [.int i, .int j] ∧ Q (above i (j - i).toNat) e
theorem w_r2w {m : SemA} {Q : List T → En → Prop} {e : En} (h : W (m e) (KR2w Q)) : W (iR2w m e) Q := w_bind (w_imp h fun rs e1 ⟨i, j, h1, q⟩ => ⟨_, _, by simp only [h1]; rfl, q⟩)
theorem kr2w {Q : List T → En → Prop} {rs : List Od} {e : En} {i j : Int} (h1 : vals e rs = some [.int i, .int j]) (q : Q (above i (j - i).toNat) e) : KR2w Q rs e := ⟨i, j, h1, q⟩
theorem kzip {Q : List T → En → Prop} {rs : List Od} {e e2 : En} {ts us : List T} (h1 : escs rs e = some ([.list ts, .list us], e2)) (q : Q (pairs ts us) e2) : KZip Q rs e := ⟨ts, us, e2, h1, q⟩
theorem kenu {Q : List T → En → Prop} {rs : List Od} {e e2 : En} {ts : List T} (h1 : escs rs e = some ([.list ts], e2)) (q : Q (enumT ts) e2) : KEnu Q rs e := ⟨ts, e2, h1, q⟩
/-! ### the same, the state written out -/
theorem kseq_nx_n {b : SemS} {Q : Fl → En → Prop} {e e2 : En} (he : e2 = e) (h : W (b e2) Q) : KSeq b Q .nx e := by subst he; exact h
theorem kback_r_n {rs : List Od} {e1 e2 : En} {Q : Od → En → Prop} {t : T} {ss' : En} (he : e2 = wb rs ss' e1) (q : Q (.r t) e2) : KBack rs e1 Q (.r t) ss' := by subst he; exact ⟨fun _ z => (by cases z), q⟩
theorem kback_b_n {rs : List Od} {e1 e2 : En} {Q : Od → En → Prop} {z : Bx} {ss' : En} (he : e2 = wb rs ss' e1) (q : Q (.b z) e2) : KBack rs e1 Q (.b z) ss' := by subst he; exact ⟨fun _ z => (by cases z), q⟩
def KZip2 (Q : List T → En → Prop) : List Od → En → Prop := fun rs e => ∃ ts us e2, (escs rs e = some ([.list ts, .list us], e2) ∨ escs rs e = some ([.tuple ts, .tuple us], e2)) ∧ Q (pairs ts us) e2
theorem w_izip2 {m : SemA} {Q : List T → En → Prop} {e : En} (h : W (m e) (KZip2 Q)) : W (iZip2 m e) Q := w_bind (w_imp h fun rs e1 ⟨ts, us, e2, h1, q⟩ => by
  rcases h1 with h1 | h1 <;> exact ⟨_, _, by simp only [h1], q⟩)
theorem kzip2_l {Q : List T → En → Prop} {rs : List Od} {e e2 : En} {ts us : List T} (h1 : escs rs e = some ([.list ts, .list us], e2)) (q : Q (pairs ts us) e2) : KZip2 Q rs e := ⟨ts, us, e2, .inl h1, q⟩
theorem kzip2_t {Q : List T → En → Prop} {rs : List Od} {e e2 : En} {ts us : List T} (h1 : escs rs e = some ([.tuple ts, .tuple us], e2)) (q : Q (pairs ts us) e2) : KZip2 Q rs e := ⟨ts, us, e2, .inr h1, q⟩
/-! ### a walk over two names -/
def KCompG (g : SemG) (c : SemT) (m : SemE) (vs : List Nat) (Q : Od → En → Prop) : List T × (En → Prop) → En → Prop := fun p e => W (compSG p.2 g c m vs p.1 [] e) Q
theorem w_compG {mi : SemIG} {g : SemG} {c : SemT} {m : SemE} {vs : List Nat} {Q : Od → En → Prop} {e : En} (h : W (mi e) (KCompG g c m vs Q)) : W (eCompG mi g c m vs e) Q := w_bind h
theorem w_izipV_l {i j : Nat} {e : En} {Q : List T × (En → Prop) → En → Prop} {si sj : Sl} {ts us : List T} (h1 : e[i]? = some si) (h2 : e[j]? = some sj) (h3 : seqOf si = some (.inl ts)) (h4 : seqOf sj = some (.inl us)) (q : Q (pairs ts us, fun e' => e'[i]? = some si ∧ e'[j]? = some sj) e) : W (iZipV i j e) Q :=
  ⟨_, _, by unfold iZipV; simp only [h1, h2, h3, h4], q⟩
theorem w_izipV_r {i j : Nat} {e : En} {Q : List T × (En → Prop) → En → Prop} {si sj : Sl} {ts us : List T} (h1 : e[i]? = some si) (h2 : e[j]? = some sj) (h3 : seqOf si = some (.inr ts)) (h4 : seqOf sj = some (.inr us)) (q : Q (pairs ts us, fun e' => e'[i]? = some si ∧ e'[j]? = some sj) e) : W (iZipV i j e) Q :=
  ⟨_, _, by unfold iZipV; simp only [h1, h2, h3, h4], q⟩
/-! ### texts -/
theorem gStr_ok {i : Int} (h : i.natAbs.log2 < 1920) : gStr [.int i] = some (.r (.str (toString i))) := if_pos h
def KJoin1 (m : SemE) (Q : Od → En → Prop) : Od → En → Prop := fun ro e0 => ∃ sep, ro = .r (.str sep) ∧ W (m e0) fun r e1 => ∃ ts ys, (r.val e1 = some (.list ts) ∨ r.val e1 = some (.tuple ts)) ∧ strsOf ts = some ys ∧ (ys.map (·.length)).sum + ys.length * sep.length ≤ 16777216 ∧ Q (.r (.str (Txt.join sep ys))) e1
def KJoin2 (sep : Str) (Q : Od → En → Prop) : Od → En → Prop := fun r e1 => ∃ ts ys, (r.val e1 = some (.list ts) ∨ r.val e1 = some (.tuple ts)) ∧ strsOf ts = some ys ∧ (ys.map (·.length)).sum + ys.length * sep.length ≤ 16777216 ∧ Q (.r (.str (Txt.join sep ys))) e1
theorem w_join {mo m : SemE} {Q : Od → En → Prop} {e : En} (h : W (mo e) (KJoin1 m Q)) : W (eJoin mo m e) Q :=
  w_bind (w_imp h fun ro e0 ⟨sep, h0, h1⟩ => by
    subst h0
    exact w_bind (w_imp h1 fun r e1 ⟨ts, ys, q1, q2, q3, q⟩ => by
      rcases q1 with q1 | q1 <;> exact ⟨_, _, by simp only [q1, q2]; rw [if_pos q3], q⟩))
theorem kjoin1 {m : SemE} {Q : Od → En → Prop} {sep : Str} {e0 : En} (h : W (m e0) (KJoin2 sep Q)) : KJoin1 m Q (.r (.str sep)) e0 := ⟨sep, rfl, h⟩
theorem kjoin2 {sep : Str} {Q : Od → En → Prop} {r : Od} {e1 : En} {ts : List T} {ys : List Str} (q1 : r.val e1 = some (.list ts)) (q2 : strsOf ts = some ys) (q3 : (ys.map (·.length)).sum + ys.length * sep.length ≤ 16777216) (q : Q (.r (.str (Txt.join sep ys))) e1) : KJoin2 sep Q r e1 := ⟨ts, ys, .inl q1, q2, q3, q⟩
def KFmt (Q : Od → En → Prop) : Od → En → Prop := fun r e1 => (∃ y, r.val e1 = some (.str y) ∧ y.length ≤ sizeLine ∧ Q (.r (.str y)) e1) ∨ ∃ i, r.val e1 = some (.int i) ∧ i.natAbs.log2 < 1920 ∧ Q (.r (.str (toString i))) e1
theorem w_fmt {m : SemE} {Q : Od → En → Prop} {e : En} (h : W (m e) (KFmt Q)) : W (eFmt m e) Q :=
  w_bind (w_imp h fun r e1 h1 => by
    rcases h1 with ⟨y, q1, q2, q⟩ | ⟨i, q1, q2, q⟩
    · exact ⟨_, _, by simp only [q1]; rw [if_pos q2], q⟩
    · exact ⟨_, _, by simp only [q1]; rw [if_pos q2], q⟩)
theorem kfmt_s {Q : Od → En → Prop} {r : Od} {e1 : En} {y : Str} (q1 : r.val e1 = some (.str y)) (q2 : y.length ≤ sizeLine) (q : Q (.r (.str y)) e1) : KFmt Q r e1 := .inl ⟨y, q1, q2, q⟩
theorem kfmt_i {Q : Od → En → Prop} {r : Od} {e1 : En} {i : Int} (q1 : r.val e1 = some (.int i)) (q2 : i.natAbs.log2 < 1920) (q : Q (.r (.str (toString i))) e1) : KFmt Q r e1 := .inr ⟨i, q1, q2, q⟩
theorem w_js_nil {acc : Str} {Q : Od → En → Prop} {e : En} (q : Q (.r (.str acc)) e) : W (eJs [] acc e) Q := ⟨_, _, rfl, q⟩
def KJs (ms : List SemE) (acc : Str) (Q : Od → En → Prop) : Od → En → Prop := fun r e1 => ∃ y, r = .r (.str y) ∧ (acc ++ y).length ≤ sizeLine ∧ W (eJs ms (acc ++ y) e1) Q
theorem w_js {m : SemE} {ms : List SemE} {acc : Str} {Q : Od → En → Prop} {e : En} (h : W (m e) (KJs ms acc Q)) : W (eJs (m :: ms) acc e) Q :=
  w_bind (w_imp h fun r e1 ⟨y, q1, q2, q⟩ => by subst q1; simp only []; rw [if_pos q2]; exact q)
theorem kjs {ms : List SemE} {acc y : Str} {Q : Od → En → Prop} {e1 : En} (q2 : (acc ++ y).length ≤ sizeLine) (q : W (eJs ms (acc ++ y) e1) Q) : KJs ms acc Q (.r (.str y)) e1 := ⟨y, rfl, q2, q⟩
theorem gAdd_ss {x y : Str} (h : x.length + y.length ≤ sizeLine) : gAdd (.str x) (.str y) = some (.r (.str (x ++ y))) := by simp only [gAdd, h, if_true]
theorem w_inmG {i : Nat} {e : En} {Q : List T × (En → Prop) → En → Prop} {si : Sl} {ts : List T} (h1 : e[i]? = some si) (h3 : seqOf si = some (.inl ts)) (q : Q (ts, fun e' => e'[i]? = some si) e) : W (iNmG i e) Q :=
  ⟨_, _, by unfold iNmG; simp only [h1, h3], q⟩
end Wp

set_option Elab.async false
set_option linter.all false
namespace Wp
open PySem PySem.Spec PyProof.Rows L2 Ev
/-! ### texts -/
def KSM1b (f : Str → Str → Option Od) (a : Str) (Q : Od → En → Prop) : Od → En → Prop := fun r e => ∃ b w, r = .r (.str b) ∧ f a b = some w ∧ Q w e
def KSM1 (f : Str → Str → Option Od) (m : SemE) (Q : Od → En → Prop) : Od → En → Prop := fun r e => ∃ a, r = .r (.str a) ∧ W (m e) (KSM1b f a Q)
def KSM0 (f : Str → Option Od) (Q : Od → En → Prop) : Od → En → Prop := fun r e => ∃ a w, r = .r (.str a) ∧ f a = some w ∧ Q w e
theorem ksm1b {f : Str → Str → Option Od} {a b : Str} {Q : Od → En → Prop} {e : En} {w : Od} (h : f a b = some w) (q : Q w e) : KSM1b f a Q (.r (.str b)) e := ⟨b, w, rfl, h, q⟩
theorem ksm1 {f : Str → Str → Option Od} {m : SemE} {a : Str} {Q : Od → En → Prop} {e : En} (h : W (m e) (KSM1b f a Q)) : KSM1 f m Q (.r (.str a)) e := ⟨a, rfl, h⟩
theorem ksm0 {f : Str → Option Od} {a : Str} {Q : Od → En → Prop} {e : En} {w : Od} (h : f a = some w) (q : Q w e) : KSM0 f Q (.r (.str a)) e := ⟨a, w, rfl, h, q⟩
theorem w_sm1 {f : Str → Str → Option Od} {mo m : SemE} {Q : Od → En → Prop} {e : En} (h : W (mo e) (KSM1 f m Q)) : W (eSM1 f mo m e) Q := by
  unfold eSM1
  refine w_bind (w_imp h ?_)
  rintro _ e1 ⟨a, rfl, h2⟩
  refine w_bind (w_imp h2 ?_)
  rintro _ e2 ⟨b, w, rfl, h3, q⟩
  exact w_of (by simp only [h3]) q
theorem w_sm0 {f : Str → Option Od} {mo : SemE} {Q : Od → En → Prop} {e : En} (h : W (mo e) (KSM0 f Q)) : W (eSM0 f mo e) Q := by
  unfold eSM0
  refine w_bind (w_imp h ?_)
  rintro _ e1 ⟨a, w, rfl, h3, q⟩
  exact w_of (by simp only [h3]) q
def KSlS2 (z : Str) (l : Option Int) (Q : Od → En → Prop) : Option Int → En → Prop := fun h e => z.length ≤ sizeLine ∧ Q (.r (.str (cutS z l h))) e
def KSlS1 (z : Str) (hi : SemP) (Q : Od → En → Prop) : Option Int → En → Prop := fun l e => W (hi e) (KSlS2 z l Q)
def KSlS (lo hi : SemP) (Q : Od → En → Prop) : Od → En → Prop := fun r e => ∃ z, r = .r (.str z) ∧ W (lo e) (KSlS1 z hi Q)
theorem ksls3 {z : Str} {l h : Option Int} {Q : Od → En → Prop} {e : En} (hz : z.length ≤ sizeLine) (q : Q (.r (.str (cutS z l h))) e) : KSlS2 z l Q h e := ⟨hz, q⟩
theorem ksls2 {z : Str} {hi : SemP} {l : Option Int} {Q : Od → En → Prop} {e : En} (h : W (hi e) (KSlS2 z l Q)) : KSlS1 z hi Q l e := h
theorem ksls1 {z : Str} {lo hi : SemP} {Q : Od → En → Prop} {e : En} (h : W (lo e) (KSlS1 z hi Q)) : KSlS lo hi Q (.r (.str z)) e := ⟨z, rfl, h⟩
theorem w_slS {m : SemE} {lo hi : SemP} {Q : Od → En → Prop} {e : En} (h : W (m e) (KSlS lo hi Q)) : W (eSlS m lo hi e) Q := by
  unfold eSlS
  refine w_bind (w_imp h ?_)
  rintro _ e1 ⟨z, rfl, h2⟩
  refine w_bind (w_imp h2 ?_)
  intro l e2 h3
  refine w_bind (w_imp h3 ?_)
  intro u e3 ⟨hz, q⟩
  exact w_of (if_pos hz) q
end Wp

set_option Elab.async false
set_option linter.all false
namespace Wp
open PySem PySem.Spec PyProof.Rows L2 Ev
/-! ### signs of texts -/
def KItx (Q : List T → En → Prop) : Od → En → Prop := fun r e => ∃ z, r = .r (.str z) ∧ Q (signsT z) e
theorem w_itx {m : SemE} {Q : List T → En → Prop} {e : En} (h : W (m e) (KItx Q)) : W (iTx m e) Q := by
  unfold iTx
  refine w_bind (w_imp h ?_)
  rintro _ e1 ⟨z, rfl, q⟩
  exact w_of rfl q
theorem kitx {z : Str} {Q : List T → En → Prop} {e : En} (q : Q (signsT z) e) : KItx Q (.r (.str z)) e := ⟨z, rfl, q⟩
/-! ### replace -/
def KRepl2 (y x : Str) (zs : List Str) (Q : Od → En → Prop) : Od → En → Prop := fun r e => ∃ (k : Nat) (z : Str), r = .r (.int (k : Int)) ∧ x.length ≤ 1000000 ∧ zs[k]? = some z ∧ ((y == z) = false ∧ z.length ≤ 10) ∧ Q (.r (.str (Txt.replace x y z))) e
def KRepl (y : Str) (zs : List Str) (mi : SemE) (Q : Od → En → Prop) : Od → En → Prop := fun r e => ∃ x, r = .r (.str x) ∧ W (mi e) (KRepl2 y x zs Q)
theorem w_repl {mo mi : SemE} {y : Str} {zs : List Str} {Q : Od → En → Prop} {e : En} (h : W (mo e) (KRepl y zs mi Q)) : W (eRepl mo y zs mi e) Q := by
  unfold eRepl
  refine w_bind (w_imp h ?_)
  rintro _ e1 ⟨x, rfl, h2⟩
  refine w_bind (w_imp h2 ?_)
  rintro _ e2 ⟨k, z, rfl, hx, hz, h3, q⟩
  refine w_of ?_ q
  show (if 0 ≤ (k : Int) ∧ x.length ≤ 1000000 then _ else _) = _
  rw [if_pos ⟨by omega, hx⟩]
  simp only [Int.toNat_natCast, hz]
  rw [if_pos h3]
theorem krepl1 {y x : Str} {zs : List Str} {mi : SemE} {Q : Od → En → Prop} {e : En} (h : W (mi e) (KRepl2 y x zs Q)) : KRepl y zs mi Q (.r (.str x)) e := ⟨x, rfl, h⟩
/-! ### what raises -/
def Wx {α : Type} (o : Out α) (c : Str) (t : T) (Q : En → Prop) : Prop := ∃ e, o = .exc c t e ∧ Q e
section
variable {α β : Type} {c : Str} {t : T} {Q : En → Prop} {e : En}
theorem wx_bind2 {o : Out α} {f : α → En → Out β} (h : W o fun a e => Wx (f a e) c t Q) : Wx (o.bind f) c t Q := by
  obtain ⟨a, e1, h1, e2, h2, h3⟩ := h
  exact ⟨e2, by rw [h1]; exact h2, h3⟩
theorem wx_raise {me : SemE} (h : W (me e) fun r e1 => r = .r t ∧ Q e1) : Wx (sRaise c me e) c t Q := by
  obtain ⟨_, e1, h1, rfl, h2⟩ := h
  exact ⟨e1, by unfold sRaise; rw [h1]; rfl, h2⟩
theorem wx_callR {m : FSem} {rs : List Od} {e1 : En} {ss : List Sl} (h1 : toSls e1 rs = some ss) (h2 : (sIdx rs).Nodup) (h : Wx (m ss) c t fun ss' => Q (wb rs ss' e1)) : Wx (eCallR m rs e1) c t Q := by
  obtain ⟨ss', h3, q⟩ := h
  unfold eCallR
  simp only [h1, h2, h3, if_true]
  exact ⟨_, rfl, q⟩
def XCall (n : Nat) (m : FSem) (c : Str) (t : T) (Q : En → Prop) : List Od → En → Prop := fun rs e1 => rs.length = n ∧ ∃ ss, toSls e1 rs = some ss ∧ (sIdx rs).Nodup ∧ Wx (m ss) c t fun ss' => Q (wb rs ss' e1)
theorem wx_call {n : Nat} {m : FSem} {ma : SemA} (h : W (ma e) (XCall n m c t Q)) : Wx (eCall n m ma e) c t Q :=
  wx_bind2 (w_imp h fun rs e1 ⟨h1, ss, h2, h3, h4⟩ => by rw [if_pos h1]; exact wx_callR h2 h3 h4)
theorem xcall {n : Nat} {m : FSem} {rs : List Od} {e1 : En} {ss : List Sl} (h1 : rs.length = n) (h2 : toSls e1 rs = some ss) (h3 : (sIdx rs).Nodup) (h : Wx (m ss) c t fun ss' => Q (wb rs ss' e1)) : XCall n m c t Q rs e1 := ⟨h1, ss, h2, h3, h⟩
end
end Wp

set_option linter.all false
namespace Mt
abbrev Pt := Int × Int × Nat
def part (ks : List (List Pt)) (k j : Nat) : Pt := (((ks[k]?).getD [])[j]?).getD (0, 0, 0)
structure Good (B : Nat) (ks : List (List Pt)) : Prop where
  hb : B = 2 ∨ B = 3
  pos : 0 < ks.length
  few : ks.length ≤ 20
  len : ∀ ps ∈ ks, ps.length = B * B
  rng : ∀ ps ∈ ks, ∀ p ∈ ps, (0 ≤ p.1 ∧ p.1 < (B : Int)) ∧ (0 ≤ p.2.1 ∧ p.2.1 < (B : Int)) ∧ p.2.2 < ks.length
  nod : ∀ ps ∈ ks, (ps.map fun p => (p.1, p.2.1)).Nodup
theorem Good.row {B : Nat} {ks : List (List Pt)} (g : Good B ks) {k : Nat} (hk : k < ks.length) : ∃ ps, ks[k]? = some ps ∧ ps ∈ ks ∧ ps.length = B * B :=
  ⟨ks[k], List.getElem?_eq_getElem hk, List.getElem_mem hk, g.len _ (List.getElem_mem hk)⟩
theorem Good.at_ {B : Nat} {ks : List (List Pt)} (g : Good B ks) {k j : Nat} (hk : k < ks.length) (hj : j < B * B) : ∃ ps, ks[k]? = some ps ∧ ps[j]? = some (part ks k j) ∧ part ks k j ∈ ps ∧ ps ∈ ks := by
  obtain ⟨ps, h1, h2, h3⟩ := g.row hk
  have h4 : ps[j]? = some (ps[j]'(by omega)) := List.getElem?_eq_getElem (by omega)
  have h5 : part ks k j = ps[j]'(by omega) := by unfold part; rw [h1, Option.getD_some, h4, Option.getD_some]
  exact ⟨ps, h1, by rw [h5]; exact h4, by rw [h5]; exact List.getElem_mem _, h2⟩
/-- figures, the greatest first -/
def digs (N n : Nat) : Nat → List Nat
  | 0 => []
  | d + 1 => (n / N ^ d % N) :: digs N n d
abbrev S3 := Nat × Int × Int
def stp (B : Nat) (ks : List (List Pt)) (s : S3) (j : Nat) : S3 := ((part ks s.1 j).2.2, s.2.1 * (B : Int) + (part ks s.1 j).1, s.2.2 * (B : Int) + (part ks s.1 j).2.1)
def run (B : Nat) (ks : List (List Pt)) (s : S3) (ds : List Nat) : S3 := ds.foldl (stp B ks) s
/-- the cell of a number -/
def cellF (B : Nat) (ks : List (List Pt)) (k d n : Nat) : Int × Int := (run B ks (k, 0, 0) (digs (B * B) n d)).2
def mv (B d : Nat) (p : Pt) (c : Int × Int) : Int × Int := (p.1 * (B : Int) ^ d + c.1, p.2.1 * (B : Int) ^ d + c.2)
end Mt

set_option linter.all false
namespace Mt
/-! ### from the cell back to the number -/
/-- a number of figures -/
def num (N : Nat) (ds : List Nat) : Nat := ds.foldl (fun a j => a * N + j) 0
/-! ### a book begun elsewhere -/
end Mt
namespace Mt
end Mt

set_option linter.all false
namespace Mt
/-! ### postures, and backward, at all depths -/
def qz1 (w : Int) (c : Int × Int) : Int × Int := (w - 1 - c.2, c.1)
def qz (w : Int) (way mir : Nat) (c : Int × Int) : Int × Int :=
  let d := (match way with | 0 => c | 1 => qz1 w c | 2 => qz1 w (qz1 w c) | _ => qz1 w (qz1 w (qz1 w c)))
  match mir with | 0 => d | _ => (d.2, d.1)
/-! #### backward -/
end Mt

set_option linter.all false
namespace Mt
/-! ### threads that are the same at all depths -/
/-! ### postures of a thread -/
def rvn (N b d n : Nat) : Nat := if b = 1 then N ^ d - 1 - n else n
/-- the thread of kind 0 is the same in a posture, gone so -/
def Pos (B : Nat) (ks : List (List Pt)) (p : Nat × Nat) (b : Nat) : Prop := ∀ d n, n < (B * B) ^ d → qz ((B : Int) ^ d) p.1 p.2 (cellF B ks 0 d (rvn (B * B) b d n)) = cellF B ks 0 d n
end Mt

namespace Lw
set_option linter.all false
set_option maxRecDepth 100000
set_option maxHeartbeats 4000000
open PySem PySem.Spec Ev Pu Mt Wp
theorem log2_small {i : Int} {k : Nat} (h : i.natAbs < 2 ^ k) (hk : 0 < k) : i.natAbs.log2 < k := by
  rcases Nat.eq_zero_or_pos i.natAbs with z | z
  · rw [z]; exact hk
  · exact (Nat.log2_lt (by omega)).mpr h
theorem int_small {i : Int} {k : Nat} (h0 : 0 ≤ i) (h : i < 2 ^ k) (hk : 0 < k) : i.natAbs.log2 < k := by
  refine log2_small ?_ hk
  have e : (i.natAbs : Int) = i := Int.natAbs_of_nonneg h0
  have : (i.natAbs : Int) < ((2 ^ k : Nat) : Int) := by rw [e]; push_cast; exact h
  exact_mod_cast this
def nT (n : Nat) : T := .int (n : Int)
/-! ### draws -/
structure Dk where
  a : Int
  b : Int
  h : 0 ≤ b ∧ b < 18446744073709551616
def dkT (D : Dk) : List T := [.int D.a, .int D.b]
def nxt (b : Int) : Int := (b * 6364136223846793005 + 1442695040888963407) % 18446744073709551616
theorem nxt_h (b : Int) : 0 ≤ nxt b ∧ nxt b < 18446744073709551616 := ⟨Int.emod_nonneg _ (by decide), Int.emod_lt_of_pos _ (by decide)⟩
def tkV (D : Dk) (n : Nat) : Nat := if 0 < D.a then (D.a % (n : Int)).toNat else (nxt D.b / 131072 % (n : Int)).toNat
def tkD (D : Dk) (n : Nat) : Dk := if 0 < D.a then ⟨D.a / (n : Int), D.b, D.h⟩ else ⟨D.a, nxt D.b, nxt_h D.b⟩
theorem tkV_lt (D : Dk) {n : Nat} (h : 0 < n) : tkV D n < n := by
  unfold tkV
  split
  · have h1 := Int.emod_nonneg D.a (show (n : Int) ≠ 0 by omega)
    have h2 := Int.emod_lt_of_pos D.a (show (0 : Int) < n by omega)
    omega
  · have h1 := Int.emod_nonneg (nxt D.b / 131072) (show (n : Int) ≠ 0 by omega)
    have h2 := Int.emod_lt_of_pos (nxt D.b / 131072) (show (0 : Int) < n by omega)
    omega
theorem p64 (e : En) : eOp2 gPow (eK (.int 2)) (eK (.int 64)) e = .ok (.r (.int 18446744073709551616)) e := rfl
theorem p33 (e : En) : eOp2 gPow (eK (.int 2)) (eK (.int 17)) e = .ok (.r (.int 131072)) e := rfl
theorem p18 (e : En) : eOp2 gPow (eK (.int 10)) (eK (.int 18)) e = .ok (.r (.int 1000000000000000000)) e := rfl
theorem tk1 (q64 q33 : SemE) (c1 c2 a b n : Int) (ha : 0 < a) (hn : 0 < n) (hl : n.natAbs.log2 < 9000) :
    runFn 3 (sSeq (sIf (tb (eOp2 gGt (eOp2 gIx (eVar 0) (eK (.int 0))) (eK (.int 0)))) (sSeq (sSet 2 (eOp2 gMod (eFn gInt (aCons (eOp2 gIx (eVar 0) (eK (.int 0))) aNil)) (eVar 1))) (sSeq (sSetIx 0 (eK (.int 0)) (eOp2 gDiv (eOp2 gIx (eVar 0) (eK (.int 0))) (eVar 1))) (sRet (eVar 2)))) sNil) (sSeq (sSetIx 0 (eK (.int 1)) (eOp2 gMod (eFn gInt (aCons (eOp2 gAdd (eOp2 gMul (eOp2 gIx (eVar 0) (eK (.int 1))) (eK (.int c1))) (eK (.int c2))) aNil)) q64)) (sRet (eOp2 gMod (eOp2 gDiv (eOp2 gIx (eVar 0) (eK (.int 1))) q33) (eVar 1))))) [.ow true (.l [.int a, .int b]), .v (.int n)] = .ok (.r (.int (a % n))) [.ow true (.l [.int (a / n), .int b]), .v (.int n)] := by
  simp only [ha, hn, hl, eMLenE, eRep, eDLen, eNNew, eNLen, eListRng, gMax1, gSum, eMIn, eMInE, sMPut, eMNew, eMDict1, eMLen, eListZip, Option.isSome_none, Option.isSome_some, eMut, gAppend, gInsert, eRev, eIndex, eLenSet, gInt, gLen, gTuple, gList, gAbs, gMax2, gMin2, gDivmod, gEq_int, runFn, sSeq, sIf, sSet, sSetIx, sRet, sRetN, sNil, sDrop, sAsg, sFor, sPar, sNever, setO, retO, setOs, presc, eVar, eK, eTwo, v2, eFn, eDisp, eTup, eLst, eCall, eCallR, eCallK, pick, toSl, toSls, sIdx, wb, bk, esc, escs, vals, aNil, aCons, tb, Ev.tNot, Ev.tAnd, Ev.tOr, gGt, gLt, gGe, gLe, gSub, gMod, gDiv, gPow, gAdd, gMul, gInt, mulOk, g1, g2, fInt, fLen, fTuple, fList, fAbs, eAnd, eOr, eNot, eIf, eNeg, eIsi, gII, gIx, gIsN, gN, gT, gsNil, gsCons, isLent_eq, lentO, lentS_v, lentS_un, lentS_f, lentS_t, lentS_z, finE, okArg, Out.bind, Od.val, slVal, Bx.tr, Bx.t, isN, L2.ixN, L2.atI, isInt, isBool, isTuple, isList, isStr, isDict, isTL, Nat.zero_le, id_eq, eq_self, Pu.c0, Pu.c1, Pu.c2, Pu.c3, Pu.c4, Pu.c5, Pu.c6, Pu.c7, Pu.c8, Pu.c9, Pu.s1, Pu.s2, Pu.s3, Pu.s4, Pu.s5, Pu.s6, Pu.s7, Pu.s8, Pu.s9, Int.reduceEq, Nat.reduceMul, Int.ofNat_eq_natCast, wipeE, restE, exists_eq_left', Option.some.injEq, Out.ok.injEq, Prod.mk.injEq, Option.bind_some, Option.bind_none, Option.bind_eq_bind, List.getElem?_cons_zero, List.getElem?_cons_succ, List.getElem?_nil, List.set_cons_zero, List.set_cons_succ, List.set_nil, List.length_cons, List.length_nil, List.replicate_succ, List.replicate_zero, List.cons_append, List.nil_append, List.append_nil, List.all_cons, List.all_nil, Bool.and_true, Bool.true_and, Bool.and_false, Bool.false_and, if_true, if_false, ite_true, ite_false, List.nodup_cons, List.nodup_nil, List.not_mem_nil, List.mem_cons, not_false_eq_true, and_true, true_and, reduceIte, Nat.reduceAdd, Nat.reduceSub, Nat.reduceEqDiff, Nat.reduceLT, Nat.reduceLeDiff, Option.map_some, Option.map_none, Option.getD_some, reduceCtorEq, or_self, or_false, false_or, not_true_eq_false, decide_true, decide_false, Bool.not_true, Bool.not_false, Bool.false_eq_true, Nat.zero_add, Nat.add_zero, forall_const, Int.reduceLT, Int.reduceLE, Int.reduceNeg, Int.reduceToNat, Int.toNat_natCast, and_self]
theorem tk2 (q64 q33 : SemE) (c1 c2 k64 k33 a b n : Int) (h64 : ∀ e, q64 e = .ok (.r (.int k64)) e) (h33 : ∀ e, q33 e = .ok (.r (.int k33)) e) (ha : ¬ 0 < a) (hn : 0 < n) (hk : 0 < k64) (hk2 : 0 < k33 ∧ k33.natAbs.log2 < 9000) (hm : b.natAbs.log2 + c1.natAbs.log2 < 1000000) :
    runFn 3 (sSeq (sIf (tb (eOp2 gGt (eOp2 gIx (eVar 0) (eK (.int 0))) (eK (.int 0)))) (sSeq (sSet 2 (eOp2 gMod (eFn gInt (aCons (eOp2 gIx (eVar 0) (eK (.int 0))) aNil)) (eVar 1))) (sSeq (sSetIx 0 (eK (.int 0)) (eOp2 gDiv (eOp2 gIx (eVar 0) (eK (.int 0))) (eVar 1))) (sRet (eVar 2)))) sNil) (sSeq (sSetIx 0 (eK (.int 1)) (eOp2 gMod (eFn gInt (aCons (eOp2 gAdd (eOp2 gMul (eOp2 gIx (eVar 0) (eK (.int 1))) (eK (.int c1))) (eK (.int c2))) aNil)) q64)) (sRet (eOp2 gMod (eOp2 gDiv (eOp2 gIx (eVar 0) (eK (.int 1))) q33) (eVar 1))))) [.ow true (.l [.int a, .int b]), .v (.int n)] = .ok (.r (.int ((b * c1 + c2) % k64 / k33 % n))) [.ow true (.l [.int a, .int ((b * c1 + c2) % k64)]), .v (.int n)] := by
  simp only [ha, hn, hk, hk2, hm, h64, h33, eMLenE, eRep, eDLen, eNNew, eNLen, eListRng, gMax1, gSum, eMIn, eMInE, sMPut, eMNew, eMDict1, eMLen, eListZip, Option.isSome_none, Option.isSome_some, eMut, gAppend, gInsert, eRev, eIndex, eLenSet, gInt, gLen, gTuple, gList, gAbs, gMax2, gMin2, gDivmod, gEq_int, runFn, sSeq, sIf, sSet, sSetIx, sRet, sRetN, sNil, sDrop, sAsg, sFor, sPar, sNever, setO, retO, setOs, presc, eVar, eK, eTwo, v2, eFn, eDisp, eTup, eLst, eCall, eCallR, eCallK, pick, toSl, toSls, sIdx, wb, bk, esc, escs, vals, aNil, aCons, tb, Ev.tNot, Ev.tAnd, Ev.tOr, gGt, gLt, gGe, gLe, gSub, gMod, gDiv, gPow, gAdd, gMul, gInt, mulOk, g1, g2, fInt, fLen, fTuple, fList, fAbs, eAnd, eOr, eNot, eIf, eNeg, eIsi, gII, gIx, gIsN, gN, gT, gsNil, gsCons, isLent_eq, lentO, lentS_v, lentS_un, lentS_f, lentS_t, lentS_z, finE, okArg, Out.bind, Od.val, slVal, Bx.tr, Bx.t, isN, L2.ixN, L2.atI, isInt, isBool, isTuple, isList, isStr, isDict, isTL, Nat.zero_le, id_eq, eq_self, Pu.c0, Pu.c1, Pu.c2, Pu.c3, Pu.c4, Pu.c5, Pu.c6, Pu.c7, Pu.c8, Pu.c9, Pu.s1, Pu.s2, Pu.s3, Pu.s4, Pu.s5, Pu.s6, Pu.s7, Pu.s8, Pu.s9, Int.reduceEq, Nat.reduceMul, Int.ofNat_eq_natCast, wipeE, restE, exists_eq_left', Option.some.injEq, Out.ok.injEq, Prod.mk.injEq, Option.bind_some, Option.bind_none, Option.bind_eq_bind, List.getElem?_cons_zero, List.getElem?_cons_succ, List.getElem?_nil, List.set_cons_zero, List.set_cons_succ, List.set_nil, List.length_cons, List.length_nil, List.replicate_succ, List.replicate_zero, List.cons_append, List.nil_append, List.append_nil, List.all_cons, List.all_nil, Bool.and_true, Bool.true_and, Bool.and_false, Bool.false_and, if_true, if_false, ite_true, ite_false, List.nodup_cons, List.nodup_nil, List.not_mem_nil, List.mem_cons, not_false_eq_true, and_true, true_and, reduceIte, Nat.reduceAdd, Nat.reduceSub, Nat.reduceEqDiff, Nat.reduceLT, Nat.reduceLeDiff, Option.map_some, Option.map_none, Option.getD_some, reduceCtorEq, or_self, or_false, false_or, not_true_eq_false, decide_true, decide_false, Bool.not_true, Bool.not_false, Bool.false_eq_true, Nat.zero_add, Nat.add_zero, forall_const, Int.reduceLT, Int.reduceLE, Int.reduceNeg, Int.reduceToNat, Int.toNat_natCast, and_self]
theorem take_ok (D : Dk) (n : Nat) (h : 0 < n) (hl : (n : Int).natAbs.log2 < 9000) : m__law_take [.ow true (.l (dkT D)), .v (nT n)] = .ok (.r (nT (tkV D n))) [.ow true (.l (dkT (tkD D n))), .v (nT n)] := by
  have hn : (0 : Int) < n := by omega
  by_cases ha : 0 < D.a
  · have e1 : nT (tkV D n) = .int (D.a % (n : Int)) := by
      have := Int.emod_nonneg D.a (show (n : Int) ≠ 0 by omega)
      unfold nT tkV; rw [if_pos ha]; congr 1; omega
    have e2 : dkT (tkD D n) = [.int (D.a / (n : Int)), .int D.b] := by unfold tkD; rw [if_pos ha]; rfl
    rw [e1, e2]
    exact tk1 _ _ _ _ _ _ _ ha hn hl
  · have e1 : nT (tkV D n) = .int (nxt D.b / 131072 % (n : Int)) := by
      have := Int.emod_nonneg (nxt D.b / 131072) (show (n : Int) ≠ 0 by omega)
      unfold nT tkV; rw [if_neg ha]; congr 1; omega
    have e2 : dkT (tkD D n) = [.int D.a, .int (nxt D.b)] := by unfold tkD; rw [if_neg ha]; rfl
    rw [e1, e2]
    have hb := int_small (k := 64) D.h.1 D.h.2 (by decide)
    have hc : (6364136223846793005 : Int).natAbs.log2 < 64 := log2_small (by decide) (by decide)
    have hd : (131072 : Int).natAbs.log2 < 64 := log2_small (by decide) (by decide)
    exact tk2 _ _ _ _ _ _ _ _ _ p64 p33 ha hn (by decide) ⟨by decide, by omega⟩ (by omega)
theorem tk_ok (D : Dk) (n : Nat) (h : 0 < n) (hl : n < 2 ^ 60) : m__law_take [.ow true (.l (dkT D)), .v (nT n)] = .ok (.r (nT (tkV D n))) [.ow true (.l (dkT (tkD D n))), .v (nT n)] := by
  refine take_ok D n h ?_
  have := int_small (i := (n : Int)) (k := 60) (by omega) (by exact_mod_cast hl) (by decide)
  omega
/-! ### the deck -/
theorem ld_b (c0 c1 c2 c3 c4 c5 cell at_ s1 s2 : Int) (q : SemE) (k18 : Int) (b0 : T) (l0 : Sl) (h18 : ∀ e, q e = .ok (.r (.int k18)) e) (hc2 : 0 < c2) (hc5 : 0 < c5)
    (hm0 : c0.natAbs.log2 + at_.natAbs.log2 < 1000000) (hm1 : c3.natAbs.log2 + at_.natAbs.log2 < 1000000)
    (e1 : (cell + c0 * at_ + c1) % c2 = s1) (e2 : (s1 * s1 * s1 + c3 * at_ + c4) % c5 = s2) (hs : s1.natAbs.log2 + s1.natAbs.log2 < 1000000) (hs2 : (s1 * s1).natAbs.log2 + s1.natAbs.log2 < 1000000) :
    (sSeq (sSet 3 (eOp2 gMod (eFn gInt (aCons (eOp2 gAdd (eOp2 gAdd (eVar 2) (eOp2 gMul (eK (.int c0)) (eVar 1))) (eK (.int c1))) aNil)) (eK (.int c2)))) (sSeq (sSet 3 (eOp2 gMod (eFn gInt (aCons (eOp2 gAdd (eOp2 gAdd (eOp2 gMul (eOp2 gMul (eVar 3) (eVar 3)) (eVar 3)) (eOp2 gMul (eK (.int c3)) (eVar 1))) (eK (.int c4))) aNil)) (eK (.int c5)))) (sSeq (sIf (tb (eOp2 gLt (eVar 2) q)) (sRet (eLst (aCons (eK (.int 0)) (aCons (eVar 3) aNil)))) sNil) (sRet (eLst (aCons (eOp2 gSub (eVar 2) q) (aCons (eVar 3) aNil)))))))
      [.v b0, .v (.int at_), .v (.int cell), .un] = .ok (.rt (.b (.l [.int (if cell < k18 then 0 else cell - k18), .int s2]))) [.v b0, .v (.int at_), .v (.int cell), .v (.int s2)] := by
  by_cases hk : cell < k18
  · simp only [h18, hc2, hc5, hm0, hm1, e1, e2, hs, hs2, hk, eMLenE, eRep, eDLen, eNNew, eNLen, eListRng, gMax1, gSum, eMIn, eMInE, sMPut, eMNew, eMDict1, eMLen, eListZip, Option.isSome_none, Option.isSome_some, eMut, gAppend, gInsert, eRev, eIndex, eLenSet, gInt, gLen, gTuple, gList, gAbs, gMax2, gMin2, gDivmod, gEq_int, runFn, sSeq, sIf, sSet, sSetIx, sRet, sRetN, sNil, sDrop, sAsg, sFor, sPar, sNever, setO, retO, setOs, presc, eVar, eK, eTwo, v2, eFn, eDisp, eTup, eLst, eCall, eCallR, eCallK, pick, toSl, toSls, sIdx, wb, bk, esc, escs, vals, aNil, aCons, tb, Ev.tNot, Ev.tAnd, Ev.tOr, gGt, gLt, gGe, gLe, gSub, gMod, gDiv, gPow, gAdd, gMul, gInt, mulOk, g1, g2, fInt, fLen, fTuple, fList, fAbs, eAnd, eOr, eNot, eIf, eNeg, eIsi, gII, gIx, gIsN, gN, gT, gsNil, gsCons, isLent_eq, lentO, lentS_v, lentS_un, lentS_f, lentS_t, lentS_z, finE, okArg, Out.bind, Od.val, slVal, Bx.tr, Bx.t, isN, L2.ixN, L2.atI, isInt, isBool, isTuple, isList, isStr, isDict, isTL, Nat.zero_le, id_eq, eq_self, Pu.c0, Pu.c1, Pu.c2, Pu.c3, Pu.c4, Pu.c5, Pu.c6, Pu.c7, Pu.c8, Pu.c9, Pu.s1, Pu.s2, Pu.s3, Pu.s4, Pu.s5, Pu.s6, Pu.s7, Pu.s8, Pu.s9, Int.reduceEq, Nat.reduceMul, Int.ofNat_eq_natCast, wipeE, restE, exists_eq_left', Option.some.injEq, Out.ok.injEq, Prod.mk.injEq, Option.bind_some, Option.bind_none, Option.bind_eq_bind, List.getElem?_cons_zero, List.getElem?_cons_succ, List.getElem?_nil, List.set_cons_zero, List.set_cons_succ, List.set_nil, List.length_cons, List.length_nil, List.replicate_succ, List.replicate_zero, List.cons_append, List.nil_append, List.append_nil, List.all_cons, List.all_nil, Bool.and_true, Bool.true_and, Bool.and_false, Bool.false_and, if_true, if_false, ite_true, ite_false, List.nodup_cons, List.nodup_nil, List.not_mem_nil, List.mem_cons, not_false_eq_true, and_true, true_and, reduceIte, Nat.reduceAdd, Nat.reduceSub, Nat.reduceEqDiff, Nat.reduceLT, Nat.reduceLeDiff, Option.map_some, Option.map_none, Option.getD_some, reduceCtorEq, or_self, or_false, false_or, not_true_eq_false, decide_true, decide_false, Bool.not_true, Bool.not_false, Bool.false_eq_true, Nat.zero_add, Nat.add_zero, forall_const, Int.reduceLT, Int.reduceLE, Int.reduceNeg, Int.reduceToNat, Int.toNat_natCast, and_self]
  · simp only [h18, hc2, hc5, hm0, hm1, e1, e2, hs, hs2, hk, eMLenE, eRep, eDLen, eNNew, eNLen, eListRng, gMax1, gSum, eMIn, eMInE, sMPut, eMNew, eMDict1, eMLen, eListZip, Option.isSome_none, Option.isSome_some, eMut, gAppend, gInsert, eRev, eIndex, eLenSet, gInt, gLen, gTuple, gList, gAbs, gMax2, gMin2, gDivmod, gEq_int, runFn, sSeq, sIf, sSet, sSetIx, sRet, sRetN, sNil, sDrop, sAsg, sFor, sPar, sNever, setO, retO, setOs, presc, eVar, eK, eTwo, v2, eFn, eDisp, eTup, eLst, eCall, eCallR, eCallK, pick, toSl, toSls, sIdx, wb, bk, esc, escs, vals, aNil, aCons, tb, Ev.tNot, Ev.tAnd, Ev.tOr, gGt, gLt, gGe, gLe, gSub, gMod, gDiv, gPow, gAdd, gMul, gInt, mulOk, g1, g2, fInt, fLen, fTuple, fList, fAbs, eAnd, eOr, eNot, eIf, eNeg, eIsi, gII, gIx, gIsN, gN, gT, gsNil, gsCons, isLent_eq, lentO, lentS_v, lentS_un, lentS_f, lentS_t, lentS_z, finE, okArg, Out.bind, Od.val, slVal, Bx.tr, Bx.t, isN, L2.ixN, L2.atI, isInt, isBool, isTuple, isList, isStr, isDict, isTL, Nat.zero_le, id_eq, eq_self, Pu.c0, Pu.c1, Pu.c2, Pu.c3, Pu.c4, Pu.c5, Pu.c6, Pu.c7, Pu.c8, Pu.c9, Pu.s1, Pu.s2, Pu.s3, Pu.s4, Pu.s5, Pu.s6, Pu.s7, Pu.s8, Pu.s9, Int.reduceEq, Nat.reduceMul, Int.ofNat_eq_natCast, wipeE, restE, exists_eq_left', Option.some.injEq, Out.ok.injEq, Prod.mk.injEq, Option.bind_some, Option.bind_none, Option.bind_eq_bind, List.getElem?_cons_zero, List.getElem?_cons_succ, List.getElem?_nil, List.set_cons_zero, List.set_cons_succ, List.set_nil, List.length_cons, List.length_nil, List.replicate_succ, List.replicate_zero, List.cons_append, List.nil_append, List.append_nil, List.all_cons, List.all_nil, Bool.and_true, Bool.true_and, Bool.and_false, Bool.false_and, if_true, if_false, ite_true, ite_false, List.nodup_cons, List.nodup_nil, List.not_mem_nil, List.mem_cons, not_false_eq_true, and_true, true_and, reduceIte, Nat.reduceAdd, Nat.reduceSub, Nat.reduceEqDiff, Nat.reduceLT, Nat.reduceLeDiff, Option.map_some, Option.map_none, Option.getD_some, reduceCtorEq, or_self, or_false, false_or, not_true_eq_false, decide_true, decide_false, Bool.not_true, Bool.not_false, Bool.false_eq_true, Nat.zero_add, Nat.add_zero, forall_const, Int.reduceLT, Int.reduceLE, Int.reduceNeg, Int.reduceToNat, Int.toNat_natCast, and_self]
def scT (ns : List Int) : T := .list (ns.map PyData.int)
def cellAt (ns : List Int) (k : Nat) : Int := (ns[k]?).getD 0
theorem ix_sc (ns : List Int) (k : Nat) (h : k < ns.length) : gIx (scT ns) (.int (k : Int)) = some (.r (.int (cellAt ns k))) := by
  obtain ⟨x, e⟩ : ∃ x, ns[k]? = some x := ⟨_, List.getElem?_eq_getElem h⟩
  obtain ⟨_, e2⟩ := List.getElem?_eq_some_iff.mp e
  simp [scT, gIx, L2.atI, L2.ixN, h, List.getElem?_map, cellAt, e2]
theorem ld_1 (y : SemS) (k : Int) (ts : List T) (c : Int) (r : Od) (b0 : T) (hb : b0 = .list ts) (l3 : Sl) (h1 : k < (ts.length : Int)) (hi : gIx b0 (.int k) = some (.r (.int c)))
    (h : y [.v b0, .v (.int k), .v (.int c), .un] = .ok (.rt r) [.v b0, .v (.int k), .v (.int c), l3]) :
    runFn 4 (sSeq (sSet 2 (eK (.int 0))) (sSeq (sIf (tb (eOp2 gLt (eVar 1) (eFn gLen (aCons (eVar 0) aNil)))) (sSet 2 (eOp2 gIx (eVar 0) (eVar 1))) sNil) y)) [.v b0, .v (.int k)] = .ok r [.v b0, .v (.int k)] := by
  subst hb
  simp only [h1, hi, h, eMLenE, eRep, eDLen, eNNew, eNLen, eListRng, gMax1, gSum, eMIn, eMInE, sMPut, eMNew, eMDict1, eMLen, eListZip, Option.isSome_none, Option.isSome_some, eMut, gAppend, gInsert, eRev, eIndex, eLenSet, gInt, gLen, gTuple, gList, gAbs, gMax2, gMin2, gDivmod, gEq_int, runFn, sSeq, sIf, sSet, sSetIx, sRet, sRetN, sNil, sDrop, sAsg, sFor, sPar, sNever, setO, retO, setOs, presc, eVar, eK, eTwo, v2, eFn, eDisp, eTup, eLst, eCall, eCallR, eCallK, pick, toSl, toSls, sIdx, wb, bk, esc, escs, vals, aNil, aCons, tb, Ev.tNot, Ev.tAnd, Ev.tOr, gGt, gLt, gGe, gLe, gSub, gMod, gDiv, gPow, gAdd, gMul, gInt, mulOk, g1, g2, fInt, fLen, fTuple, fList, fAbs, eAnd, eOr, eNot, eIf, eNeg, eIsi, gII, gIsN, gN, gT, gsNil, gsCons, isLent_eq, lentO, lentS_v, lentS_un, lentS_f, lentS_t, lentS_z, finE, okArg, Out.bind, Od.val, slVal, Bx.tr, Bx.t, isN, L2.ixN, L2.atI, isInt, isBool, isTuple, isList, isStr, isDict, isTL, Nat.zero_le, id_eq, eq_self, Pu.c0, Pu.c1, Pu.c2, Pu.c3, Pu.c4, Pu.c5, Pu.c6, Pu.c7, Pu.c8, Pu.c9, Pu.s1, Pu.s2, Pu.s3, Pu.s4, Pu.s5, Pu.s6, Pu.s7, Pu.s8, Pu.s9, Int.reduceEq, Nat.reduceMul, Int.ofNat_eq_natCast, wipeE, restE, exists_eq_left', Option.some.injEq, Out.ok.injEq, Prod.mk.injEq, Option.bind_some, Option.bind_none, Option.bind_eq_bind, List.getElem?_cons_zero, List.getElem?_cons_succ, List.getElem?_nil, List.set_cons_zero, List.set_cons_succ, List.set_nil, List.length_cons, List.length_nil, List.replicate_succ, List.replicate_zero, List.cons_append, List.nil_append, List.append_nil, List.all_cons, List.all_nil, Bool.and_true, Bool.true_and, Bool.and_false, Bool.false_and, if_true, if_false, ite_true, ite_false, List.nodup_cons, List.nodup_nil, List.not_mem_nil, List.mem_cons, not_false_eq_true, and_true, true_and, reduceIte, Nat.reduceAdd, Nat.reduceSub, Nat.reduceEqDiff, Nat.reduceLT, Nat.reduceLeDiff, Option.map_some, Option.map_none, Option.getD_some, reduceCtorEq, or_self, or_false, false_or, not_true_eq_false, decide_true, decide_false, Bool.not_true, Bool.not_false, Bool.false_eq_true, Nat.zero_add, Nat.add_zero, forall_const, Int.reduceLT, Int.reduceLE, Int.reduceNeg, Int.reduceToNat, Int.toNat_natCast, and_self]
theorem ld_2 (y : SemS) (k : Int) (ts : List T) (r : Od) (b0 : T) (hb : b0 = .list ts) (l3 : Sl) (h1 : ¬ k < (ts.length : Int))
    (h : y [.v b0, .v (.int k), .v (.int 0), .un] = .ok (.rt r) [.v b0, .v (.int k), .v (.int 0), l3]) :
    runFn 4 (sSeq (sSet 2 (eK (.int 0))) (sSeq (sIf (tb (eOp2 gLt (eVar 1) (eFn gLen (aCons (eVar 0) aNil)))) (sSet 2 (eOp2 gIx (eVar 0) (eVar 1))) sNil) y)) [.v b0, .v (.int k)] = .ok r [.v b0, .v (.int k)] := by
  subst hb
  simp only [h1, h, eMLenE, eRep, eDLen, eNNew, eNLen, eListRng, gMax1, gSum, eMIn, eMInE, sMPut, eMNew, eMDict1, eMLen, eListZip, Option.isSome_none, Option.isSome_some, eMut, gAppend, gInsert, eRev, eIndex, eLenSet, gInt, gLen, gTuple, gList, gAbs, gMax2, gMin2, gDivmod, gEq_int, runFn, sSeq, sIf, sSet, sSetIx, sRet, sRetN, sNil, sDrop, sAsg, sFor, sPar, sNever, setO, retO, setOs, presc, eVar, eK, eTwo, v2, eFn, eDisp, eTup, eLst, eCall, eCallR, eCallK, pick, toSl, toSls, sIdx, wb, bk, esc, escs, vals, aNil, aCons, tb, Ev.tNot, Ev.tAnd, Ev.tOr, gGt, gLt, gGe, gLe, gSub, gMod, gDiv, gPow, gAdd, gMul, gInt, mulOk, g1, g2, fInt, fLen, fTuple, fList, fAbs, eAnd, eOr, eNot, eIf, eNeg, eIsi, gII, gIx, gIsN, gN, gT, gsNil, gsCons, isLent_eq, lentO, lentS_v, lentS_un, lentS_f, lentS_t, lentS_z, finE, okArg, Out.bind, Od.val, slVal, Bx.tr, Bx.t, isN, L2.ixN, L2.atI, isInt, isBool, isTuple, isList, isStr, isDict, isTL, Nat.zero_le, id_eq, eq_self, Pu.c0, Pu.c1, Pu.c2, Pu.c3, Pu.c4, Pu.c5, Pu.c6, Pu.c7, Pu.c8, Pu.c9, Pu.s1, Pu.s2, Pu.s3, Pu.s4, Pu.s5, Pu.s6, Pu.s7, Pu.s8, Pu.s9, Int.reduceEq, Nat.reduceMul, Int.ofNat_eq_natCast, wipeE, restE, exists_eq_left', Option.some.injEq, Out.ok.injEq, Prod.mk.injEq, Option.bind_some, Option.bind_none, Option.bind_eq_bind, List.getElem?_cons_zero, List.getElem?_cons_succ, List.getElem?_nil, List.set_cons_zero, List.set_cons_succ, List.set_nil, List.length_cons, List.length_nil, List.replicate_succ, List.replicate_zero, List.cons_append, List.nil_append, List.append_nil, List.all_cons, List.all_nil, Bool.and_true, Bool.true_and, Bool.and_false, Bool.false_and, if_true, if_false, ite_true, ite_false, List.nodup_cons, List.nodup_nil, List.not_mem_nil, List.mem_cons, not_false_eq_true, and_true, true_and, reduceIte, Nat.reduceAdd, Nat.reduceSub, Nat.reduceEqDiff, Nat.reduceLT, Nat.reduceLeDiff, Option.map_some, Option.map_none, Option.getD_some, reduceCtorEq, or_self, or_false, false_or, not_true_eq_false, decide_true, decide_false, Bool.not_true, Bool.not_false, Bool.false_eq_true, Nat.zero_add, Nat.add_zero, forall_const, Int.reduceLT, Int.reduceLE, Int.reduceNeg, Int.reduceToNat, Int.toNat_natCast, and_self]
theorem deck_ok (ns : List Int) (k : Nat) (hk : k < 1000) : ∃ D : Dk, m__law_deck [.v (scT ns), .v (nT k)] = .ok (.b (.l (dkT D))) [.v (scT ns), .v (nT k)] := by
  let cell : Int := cellAt ns k
  let s1 : Int := (cell + 7919 * (k : Int) + 104729) % 2305843009213693951
  let s2 : Int := (s1 * s1 * s1 + 31 * (k : Int) + 7) % 2305843009213693951
  have b1 : 0 ≤ s1 ∧ s1 < 2 ^ 61 := ⟨Int.emod_nonneg _ (by decide), Int.lt_trans (Int.emod_lt_of_pos _ (by decide)) (by decide)⟩
  have b2 : 0 ≤ s2 ∧ s2 < 18446744073709551616 := ⟨Int.emod_nonneg _ (by decide), Int.lt_trans (Int.emod_lt_of_pos _ (by decide)) (by decide)⟩
  have l1 := int_small b1.1 b1.2 (by decide)
  have l2 : (s1 * s1).natAbs.log2 < 122 := by
    refine int_small (Int.mul_nonneg b1.1 b1.1) ?_ (by decide)
    have : s1 * s1 ≤ (2 ^ 61 - 1) * (2 ^ 61 - 1) := Int.mul_le_mul (by omega) (by omega) b1.1 (by decide)
    omega
  have lk : (k : Int).natAbs.log2 < 10 := log2_small (by omega) (by decide)
  have c0 : (7919 : Int).natAbs.log2 < 64 := log2_small (by decide) (by decide)
  have c3 : (31 : Int).natAbs.log2 < 64 := log2_small (by decide) (by decide)
  have body := ld_b 7919 104729 2305843009213693951 31 7 2305843009213693951 cell (k : Int) s1 s2 (eOp2 gPow (eK (.int 10)) (eK (.int 18))) 1000000000000000000 (scT ns) .un p18 (by decide) (by decide) (by omega) (by omega) rfl rfl (by omega) (by omega)
  refine ⟨⟨if cell < 1000000000000000000 then 0 else cell - 1000000000000000000, s2, b2⟩, ?_⟩
  by_cases h : k < ns.length
  · exact ld_1 _ (k : Int) (ns.map PyData.int) cell _ (scT ns) rfl _ (by rw [List.length_map]; omega) (ix_sc ns k h) body
  · have e : cell = 0 := by
      show (ns[k]?).getD 0 = 0
      rw [List.getElem?_eq_none (by omega)]; rfl
    rw [e] at body
    have := ld_2 _ (k : Int) (ns.map PyData.int) _ (scT ns) rfl _ (by rw [List.length_map]; omega) body
    rw [show (if (0 : Int) < 1000000000000000000 then (0 : Int) else 0 - 1000000000000000000) = (if cell < 1000000000000000000 then 0 else cell - 1000000000000000000) by rw [e]] at this
    exact this

set_option linter.all false
set_option maxRecDepth 100000
set_option maxHeartbeats 4000000
open PySem PySem.Spec Ev Pu Mt Wp
local macro_rules | `(tactic| decreasing_trivial_pre_omega) => `(tactic| (first | ((with_reducible apply Wp.ksls3); (focus (assumption; done))) | fail))
local macro_rules | `(tactic| decreasing_trivial_pre_omega) => `(tactic| (first | ((with_reducible apply Wp.ksm0); (focus ((first | assumption | rfl); done))) | fail))
local macro_rules | `(tactic| decreasing_trivial_pre_omega) => `(tactic| (first | ((with_reducible apply Wp.ksm1b); (focus ((first | assumption | rfl); done))) | fail))
local macro_rules | `(tactic| decreasing_trivial_pre_omega) => `(tactic| (first | ((with_reducible apply Wp.kelt); (focus (rfl; done))) | fail))
local macro_rules | `(tactic| decreasing_trivial_pre_omega) => `(tactic| (first | ((with_reducible apply Wp.kaug); (focus (rfl; done)); (focus ((first | with_reducible assumption | with_reducible exact Wp.gEq_e _ _ | with_reducible exact Wp.gEq_n _ _ | with_reducible exact Wp.gEq_i _ _ _ | exact Wp.gAppend_ok (by assumption) | exact Wp.gIx_l (by assumption) | exact Wp.gIx_t (by assumption) | exact Wp.gStr_ok (by assumption) | exact Ev.gLenS_ok (by assumption) | exact Wp.gAdd_ss (by assumption) | exact Ev.gMulX_ok (by assumption) | exact Wp.gAdd_tt (by assumption) | exact Wp.gAdd_ll (by assumption) | exact Wp.gMul_ok (by assumption) | exact Wp.gMod_ok (by assumption) | exact Wp.gDiv_ok (by assumption) (by assumption) | rfl | assumption | exact Ev.gPowW_ok (by assumption)); done)); (focus (exact (by first | rfl | exact Wp.isLent_of rfl (by assumption)); done))) | fail))
local macro_rules | `(tactic| decreasing_trivial_pre_omega) => `(tactic| (first | ((with_reducible apply Wp.w_aug); (focus (rfl; done))) | fail))
local macro_rules | `(tactic| decreasing_trivial_pre_omega) => `(tactic| (first | ((with_reducible apply Wp.kenu); (focus (rfl; done))) | fail))
local macro_rules | `(tactic| decreasing_trivial_pre_omega) => `(tactic| (first | ((with_reducible apply Wp.kzip2_t); (focus (rfl; done))) | fail))
local macro_rules | `(tactic| decreasing_trivial_pre_omega) => `(tactic| (first | ((with_reducible apply Wp.kzip2_l); (focus (rfl; done))) | fail))
local macro_rules | `(tactic| decreasing_trivial_pre_omega) => `(tactic| (first | ((with_reducible apply Wp.w_izipV_r); (focus (rfl; done)); (focus (rfl; done)); (focus (rfl; done)); (focus (rfl; done))) | fail))
local macro_rules | `(tactic| decreasing_trivial_pre_omega) => `(tactic| (first | ((with_reducible apply Wp.w_izipV_l); (focus (rfl; done)); (focus (rfl; done)); (focus (rfl; done)); (focus (rfl; done))) | fail))
local macro_rules | `(tactic| decreasing_trivial_pre_omega) => `(tactic| (first | ((with_reducible apply Wp.w_inmG); (focus (rfl; done)); (focus (rfl; done))) | fail))
local macro_rules | `(tactic| decreasing_trivial_pre_omega) => `(tactic| (first | ((with_reducible apply Wp.kzip); (focus (rfl; done))) | fail))
local macro_rules | `(tactic| decreasing_trivial_pre_omega) => `(tactic| (first | ((with_reducible apply Wp.kr2w); (focus (rfl; done))) | fail))
local macro_rules | `(tactic| decreasing_trivial_pre_omega) => `(tactic| (first | ((with_reducible apply Wp.kputD); (focus (rfl; done)); (focus (rfl; done)); (focus (rfl; done)); (focus (assumption; done))) | fail))
local macro_rules | `(tactic| decreasing_trivial_pre_omega) => `(tactic| (first | ((with_reducible apply Wp.kputL); (focus (rfl; done)); (focus (rfl; done)); (focus ((first | rfl | assumption | exact Wp.ixN_nat (by assumption)); done))) | fail))
local macro_rules | `(tactic| decreasing_trivial_pre_omega) => `(tactic| (first | ((with_reducible apply Wp.putS_d); (focus (rfl; done))) | fail))
local macro_rules | `(tactic| decreasing_trivial_pre_omega) => `(tactic| (first | ((with_reducible apply Wp.putS_l); (focus (rfl; done))) | fail))
local macro_rules | `(tactic| decreasing_trivial_pre_omega) => `(tactic| (first | ((with_reducible apply Wp.kputS); (focus (rfl; done)); (focus (rfl; done)); (focus (rfl; done))) | fail))
local macro_rules | `(tactic| decreasing_trivial_pre_omega) => `(tactic| (first | ((with_reducible apply Wp.kdictp); (focus (rfl; done)); (focus (assumption; done))) | fail))
local macro_rules | `(tactic| decreasing_trivial_pre_omega) => `(tactic| (first | ((with_reducible apply Wp.ksetix2); (focus (rfl; done)); (focus (rfl; done)); (focus (rfl; done)); (focus ((first | rfl | assumption | exact Wp.ixN_nat (by assumption)); done))) | fail))
local macro_rules | `(tactic| decreasing_trivial_pre_omega) => `(tactic| (first | ((with_reducible apply Wp.ksetix1); (focus (rfl; done))) | fail))
local macro_rules | `(tactic| decreasing_trivial_pre_omega) => `(tactic| (first | ((with_reducible apply Wp.kdput2); (focus (rfl; done)); (focus (rfl; done)); (focus (rfl; done)); (focus (rfl; done)); (focus (assumption; done))) | fail))
local macro_rules | `(tactic| decreasing_trivial_pre_omega) => `(tactic| (first | ((with_reducible apply Wp.kdput1); (focus (rfl; done))) | fail))
local macro_rules | `(tactic| decreasing_trivial_pre_omega) => `(tactic| (first | ((with_reducible apply Wp.kdget); (focus (rfl; done)); (focus (rfl; done)); (focus (rfl; done)); (focus (assumption; done))) | fail))
local macro_rules | `(tactic| decreasing_trivial_pre_omega) => `(tactic| (first | ((with_reducible apply Wp.w_dget); (focus (rfl; done))) | fail))
local macro_rules | `(tactic| decreasing_trivial_pre_omega) => `(tactic| (first | ((with_reducible apply Wp.kmd2); (focus (rfl; done)); (focus (rfl; done))) | fail))
local macro_rules | `(tactic| decreasing_trivial_pre_omega) => `(tactic| (first | ((with_reducible apply Wp.kmput2); (focus (rfl; done)); (focus (rfl; done)); (focus (rfl; done)); (focus (rfl; done)); (focus (assumption; done))) | fail))
local macro_rules | `(tactic| decreasing_trivial_pre_omega) => `(tactic| (first | ((with_reducible apply Wp.kmput1); (focus (rfl; done))) | fail))
local macro_rules | `(tactic| decreasing_trivial_pre_omega) => `(tactic| (first | ((with_reducible apply Wp.kmin); (focus (rfl; done)); (focus (rfl; done)); (focus (rfl; done)); (focus (assumption; done))) | fail))
local macro_rules | `(tactic| decreasing_trivial_pre_omega) => `(tactic| (first | ((with_reducible apply Wp.kmget); (focus (rfl; done)); (focus (rfl; done)); (focus (rfl; done)); (focus (assumption; done))) | fail))
local macro_rules | `(tactic| decreasing_trivial_pre_omega) => `(tactic| (first | ((with_reducible apply Wp.w_mget); (focus (rfl; done))) | fail))
local macro_rules | `(tactic| decreasing_trivial_pre_omega) => `(tactic| (first | ((with_reducible apply Wp.ksl2_t); (focus (rfl; done))) | fail))
local macro_rules | `(tactic| decreasing_trivial_pre_omega) => `(tactic| (first | ((with_reducible apply Wp.ksl2_l); (focus (rfl; done))) | fail))
local macro_rules | `(tactic| decreasing_trivial_pre_omega) => `(tactic| (first | ((with_reducible apply Wp.kjs); (focus (assumption; done))) | fail))
local macro_rules | `(tactic| decreasing_trivial_pre_omega) => `(tactic| (first | ((with_reducible apply Wp.kfmt_i); (focus (rfl; done)); (focus (assumption; done))) | fail))
local macro_rules | `(tactic| decreasing_trivial_pre_omega) => `(tactic| (first | ((with_reducible apply Wp.kfmt_s); (focus (rfl; done)); (focus (assumption; done))) | fail))
local macro_rules | `(tactic| decreasing_trivial_pre_omega) => `(tactic| (first | ((with_reducible apply Wp.kjoin2); (focus (rfl; done)); (focus (assumption; done)); (focus (assumption; done))) | fail))
local macro_rules | `(tactic| decreasing_trivial_pre_omega) => `(tactic| (first | ((with_reducible apply Wp.kindex1_); (focus (rfl; done))) | fail))
local macro_rules | `(tactic| decreasing_trivial_pre_omega) => `(tactic| (first | ((with_reducible apply Wp.krev_t); (focus (rfl; done))) | fail))
local macro_rules | `(tactic| decreasing_trivial_pre_omega) => `(tactic| (first | ((with_reducible apply Wp.krev_l); (focus (rfl; done))) | fail))
local macro_rules | `(tactic| decreasing_trivial_pre_omega) => `(tactic| (first | ((with_reducible apply Wp.kof_t); (focus (rfl; done))) | fail))
local macro_rules | `(tactic| decreasing_trivial_pre_omega) => `(tactic| (first | ((with_reducible apply Wp.kof_l); (focus (rfl; done))) | fail))
local macro_rules | `(tactic| decreasing_trivial_pre_omega) => `(tactic| (first | ((with_reducible apply Wp.kpso); (focus (rfl; done))) | fail))
local macro_rules | `(tactic| decreasing_trivial_pre_omega) => `(tactic| (first | ((with_reducible apply Wp.kisi); (focus (rfl; done))) | fail))
local macro_rules | `(tactic| decreasing_trivial_pre_omega) => `(tactic| (first | ((with_reducible apply Wp.kneg); (focus (rfl; done))) | fail))
local macro_rules | `(tactic| decreasing_trivial_pre_omega) => `(tactic| (first | ((with_reducible apply Wp.ktb_s); (focus (rfl; done))) | fail))
local macro_rules | `(tactic| decreasing_trivial_pre_omega) => `(tactic| (first | ((with_reducible apply Wp.kore_f); (focus (rfl; done))) | fail))
local macro_rules | `(tactic| decreasing_trivial_pre_omega) => `(tactic| (first | ((with_reducible apply Wp.kore_t); (focus (rfl; done))) | fail))
local macro_rules | `(tactic| decreasing_trivial_pre_omega) => `(tactic| (first | ((with_reducible apply Wp.kande_f); (focus (rfl; done))) | fail))
local macro_rules | `(tactic| decreasing_trivial_pre_omega) => `(tactic| (first | ((with_reducible apply Wp.kande_t); (focus (rfl; done))) | fail))
local macro_rules | `(tactic| decreasing_trivial_pre_omega) => `(tactic| (first | ((with_reducible apply Wp.kor_f); (focus (rfl; done))) | fail))
local macro_rules | `(tactic| decreasing_trivial_pre_omega) => `(tactic| (first | ((with_reducible apply Wp.kor_t); (focus (rfl; done))) | fail))
local macro_rules | `(tactic| decreasing_trivial_pre_omega) => `(tactic| (first | ((with_reducible apply Wp.kand_f); (focus (rfl; done))) | fail))
local macro_rules | `(tactic| decreasing_trivial_pre_omega) => `(tactic| (first | ((with_reducible apply Wp.kand_t); (focus (rfl; done))) | fail))
local macro_rules | `(tactic| decreasing_trivial_pre_omega) => `(tactic| (first | ((with_reducible apply Wp.kife_f); (focus (rfl; done))) | fail))
local macro_rules | `(tactic| decreasing_trivial_pre_omega) => `(tactic| (first | ((with_reducible apply Wp.kife_t); (focus (rfl; done))) | fail))
local macro_rules | `(tactic| decreasing_trivial_pre_omega) => `(tactic| (first | ((with_reducible apply Wp.kif_f); (focus (assumption; done))) | fail))
local macro_rules | `(tactic| decreasing_trivial_pre_omega) => `(tactic| (first | ((with_reducible apply Wp.kif_t); (focus (assumption; done))) | fail))
local macro_rules | `(tactic| decreasing_trivial_pre_omega) => `(tactic| (first | ((with_reducible apply Wp.kif_f); (focus (rfl; done))) | fail))
local macro_rules | `(tactic| decreasing_trivial_pre_omega) => `(tactic| (first | ((with_reducible apply Wp.kif_t); (focus (rfl; done))) | fail))
local macro_rules | `(tactic| decreasing_trivial_pre_omega) => `(tactic| (first | ((with_reducible apply Wp.kmut2); (focus (rfl; done)); (focus (rfl; done)); (focus ((first | with_reducible assumption | with_reducible exact Wp.gEq_e _ _ | with_reducible exact Wp.gEq_n _ _ | with_reducible exact Wp.gEq_i _ _ _ | exact Wp.gAppend_ok (by assumption) | exact Wp.gIx_l (by assumption) | exact Wp.gIx_t (by assumption) | exact Wp.gStr_ok (by assumption) | exact Ev.gLenS_ok (by assumption) | exact Wp.gAdd_ss (by assumption) | exact Ev.gMulX_ok (by assumption) | exact Wp.gAdd_tt (by assumption) | exact Wp.gAdd_ll (by assumption) | exact Wp.gMul_ok (by assumption) | exact Wp.gMod_ok (by assumption) | exact Wp.gDiv_ok (by assumption) (by assumption) | rfl | assumption | exact Ev.gPowW_ok (by assumption)); done))) | fail))
local macro_rules | `(tactic| decreasing_trivial_pre_omega) => `(tactic| (first | ((with_reducible apply Wp.w_mut); (focus (rfl; done))) | fail))
local macro_rules | `(tactic| decreasing_trivial_pre_omega) => `(tactic| (first | ((with_reducible apply Wp.kcallk); (focus (decide; done)); (focus (exact ⟨rfl, rfl⟩; done)); (focus (rfl; done)); (focus (exact of_decide_eq_true rfl; done))) | fail))
local macro_rules | `(tactic| decreasing_trivial_pre_omega) => `(tactic| (first | ((with_reducible apply Wp.kcall); (focus (rfl; done)); (focus (rfl; done)); (focus (exact of_decide_eq_true rfl; done))) | fail))
local macro_rules | `(tactic| decreasing_trivial_pre_omega) => `(tactic| (first | ((with_reducible apply Wp.kdisp_l); (focus (rfl; done)); (focus (rfl; done))) | fail))
local macro_rules | `(tactic| decreasing_trivial_pre_omega) => `(tactic| (first | ((with_reducible apply Wp.kdisp_t); (focus (rfl; done)); (focus (rfl; done))) | fail))
local macro_rules | `(tactic| decreasing_trivial_pre_omega) => `(tactic| (first | ((with_reducible apply Wp.kfng); (focus (rfl; done)); (focus ((first | with_reducible assumption | with_reducible exact Wp.gEq_e _ _ | with_reducible exact Wp.gEq_n _ _ | with_reducible exact Wp.gEq_i _ _ _ | exact Wp.gAppend_ok (by assumption) | exact Wp.gIx_l (by assumption) | exact Wp.gIx_t (by assumption) | exact Wp.gStr_ok (by assumption) | exact Ev.gLenS_ok (by assumption) | exact Wp.gAdd_ss (by assumption) | exact Ev.gMulX_ok (by assumption) | exact Wp.gAdd_tt (by assumption) | exact Wp.gAdd_ll (by assumption) | exact Wp.gMul_ok (by assumption) | exact Wp.gMod_ok (by assumption) | exact Wp.gDiv_ok (by assumption) (by assumption) | rfl | assumption | exact Ev.gPowW_ok (by assumption)); done))) | fail))
local macro_rules | `(tactic| decreasing_trivial_pre_omega) => `(tactic| (first | ((with_reducible apply Wp.ktwo2); (focus (rfl; done)); (focus (rfl; done)); (focus ((first | with_reducible assumption | with_reducible exact Wp.gEq_e _ _ | with_reducible exact Wp.gEq_n _ _ | with_reducible exact Wp.gEq_i _ _ _ | exact Wp.gAppend_ok (by assumption) | exact Wp.gIx_l (by assumption) | exact Wp.gIx_t (by assumption) | exact Wp.gStr_ok (by assumption) | exact Ev.gLenS_ok (by assumption) | exact Wp.gAdd_ss (by assumption) | exact Ev.gMulX_ok (by assumption) | exact Wp.gAdd_tt (by assumption) | exact Wp.gAdd_ll (by assumption) | exact Wp.gMul_ok (by assumption) | exact Wp.gMod_ok (by assumption) | exact Wp.gDiv_ok (by assumption) (by assumption) | rfl | assumption | exact Ev.gPowW_ok (by assumption)); done))) | fail))
local macro_rules | `(tactic| decreasing_trivial_pre_omega) => `(tactic| (first | ((with_reducible apply Wp.kpar); (focus (rfl; done)); (focus ((repeat (first | refine Wp.setOs_nil rfl | (apply Wp.setOs_r; (focus exact (by first | rfl | exact Wp.isLent_of rfl (by assumption)))) | (apply Wp.setOs_b; (focus exact (by first | rfl | exact Wp.isLent_of rfl (by assumption)))))); done))) | fail))
local macro_rules | `(tactic| decreasing_trivial_pre_omega) => `(tactic| (first | ((with_reducible apply Wp.kasg); (focus (rfl; done)); (focus ((first | rfl | (repeat' (first | refine Wp.gN_ok (by first | rfl | exact Wp.isLent_of rfl (by assumption)) rfl | refine Wp.gsNil_ok rfl | with_reducible apply Wp.gsCons_ok | apply Wp.gT_ok rfl))); done))) | fail))
local macro_rules | `(tactic| decreasing_trivial_pre_omega) => `(tactic| (first | ((with_reducible apply Wp.kret_so); (focus (rfl; done))) | fail))
local macro_rules | `(tactic| decreasing_trivial_pre_omega) => `(tactic| (first | ((with_reducible apply Wp.kset_s); (focus (exact (by first | rfl | exact Wp.isLent_of rfl (by assumption)); done)); (focus (rfl; done))) | fail))
local macro_rules | `(tactic| decreasing_trivial_pre_omega) => `(tactic| (first | ((with_reducible apply Wp.kset_b); (focus (exact (by first | rfl | exact Wp.isLent_of rfl (by assumption)); done))) | fail))
local macro_rules | `(tactic| decreasing_trivial_pre_omega) => `(tactic| (first | ((with_reducible apply Wp.kset_r); (focus (exact (by first | rfl | exact Wp.isLent_of rfl (by assumption)); done))) | fail))
local macro_rules | `(tactic| decreasing_trivial_pre_omega) => `(tactic| (first | ((with_reducible apply Wp.w_var_f); (focus (rfl; done))) | fail))
local macro_rules | `(tactic| decreasing_trivial_pre_omega) => `(tactic| (first | ((with_reducible apply Wp.w_var_o); (focus (rfl; done))) | fail))
local macro_rules | `(tactic| decreasing_trivial_pre_omega) => `(tactic| (first | ((with_reducible apply Wp.w_var_v); (focus (rfl; done))) | fail))
local macro_rules | `(tactic| decreasing_trivial_pre_omega) => `(tactic| (first | ((with_reducible apply Wp.kback_b_n); (focus (((try simp only [Ev.wb, Ev.bk, List.set_cons_zero, List.set_cons_succ, List.getElem?_cons_zero, List.getElem?_cons_succ, List.cons_append, List.nil_append, List.append_nil]); rfl); done))) | fail))
local macro_rules | `(tactic| decreasing_trivial_pre_omega) => `(tactic| (first | ((with_reducible apply Wp.kback_r_n); (focus (((try simp only [Ev.wb, Ev.bk, List.set_cons_zero, List.set_cons_succ, List.getElem?_cons_zero, List.getElem?_cons_succ, List.cons_append, List.nil_append, List.append_nil]); rfl); done))) | fail))
local macro_rules | `(tactic| decreasing_trivial_pre_omega) => `(tactic| (first | ((with_reducible apply Wp.kseq_nx_n); (focus (((try simp only [Ev.wb, Ev.bk, List.set_cons_zero, List.set_cons_succ, List.getElem?_cons_zero, List.getElem?_cons_succ, List.cons_append, List.nil_append, List.append_nil]); rfl); done))) | fail))
local macro_rules | `(tactic| decreasing_trivial_pre_omega) => `(tactic| (first | with_reducible apply Wp.krepl1 | fail))
local macro_rules | `(tactic| decreasing_trivial_pre_omega) => `(tactic| (first | with_reducible apply Wp.w_repl | fail))
local macro_rules | `(tactic| decreasing_trivial_pre_omega) => `(tactic| (first | with_reducible apply Wp.kitx | fail))
local macro_rules | `(tactic| decreasing_trivial_pre_omega) => `(tactic| (first | with_reducible apply Wp.w_itx | fail))
local macro_rules | `(tactic| decreasing_trivial_pre_omega) => `(tactic| (first | with_reducible apply Wp.ksls2 | fail))
local macro_rules | `(tactic| decreasing_trivial_pre_omega) => `(tactic| (first | with_reducible apply Wp.ksls1 | fail))
local macro_rules | `(tactic| decreasing_trivial_pre_omega) => `(tactic| (first | with_reducible apply Wp.ksm1 | fail))
local macro_rules | `(tactic| decreasing_trivial_pre_omega) => `(tactic| (first | with_reducible apply Wp.w_slS | fail))
local macro_rules | `(tactic| decreasing_trivial_pre_omega) => `(tactic| (first | with_reducible apply Wp.w_sm0 | fail))
local macro_rules | `(tactic| decreasing_trivial_pre_omega) => `(tactic| (first | with_reducible apply Wp.w_sm1 | fail))
local macro_rules | `(tactic| decreasing_trivial_pre_omega) => `(tactic| (first | with_reducible apply Wp.kturn_bk | fail))
local macro_rules | `(tactic| decreasing_trivial_pre_omega) => `(tactic| (first | with_reducible apply Wp.kturn_rt | fail))
local macro_rules | `(tactic| decreasing_trivial_pre_omega) => `(tactic| (first | with_reducible apply Wp.kturn_ct | fail))
local macro_rules | `(tactic| decreasing_trivial_pre_omega) => `(tactic| (first | with_reducible apply Wp.kturn_nx | fail))
local macro_rules | `(tactic| decreasing_trivial_pre_omega) => `(tactic| (first | with_reducible apply Wp.kfun_nx | fail))
local macro_rules | `(tactic| decreasing_trivial_pre_omega) => `(tactic| (first | with_reducible apply Wp.kfun_rt | fail))
local macro_rules | `(tactic| decreasing_trivial_pre_omega) => `(tactic| (first | with_reducible apply Wp.ktb | fail))
local macro_rules | `(tactic| decreasing_trivial_pre_omega) => `(tactic| (first | with_reducible apply Wp.kret_b | fail))
local macro_rules | `(tactic| decreasing_trivial_pre_omega) => `(tactic| (first | with_reducible apply Wp.kret_r | fail))
local macro_rules | `(tactic| decreasing_trivial_pre_omega) => `(tactic| (first | with_reducible apply Wp.kseq_ct | fail))
local macro_rules | `(tactic| decreasing_trivial_pre_omega) => `(tactic| (first | with_reducible apply Wp.kseq_bk | fail))
local macro_rules | `(tactic| decreasing_trivial_pre_omega) => `(tactic| (first | with_reducible apply Wp.kseq_rt | fail))
local macro_rules | `(tactic| decreasing_trivial_pre_omega) => `(tactic| (first | with_reducible apply Wp.kcons1 | fail))
local macro_rules | `(tactic| decreasing_trivial_pre_omega) => `(tactic| (first | with_reducible apply Wp.ktwo1 | fail))
local macro_rules | `(tactic| decreasing_trivial_pre_omega) => `(tactic| (first | with_reducible apply Wp.ksl1 | fail))
local macro_rules | `(tactic| decreasing_trivial_pre_omega) => `(tactic| (first | with_reducible apply Wp.ksl_ | fail))
local macro_rules | `(tactic| decreasing_trivial_pre_omega) => `(tactic| (first | with_reducible apply Wp.kmd1 | fail))
local macro_rules | `(tactic| decreasing_trivial_pre_omega) => `(tactic| (first | with_reducible apply Wp.w_dput | fail))
local macro_rules | `(tactic| decreasing_trivial_pre_omega) => `(tactic| (first | with_reducible apply Wp.w_mput | fail))
local macro_rules | `(tactic| decreasing_trivial_pre_omega) => `(tactic| (first | with_reducible apply Wp.w_min | fail))
local macro_rules | `(tactic| decreasing_trivial_pre_omega) => `(tactic| (first | with_reducible apply Wp.w_mnew | fail))
local macro_rules | `(tactic| decreasing_trivial_pre_omega) => `(tactic| (first | with_reducible apply Wp.w_mdict1 | fail))
local macro_rules | `(tactic| decreasing_trivial_pre_omega) => `(tactic| (first | with_reducible apply Wp.krep1 | fail))
local macro_rules | `(tactic| decreasing_trivial_pre_omega) => `(tactic| (first | with_reducible apply Wp.w_rep | fail))
local macro_rules | `(tactic| decreasing_trivial_pre_omega) => `(tactic| (first | with_reducible apply Wp.w_true | fail))
local macro_rules | `(tactic| decreasing_trivial_pre_omega) => `(tactic| (first | with_reducible apply Wp.w_pno | fail))
local macro_rules | `(tactic| decreasing_trivial_pre_omega) => `(tactic| (first | with_reducible apply Wp.w_anil | fail))
local macro_rules | `(tactic| decreasing_trivial_pre_omega) => `(tactic| (first | with_reducible apply Wp.w_k | fail))
local macro_rules | `(tactic| decreasing_trivial_pre_omega) => `(tactic| (first | with_reducible apply Wp.w_retN | fail))
local macro_rules | `(tactic| decreasing_trivial_pre_omega) => `(tactic| (first | with_reducible apply Wp.w_cnt | fail))
local macro_rules | `(tactic| decreasing_trivial_pre_omega) => `(tactic| (first | with_reducible apply Wp.w_brk | fail))
local macro_rules | `(tactic| decreasing_trivial_pre_omega) => `(tactic| (first | with_reducible apply Wp.w_nil | fail))
local macro_rules | `(tactic| decreasing_trivial_pre_omega) => `(tactic| (first | with_reducible apply Wp.w_r2w | fail))
local macro_rules | `(tactic| decreasing_trivial_pre_omega) => `(tactic| (first | with_reducible apply Wp.putS_nil | fail))
local macro_rules | `(tactic| decreasing_trivial_pre_omega) => `(tactic| (first | with_reducible apply Wp.w_putS | fail))
local macro_rules | `(tactic| decreasing_trivial_pre_omega) => `(tactic| (first | with_reducible apply Wp.w_dictp | fail))
local macro_rules | `(tactic| decreasing_trivial_pre_omega) => `(tactic| (first | with_reducible apply Wp.w_js | fail))
local macro_rules | `(tactic| decreasing_trivial_pre_omega) => `(tactic| (first | with_reducible apply Wp.w_js_nil | fail))
local macro_rules | `(tactic| decreasing_trivial_pre_omega) => `(tactic| (first | with_reducible apply Wp.w_fmt | fail))
local macro_rules | `(tactic| decreasing_trivial_pre_omega) => `(tactic| (first | with_reducible apply Wp.kjoin1 | fail))
local macro_rules | `(tactic| decreasing_trivial_pre_omega) => `(tactic| (first | with_reducible apply Wp.w_join | fail))
local macro_rules | `(tactic| decreasing_trivial_pre_omega) => `(tactic| (first | with_reducible apply Wp.w_setix | fail))
local macro_rules | `(tactic| decreasing_trivial_pre_omega) => `(tactic| (first | with_reducible apply Wp.w_ienu | fail))
local macro_rules | `(tactic| decreasing_trivial_pre_omega) => `(tactic| (first | with_reducible apply Wp.w_izip2 | fail))
local macro_rules | `(tactic| decreasing_trivial_pre_omega) => `(tactic| (first | with_reducible apply Wp.w_izip | fail))
local macro_rules | `(tactic| decreasing_trivial_pre_omega) => `(tactic| (first | with_reducible apply Wp.w_compG | fail))
local macro_rules | `(tactic| decreasing_trivial_pre_omega) => `(tactic| (first | with_reducible apply Wp.w_comp | fail))
local macro_rules | `(tactic| decreasing_trivial_pre_omega) => `(tactic| (first | with_reducible apply Wp.w_r2 | fail))
local macro_rules | `(tactic| decreasing_trivial_pre_omega) => `(tactic| (first | with_reducible apply Wp.w_r1 | fail))
local macro_rules | `(tactic| decreasing_trivial_pre_omega) => `(tactic| (first | with_reducible apply Wp.w_iof | fail))
local macro_rules | `(tactic| decreasing_trivial_pre_omega) => `(tactic| (first | with_reducible apply Wp.w_for | fail))
local macro_rules | `(tactic| decreasing_trivial_pre_omega) => `(tactic| (first | with_reducible apply Wp.w_index | fail))
local macro_rules | `(tactic| decreasing_trivial_pre_omega) => `(tactic| (first | with_reducible apply Wp.w_rev | fail))
local macro_rules | `(tactic| decreasing_trivial_pre_omega) => `(tactic| (first | with_reducible apply Wp.w_pso | fail))
local macro_rules | `(tactic| decreasing_trivial_pre_omega) => `(tactic| (first | with_reducible apply Wp.w_sl | fail))
local macro_rules | `(tactic| decreasing_trivial_pre_omega) => `(tactic| (first | with_reducible apply Wp.w_isi | fail))
local macro_rules | `(tactic| decreasing_trivial_pre_omega) => `(tactic| (first | with_reducible apply Wp.w_neg | fail))
local macro_rules | `(tactic| decreasing_trivial_pre_omega) => `(tactic| (first | with_reducible apply Wp.w_tor | fail))
local macro_rules | `(tactic| decreasing_trivial_pre_omega) => `(tactic| (first | with_reducible apply Wp.w_tand | fail))
local macro_rules | `(tactic| decreasing_trivial_pre_omega) => `(tactic| (first | with_reducible apply Wp.w_tnot | fail))
local macro_rules | `(tactic| decreasing_trivial_pre_omega) => `(tactic| (first | with_reducible apply Wp.w_tb | fail))
local macro_rules | `(tactic| decreasing_trivial_pre_omega) => `(tactic| (first | with_reducible apply Wp.w_eif | fail))
local macro_rules | `(tactic| decreasing_trivial_pre_omega) => `(tactic| (first | with_reducible apply Wp.w_enot | fail))
local macro_rules | `(tactic| decreasing_trivial_pre_omega) => `(tactic| (first | with_reducible apply Wp.w_eor | fail))
local macro_rules | `(tactic| decreasing_trivial_pre_omega) => `(tactic| (first | with_reducible apply Wp.w_eand | fail))
local macro_rules | `(tactic| decreasing_trivial_pre_omega) => `(tactic| (first | with_reducible apply Wp.w_callk | fail))
local macro_rules | `(tactic| decreasing_trivial_pre_omega) => `(tactic| (first | with_reducible apply Wp.w_call | fail))
local macro_rules | `(tactic| decreasing_trivial_pre_omega) => `(tactic| (first | with_reducible apply Wp.w_lst | fail))
local macro_rules | `(tactic| decreasing_trivial_pre_omega) => `(tactic| (first | with_reducible apply Wp.w_tup | fail))
local macro_rules | `(tactic| decreasing_trivial_pre_omega) => `(tactic| (first | with_reducible apply Wp.w_fng | fail))
local macro_rules | `(tactic| decreasing_trivial_pre_omega) => `(tactic| (first | with_reducible apply Wp.w_acons | fail))
local macro_rules | `(tactic| decreasing_trivial_pre_omega) => `(tactic| (first | with_reducible apply Wp.w_op2 | fail))
local macro_rules | `(tactic| decreasing_trivial_pre_omega) => `(tactic| (first | with_reducible apply Wp.w_par | fail))
local macro_rules | `(tactic| decreasing_trivial_pre_omega) => `(tactic| (first | with_reducible apply Wp.w_asg | fail))
local macro_rules | `(tactic| decreasing_trivial_pre_omega) => `(tactic| (first | with_reducible apply Wp.w_ret | fail))
local macro_rules | `(tactic| decreasing_trivial_pre_omega) => `(tactic| (first | with_reducible apply Wp.w_set | fail))
local macro_rules | `(tactic| decreasing_trivial_pre_omega) => `(tactic| (first | with_reducible apply Wp.w_if | fail))
local macro_rules | `(tactic| decreasing_trivial_pre_omega) => `(tactic| (first | with_reducible apply Wp.w_drop | fail))
local macro_rules | `(tactic| decreasing_trivial_pre_omega) => `(tactic| (first | with_reducible apply Wp.w_seq | fail))
/-! ### a tree is the same as itself -/
inductive Gv : Nat → T → Prop
  | non (n : Nat) : Gv n .none
  | bl (n : Nat) (b : Bool) : Gv n (.bool b)
  | int (n : Nat) (i : Int) : Gv n (.int i)
  | str (n : Nat) {x : Str} : PyData.strOk x = true → Gv n (.str x)
  | tup {n : Nat} {xs : List T} : (∀ x ∈ xs, Gv n x) → xs.length ≤ 20 → Gv (n + 1) (.tuple xs)
  | lst {n : Nat} {xs : List T} : (∀ x ∈ xs, Gv n x) → xs.length ≤ 20 → Gv (n + 1) (.list xs)
theorem gEq_str (k : Bool → Bool) {x y : Str} (hx : PyData.strOk x = true) (hy : PyData.strOk y = true) : gEq k (.str x) (.str y) = some (.r (.bool (k (x == y)))) := by
  have h1 : SeqAt.shaped (.str x) = true := by unfold SeqAt.shaped; simp [PyData.canLay0, PyData.depth, hx]
  have h2 : SeqAt.shaped (.str y) = true := by unfold SeqAt.shaped; simp [PyData.canLay0, PyData.depth, hy]
  show (if (SeqAt.shaped (.str x) && SeqAt.shaped (.str y)) = true then some (Od.r (.bool (k (PyData.eqv (.str x) (.str y))))) else none) = _
  rw [h1, h2]
  rfl
theorem gEq_bb (k : Bool → Bool) (a b : Bool) : gEq k (.bool a) (.bool b) = some (.r (.bool (k (a == b)))) := rfl
theorem gEq_nil : gEq id (.list []) (.list []) = some (.r (.bool true)) := rfl
theorem same_t : ∀ (n : Nat) (t : T), Gv n t → ∀ fuel, n < fuel → m__law_same fuel [.v t, .v t] = .ok (.r (.bool true)) [.v t, .v t] := by
  intro n t h
  have bt := gEq_bb
  induction h with
  | non n =>
    intro fuel hf
    obtain ⟨f, rfl⟩ : ∃ f, fuel = f + 1 := ⟨fuel - 1, by omega⟩
    rfl
  | bl n b =>
    intro fuel hf
    obtain ⟨f, rfl⟩ : ∃ f, fuel = f + 1 := ⟨fuel - 1, by omega⟩
    cases b <;> rfl
  | int n i =>
    intro fuel hf
    obtain ⟨f, rfl⟩ : ∃ f, fuel = f + 1 := ⟨fuel - 1, by omega⟩
    refine w_eq ?_
    rw [m__law_same]
    (apply Wp.w_fun; (focus (rfl; done)); (focus (((try simp only [List.cons_append, List.nil_append, List.length_cons, List.length_nil, Nat.reduceAdd, Nat.reduceSub, Nat.zero_add, Nat.sub_zero, List.replicate_succ, List.replicate_zero, List.append_nil]); rfl); done)))
    repeat' decreasing_trivial_pre_omega
    exact ⟨by simp, rfl⟩
  | @str n x hx =>
    intro fuel hf
    obtain ⟨f, rfl⟩ : ∃ f, fuel = f + 1 := ⟨fuel - 1, by omega⟩
    have g := gEq_str id hx hx
    refine w_eq ?_
    rw [m__law_same]
    (apply Wp.w_fun; (focus (rfl; done)); (focus (((try simp only [List.cons_append, List.nil_append, List.length_cons, List.length_nil, Nat.reduceAdd, Nat.reduceSub, Nat.zero_add, Nat.sub_zero, List.replicate_succ, List.replicate_zero, List.append_nil]); rfl); done)))
    repeat' decreasing_trivial_pre_omega
    refine ⟨?_, rfl⟩
    show Od.r (.bool (x == x)) = _
    rw [beq_self_eq_true]
  | @tup n xs h hl ih =>
    intro fuel hf
    obtain ⟨f, rfl⟩ : ∃ f, fuel = f + 1 := ⟨fuel - 1, by omega⟩
    refine w_eq ?_
    rw [m__law_same]
    (apply Wp.w_fun; (focus (rfl; done)); (focus (((try simp only [List.cons_append, List.nil_append, List.length_cons, List.length_nil, Nat.reduceAdd, Nat.reduceSub, Nat.zero_add, Nat.sub_zero, List.replicate_succ, List.replicate_zero, List.append_nil]); rfl); done)))
    repeat' decreasing_trivial_pre_omega
    refine kif_f (by simp) ?_
    repeat' decreasing_trivial_pre_omega
    unfold x1__law_same
    repeat' decreasing_trivial_pre_omega
    refine kr1_eq xs.length rfl rfl (by omega) ?_
    unfold below
    refine comp_filter_w (fun (k : Nat) => PyData.int (k : Int)) (fun (k : Nat) => PyData.int (k : Int)) (fun _ => false) (List.range xs.length) (by rw [List.length_range]; unfold sizeLine; omega) (fun k hk => ⟨_, rfl, ?_⟩) ?_
    · have hk := List.mem_range.mp hk
      have q1 := List.getElem?_eq_getElem hk
      have q2 := ih _ (List.getElem_mem hk) f (by omega)
      generalize xs[k] = x at q1 q2
      clear ih h
      repeat' decreasing_trivial_pre_omega
      refine w_of q2 ?_
      repeat' decreasing_trivial_pre_omega
      exact ⟨rfl, fun _ => rfl, fun z => Bool.noConfusion z⟩
    · clear ih h
      have e0 : List.filter (fun (_ : Nat) => false) (List.range xs.length) = [] := List.filter_eq_nil_iff.mpr (fun _ _ => Bool.false_ne_true)
      rw [e0]
      have g0 := gEq_nil
      repeat' decreasing_trivial_pre_omega
      exact ⟨rfl, rfl⟩
  | @lst n xs h hl ih =>
    intro fuel hf
    obtain ⟨f, rfl⟩ : ∃ f, fuel = f + 1 := ⟨fuel - 1, by omega⟩
    refine w_eq ?_
    rw [m__law_same]
    (apply Wp.w_fun; (focus (rfl; done)); (focus (((try simp only [List.cons_append, List.nil_append, List.length_cons, List.length_nil, Nat.reduceAdd, Nat.reduceSub, Nat.zero_add, Nat.sub_zero, List.replicate_succ, List.replicate_zero, List.append_nil]); rfl); done)))
    repeat' decreasing_trivial_pre_omega
    refine kif_f (by simp) ?_
    repeat' decreasing_trivial_pre_omega
    unfold x1__law_same
    repeat' decreasing_trivial_pre_omega
    refine kr1_eq xs.length rfl rfl (by omega) ?_
    unfold below
    refine comp_filter_w (fun (k : Nat) => PyData.int (k : Int)) (fun (k : Nat) => PyData.int (k : Int)) (fun _ => false) (List.range xs.length) (by rw [List.length_range]; unfold sizeLine; omega) (fun k hk => ⟨_, rfl, ?_⟩) ?_
    · have hk := List.mem_range.mp hk
      have q1 := List.getElem?_eq_getElem hk
      have q2 := ih _ (List.getElem_mem hk) f (by omega)
      generalize xs[k] = x at q1 q2
      clear ih h
      repeat' decreasing_trivial_pre_omega
      refine w_of q2 ?_
      repeat' decreasing_trivial_pre_omega
      exact ⟨rfl, fun _ => rfl, fun z => Bool.noConfusion z⟩
    · clear ih h
      have e0 : List.filter (fun (_ : Nat) => false) (List.range xs.length) = [] := List.filter_eq_nil_iff.mpr (fun _ _ => Bool.false_ne_true)
      rw [e0]
      have g0 := gEq_nil
      repeat' decreasing_trivial_pre_omega
      exact ⟨rfl, rfl⟩

set_option linter.all false
set_option maxRecDepth 100000
set_option maxHeartbeats 4000000
open PySem PySem.Spec Ev Pu Mt Wp
/-! ### the classes -/
def clsN : List Str := ["InvalidBook", "InvalidKind", "InvalidDepth", "InvalidCell", "InvalidNumber", "InvalidBox", "InvalidPosture", "InvalidPair", "InvalidField", "InvalidPicture", "InvalidMake", "InvalidStore", "InvalidName", "UnknownName", "NothingToUndo", "Unreadable", "Unorderly"]
def clsOf (k : Nat) : Str := clsN.getD k "ThreadError"
abbrev CS : List Str := (["ThreadError", "InvalidBook", "InvalidKind", "InvalidDepth", "InvalidCell", "InvalidNumber", "InvalidBox", "InvalidPosture", "InvalidPair", "InvalidField", "InvalidPicture", "InvalidMake", "InvalidStore", "InvalidName", "UnknownName", "NothingToUndo", "Unreadable", "Unorderly"] : List Str)
theorem raised_ok (k : Nat) (hk : k < 17) (t : T) (n : Bool) : m__law_raised [.v (nT k), .v t, .v (.bool n)] = .exc (clsOf k) t [.v (nT k), .v t, .v (.bool n)] := by
  match k, hk with
  | 0, _ => cases n <;> rfl
  | 1, _ => cases n <;> rfl
  | 2, _ => cases n <;> rfl
  | 3, _ => cases n <;> rfl
  | 4, _ => cases n <;> rfl
  | 5, _ => cases n <;> rfl
  | 6, _ => cases n <;> rfl
  | 7, _ => cases n <;> rfl
  | 8, _ => cases n <;> rfl
  | 9, _ => cases n <;> rfl
  | 10, _ => cases n <;> rfl
  | 11, _ => cases n <;> rfl
  | 12, _ => cases n <;> rfl
  | 13, _ => cases n <;> rfl
  | 14, _ => cases n <;> rfl
  | 15, _ => cases n <;> rfl
  | 16, _ => cases n <;> rfl
  | j + 17, h => exact absurd h (by omega)
theorem cls_in (k : Nat) (hk : k < 17) : CS.contains (clsOf k) = true ∧ subE (clsOf k) "ThreadError" = true := by
  have : ∀ j ∈ List.range 17, CS.contains (clsOf j) = true ∧ subE (clsOf j) "ThreadError" = true := by decide +kernel
  exact this k (List.mem_range.mpr hk)
def kindsL (c : Str) : List T := clsN.map fun h => PyData.bool (subE c h)
theorem kinds_at (k : Nat) (hk : k < 17) : kindsL (clsOf k) = (List.range 17).map fun j => PyData.bool (decide (j = k)) := by
  have : ∀ j ∈ List.range 17, (clsN.map fun h => subE (clsOf j) h) = (List.range 17).map fun i => decide (i = j) := by decide +kernel
  have e := this k (List.mem_range.mpr hk)
  unfold kindsL
  have e2 := congrArg (List.map PyData.bool) e
  rw [List.map_map, List.map_map] at e2
  exact e2
theorem kinds_base : kindsL "ThreadError" = (List.range 17).map fun _ => PyData.bool false := by
  have e : (clsN.map fun h => subE "ThreadError" h) = (List.range 17).map fun _ => false := by decide +kernel
  unfold kindsL
  have e2 := congrArg (List.map PyData.bool) e
  rw [List.map_map, List.map_map] at e2
  exact e2
theorem isx_ok {cs : List Str} {f : Str → Bool} {e : En} {i : Nat} {c : Str} {t : T} (h : e[i]? = some (.v (exT c t))) (hc : cs.contains c = true) : eIsx cs f (eVar i) e = .ok (.r (.bool (f c))) e := by
  unfold eIsx eVar
  rw [h]
  show (if cs.contains c = true then _ else _) = _
  rw [if_pos hc]
theorem val_ok' {e : En} {i : Nat} {c : Str} {t : T} (h : e[i]? = some (.v (exT c t))) : eVal (eVar i) e = .ok (.r t) e := by
  unfold eVal eVar
  rw [h]
  rfl

set_option linter.all false
set_option maxRecDepth 100000
set_option maxHeartbeats 4000000
open PySem PySem.Spec Ev Pu Mt Wp
theorem kinds_w (c : Str) (t : T) (hc : CS.contains c = true) : W (m__law_kinds [.v (exT c t)]) fun r e => r = .b (.l (kindsL c)) ∧ e = [.v (exT c t)] := by
  unfold m__law_kinds
  (apply Wp.w_fun; (focus (rfl; done)); (focus (((try simp only [List.cons_append, List.nil_append, List.length_cons, List.length_nil, Nat.reduceAdd, Nat.reduceSub, Nat.zero_add, Nat.sub_zero, List.replicate_succ, List.replicate_zero, List.append_nil]); rfl); done)))
  unfold b__law_kinds
  repeat' decreasing_trivial_pre_omega
  refine w_of (isx_ok rfl hc) ?_
  repeat' decreasing_trivial_pre_omega
  refine w_of (isx_ok rfl hc) ?_
  repeat' decreasing_trivial_pre_omega
  refine w_of (isx_ok rfl hc) ?_
  repeat' decreasing_trivial_pre_omega
  refine w_of (isx_ok rfl hc) ?_
  repeat' decreasing_trivial_pre_omega
  refine w_of (isx_ok rfl hc) ?_
  repeat' decreasing_trivial_pre_omega
  refine w_of (isx_ok rfl hc) ?_
  repeat' decreasing_trivial_pre_omega
  refine w_of (isx_ok rfl hc) ?_
  repeat' decreasing_trivial_pre_omega
  refine w_of (isx_ok rfl hc) ?_
  repeat' decreasing_trivial_pre_omega
  refine w_of (isx_ok rfl hc) ?_
  repeat' decreasing_trivial_pre_omega
  refine w_of (isx_ok rfl hc) ?_
  repeat' decreasing_trivial_pre_omega
  refine w_of (isx_ok rfl hc) ?_
  repeat' decreasing_trivial_pre_omega
  refine w_of (isx_ok rfl hc) ?_
  repeat' decreasing_trivial_pre_omega
  refine w_of (isx_ok rfl hc) ?_
  repeat' decreasing_trivial_pre_omega
  refine w_of (isx_ok rfl hc) ?_
  repeat' decreasing_trivial_pre_omega
  refine w_of (isx_ok rfl hc) ?_
  repeat' decreasing_trivial_pre_omega
  refine w_of (isx_ok rfl hc) ?_
  repeat' decreasing_trivial_pre_omega
  refine w_of (isx_ok rfl hc) ?_
  repeat' decreasing_trivial_pre_omega
  exact ⟨rfl, rfl⟩

set_option linter.all false
set_option maxRecDepth 100000
set_option maxHeartbeats 4000000
open PySem PySem.Spec Ev Pu Mt Wp
theorem s_x : PyData.strOk ("x" : Str) = true := by decide +kernel
theorem s_e : PyData.strOk ("" : Str) = true := by decide +kernel
theorem s_ab : PyData.strOk ("a b" : Str) = true := by decide +kernel
theorem s_a : PyData.strOk ("a" : Str) = true := by decide +kernel
def givL (f v : Int) : List T := [.int f, .int v, .str "", .str "a b", .none, .bool true, .bool false, .tuple [], .tuple [.int f, .int 1], .list [.int f, .str "x"], .tuple [.tuple [.int 1, .int 2], .tuple [.str "a", .tuple []]], .list []] ++ [.int (-1), .int 0]
theorem givL_ok (f v : Int) : ∀ t ∈ givL f v, Gv 3 t := by
  intro t ht
  simp only [givL, List.cons_append, List.nil_append, List.mem_cons, List.not_mem_nil, or_false] at ht
  rcases ht with rfl | rfl | rfl | rfl | rfl | rfl | rfl | rfl | rfl | rfl | rfl | rfl | rfl | rfl
  all_goals repeat' (first | exact .int _ _ | exact .non _ | exact .bl _ _ | exact .str _ s_x | exact .str _ s_e | exact .str _ s_ab | exact .str _ s_a | (refine .tup (fun x hx => ?_) (by simp); simp only [List.mem_cons, List.not_mem_nil, or_false] at hx) | (refine .lst (fun x hx => ?_) (by simp); simp only [List.mem_cons, List.not_mem_nil, or_false] at hx) | (exact hx.elim) | (rcases hx with rfl | rfl))
theorem given_w (D : Dk) : W (m__law_given [.ow true (.l (dkT D))]) fun r e => ∃ (t : T) (D' : Dk), r = .r t ∧ Gv 3 t ∧ e = [.ow true (.l (dkT D'))] := by
  unfold m__law_given
  (apply Wp.w_fun; (focus (rfl; done)); (focus (((try simp only [List.cons_append, List.nil_append, List.length_cons, List.length_nil, Nat.reduceAdd, Nat.reduceSub, Nat.zero_add, Nat.sub_zero, List.replicate_succ, List.replicate_zero, List.append_nil]); rfl); done)))
  unfold b__law_given
  repeat' decreasing_trivial_pre_omega
  have e30 : (10:Int) ^ Int.toNat 30 = ((1000000000000000000000000000000 : Nat) : Int) := by decide +kernel
  dsimp only
  rw [e30]
  refine w_of (take_ok D 1000000000000000000000000000000 (by decide) (by have := log2_small (i := ((1000000000000000000000000000000 : Nat) : Int)) (k := 100) (by decide +kernel) (by decide); omega)) ?_
  generalize tkV D 1000000000000000000000000000000 = v1
  generalize tkD D 1000000000000000000000000000000 = D1
  clear e30
  repeat' decreasing_trivial_pre_omega
  try dsimp only
  generalize (10:Int) ^ Int.toNat 29 = z
  refine w_of (tk_ok D1 9 (by decide) (by decide)) ?_
  generalize tkV D1 9 = v2
  generalize tkD D1 9 = D2
  repeat' decreasing_trivial_pre_omega
  have h3 := tkV_lt D2 (n := 14) (by decide)
  refine w_of (tk_ok D2 14 (by decide) (by decide)) ?_
  generalize tkV D2 14 = v3 at h3
  generalize tkD D2 14 = D3
  repeat' decreasing_trivial_pre_omega
  have hl : v3 < (givL (↑v1 - z) ↑v2).length := h3
  have hx := List.getElem?_eq_getElem hl
  have gx := givL_ok (↑v1 - z) ↑v2 _ (List.getElem_mem hl)
  show KTwo2 (Od.s 2) gIx _ (Od.r (nT v3)) [_, _, Sl.ow false (Bx.l (givL (↑v1 - z) ↑v2))]
  generalize (givL (↑v1 - z) ↑v2)[v3] = x at hx gx
  generalize givL (↑v1 - z) ↑v2 = L at hx
  refine ktwo2 rfl rfl (gIx_l hx) ?_
  repeat' decreasing_trivial_pre_omega
  exact ⟨x, D3, rfl, gx, rfl⟩

set_option linter.all false
set_option maxRecDepth 100000
set_option maxHeartbeats 4000000
open PySem PySem.Spec Ev Pu Mt Wp
theorem trK_w {cs : List Str} {mb : SemS} {h : Str} {i j : Nat} {e : En} {c : Str} {t : T} {Q : Fl → En → Prop} (h1 : Wx (mb e) c t fun e' => (isLent e' i = false ∧ isLent e' j = false ∧ i < e'.length) ∧ Q .nx ((e'.set j (.v (exT c t))).set i .un))
    (hc : cs.contains c = true) (hs : subE c h = true) (ne : i ≠ j) : W (sTryK cs mb h i j e) Q := by
  obtain ⟨e', h1, ⟨li, lj, hl⟩, q⟩ := h1
  refine w_of ?_ q
  unfold sTryK
  rw [h1]
  show (if (cs.contains c && subE c h && !isLent e' i && !isLent e' j && decide (i ≠ j) && decide (i < e'.length)) = true then _ else _) = _
  rw [hc, hs, li, lj, decide_eq_true ne, decide_eq_true hl]
  rfl
theorem wx_dropK {m : SemE} {e : En} {c : Str} {t : T} {Q : En → Prop} (h : Wx (m e) c t Q) : Wx (sDrop m e) c t Q := by
  obtain ⟨e', h, q⟩ := h
  refine ⟨e', ?_, q⟩
  unfold sDrop
  rw [h]
  rfl
theorem bl_lay (bs : List Bool) : PyData.canLayAll0 (bs.map PyData.bool) = true ∧ PyData.depthAll (bs.map PyData.bool) = 0 ∧ PyData.eqvAll (bs.map PyData.bool) (bs.map PyData.bool) = true := by
  induction bs with
  | nil => exact ⟨rfl, rfl, rfl⟩
  | cons b bs ih =>
    obtain ⟨h1, h2, h3⟩ := ih
    refine ⟨?_, ?_, ?_⟩
    · rw [List.map_cons, PyData.canLayAll0, h1]; rfl
    · rw [List.map_cons, PyData.depthAll, h2]; rfl
    · rw [List.map_cons, PyData.eqvAll, h3, PyData.eqv]; simp
theorem gEq_bls (bs : List Bool) : gEq id (.list (bs.map PyData.bool)) (.list (bs.map PyData.bool)) = some (.r (.bool true)) := by
  obtain ⟨h1, h2, h3⟩ := bl_lay bs
  have hs : SeqAt.shaped (.list (bs.map PyData.bool)) = true := by
    unfold SeqAt.shaped
    rw [PyData.canLay0, PyData.depth, h1, h2]
    rfl
  have he : PyData.eqv (.list (bs.map PyData.bool)) (.list (bs.map PyData.bool)) = true := by rw [PyData.eqv]; exact h3
  unfold gEq
  rw [hs, he]
  rfl
theorem right_w (k : Nat) (hk : k < 17) (t : T) (g : Gv 3 t) (n : Bool) : W (m__law_right [.v (nT k), .v t, .v (.bool n)]) fun r e => r = .r (.bool true) ∧ e = [.v (nT k), .v t, .v (.bool n)] := by
  obtain ⟨hc, hs⟩ := cls_in k hk
  have rk := raised_ok k hk t n
  have kl := kinds_at k hk
  have kw := kinds_w (clsOf k) t hc
  have sm := same_t 3 t g 8 (by decide)
  generalize clsOf k = c at hc hs rk kl kw
  have gn : gIsN id (exT c t) .none = some (.r (.bool false)) := rfl
  unfold m__law_right
  (apply Wp.w_fun; (focus (rfl; done)); (focus (((try simp only [List.cons_append, List.nil_append, List.length_cons, List.length_nil, Nat.reduceAdd, Nat.reduceSub, Nat.zero_add, Nat.sub_zero, List.replicate_succ, List.replicate_zero, List.append_nil]); rfl); done)))
  unfold b__law_right
  clear sm
  repeat' decreasing_trivial_pre_omega
  refine trK_w (c := c) (t := t) ?_ hc hs (by decide)
  refine wx_dropK (wx_call ?_)
  repeat' decreasing_trivial_pre_omega
  refine xcall rfl rfl (of_decide_eq_true rfl) ⟨_, rk, ⟨rfl, rfl, (by show 4 < 6; decide)⟩, ?_⟩
  clear rk
  show KSeq _ _ .nx [Sl.v (nT k), Sl.v t, Sl.v (PyData.bool n), Sl.v (exT c t), Sl.un, Sl.un]
  repeat' decreasing_trivial_pre_omega
  refine w_of (isx_ok rfl hc) ?_
  repeat' decreasing_trivial_pre_omega
  refine w_imp kw ?_
  clear kw
  rintro _ _ ⟨rfl, rfl⟩
  repeat' decreasing_trivial_pre_omega
  unfold x1__law_right
  repeat' decreasing_trivial_pre_omega
  refine kr1_eq 17 rfl rfl (by decide) ?_
  unfold below
  refine comp_map_w (fun (j : Nat) => PyData.int (j : Int)) (fun (j : Nat) => PyData.bool (decide (j = k))) (List.range 17) (by rw [List.length_range]; unfold sizeLine; omega) (fun j hj => ⟨_, rfl, ?_⟩) ?_
  · clear kl gn hc hs hj
    repeat' decreasing_trivial_pre_omega
    have eq : ((j : Int) == (k : Int)) = decide (j = k) := by
      by_cases h : j = k
      · subst h; simp
      · rw [decide_eq_false h]; exact beq_eq_false_iff_ne.mpr (by omega)
    exact ⟨congrArg PyData.bool eq, rfl⟩
  · rw [kl]
    have e2 : (List.range 17).map (fun j => PyData.bool (decide (j = k))) = ((List.range 17).map fun j => decide (j = k)).map PyData.bool := by rw [List.map_map]; rfl
    rw [e2]
    have gb := gEq_bls ((List.range 17).map fun j => decide (j = k))
    repeat' decreasing_trivial_pre_omega
    refine w_of (val_ok' rfl) ?_
    clear gb kl e2 gn hc hs
    repeat' decreasing_trivial_pre_omega
    refine w_of (same_t 3 t g 8 (by decide)) ?_
    repeat' decreasing_trivial_pre_omega
    exact ⟨rfl, rfl⟩

set_option linter.all false
set_option maxRecDepth 100000
set_option maxHeartbeats 4000000
open PySem PySem.Spec Ev Pu Mt Wp
theorem gIn_base : gIn id (.bool true) (.list (kindsL "ThreadError")) = some (.r (.bool false)) := by
  rw [kinds_base]
  rfl
theorem newX_ok {x : Str} {e : En} {i : Nat} {t : T} (h : e[i]? = some (.v t)) : eVal (eNewX x (eVar i)) e = .ok (.r t) e := by
  unfold eVal eNewX eVar
  rw [h]
  rfl
theorem base_w (t : T) (g : Gv 3 t) : W (m__law_base_right [.v t]) fun r e => r = .r (.bool true) ∧ e = [.v t] := by
  have hc : CS.contains "ThreadError" = true := by decide +kernel
  have hs : subE "ThreadError" "ThreadError" = true := by decide +kernel
  have kw := kinds_w "ThreadError" t hc
  have gi := gIn_base
  unfold m__law_base_right
  (apply Wp.w_fun; (focus (rfl; done)); (focus (((try simp only [List.cons_append, List.nil_append, List.length_cons, List.length_nil, Nat.reduceAdd, Nat.reduceSub, Nat.zero_add, Nat.sub_zero, List.replicate_succ, List.replicate_zero, List.append_nil]); rfl); done)))
  unfold b__law_base_right
  repeat' decreasing_trivial_pre_omega
  refine trK_w (c := "ThreadError") (t := t) ?_ hc hs (by decide)
  refine wx_raise ?_
  repeat' decreasing_trivial_pre_omega
  refine ⟨rfl, ⟨rfl, rfl, (by show 2 < 3; decide)⟩, ?_⟩
  show KSeq _ _ .nx [Sl.v t, Sl.v (exT "ThreadError" t), Sl.un]
  repeat' decreasing_trivial_pre_omega
  refine w_of (isx_ok rfl hc) ?_
  repeat' decreasing_trivial_pre_omega
  refine w_imp kw ?_
  clear kw
  rintro _ _ ⟨rfl, rfl⟩
  generalize kindsL "ThreadError" = L at gi
  repeat' decreasing_trivial_pre_omega
  refine w_of (val_ok' rfl) ?_
  clear gi hc hs
  repeat' decreasing_trivial_pre_omega
  refine w_of (same_t 3 t g 8 (by decide)) ?_
  repeat' decreasing_trivial_pre_omega
  refine w_of (newX_ok rfl) ?_
  repeat' decreasing_trivial_pre_omega
  refine w_of (same_t 3 t g 8 (by decide)) ?_
  repeat' decreasing_trivial_pre_omega
  exact ⟨rfl, rfl⟩

set_option linter.all false
set_option maxRecDepth 100000
set_option maxHeartbeats 8000000
open PySem PySem.Spec Ev Pu Mt Wp
theorem raisedX (k : Nat) (hk : k < 17) (t : T) (n : Bool) {Q : En → Prop} (q : Q [.v (nT k), .v t, .v (.bool n)]) : Wx (m__law_raised [.v (nT k), .v t, .v (.bool n)]) (clsOf k) t Q := ⟨_, raised_ok k hk t n, q⟩
theorem turn1 (ns : List Int) (p : Nat) (hp : p < 1000) (s1 s2 s4 s5 s6 s7 s8 : Sl) (a1 : lentS s1 = false) (a2 : lentS s2 = false) (a4 : lentS s4 = false) (a5 : lentS s5 = false) (a6 : lentS s6 = false) (a7 : lentS s7 = false) (a8 : lentS s8 = false) :
    W (y1_law [.v (scT ns), s1, s2, .v (nT p), s4, s5, s6, s7, s8, .un]) fun f e => f = .nx ∧ ∃ s1 s2 s4 s5 s6 s7 s8, (lentS s1 = false ∧ lentS s2 = false ∧ lentS s4 = false ∧ lentS s5 = false ∧ lentS s6 = false ∧ lentS s7 = false ∧ lentS s8 = false) ∧ e = [.v (scT ns), s1, s2, .v (nT p), s4, s5, s6, s7, s8, .un] := by
  obtain ⟨D, hd⟩ := deck_ok ns p hp
  unfold y1_law
  repeat' decreasing_trivial_pre_omega
  refine w_of hd ?_
  clear hd
  repeat' decreasing_trivial_pre_omega
  have hk := tkV_lt D (n := 17) (by decide)
  refine w_of (tk_ok D 17 (by decide) (by decide)) ?_
  generalize tkV D 17 = k at hk
  generalize tkD D 17 = D1
  repeat' decreasing_trivial_pre_omega
  refine w_of (tk_ok D1 2 (by decide) (by decide)) ?_
  generalize tkV D1 2 = v2
  generalize tkD D1 2 = D2
  repeat' decreasing_trivial_pre_omega
  generalize id (PyData.eqv (nT v2) (PyData.int 1)) = b
  refine w_imp (given_w D2) ?_
  rintro _ _ ⟨t, D3, rfl, gt, rfl⟩
  repeat' decreasing_trivial_pre_omega
  refine w_imp (given_w D3) ?_
  rintro _ _ ⟨o, D4, rfl, go, rfl⟩
  repeat' decreasing_trivial_pre_omega
  refine w_imp (right_w k hk t gt b) ?_
  rintro _ _ ⟨rfl, rfl⟩
  repeat' decreasing_trivial_pre_omega
  refine w_imp (right_w k hk o go (!b)) ?_
  rintro _ _ ⟨rfl, rfl⟩
  repeat' decreasing_trivial_pre_omega
  refine w_imp (base_w o go) ?_
  rintro _ _ ⟨rfl, rfl⟩
  repeat' decreasing_trivial_pre_omega
  refine trK_w (c := clsOf k) (t := t) ?_ (cls_in k hk).1 (cls_in k hk).2 (by decide)
  refine wx_dropK (wx_call ?_)
  repeat' decreasing_trivial_pre_omega
  refine xcall rfl rfl (of_decide_eq_true rfl) (raisedX k hk t b ⟨⟨rfl, isLent_of rfl a1, (by show 9 < 10; decide)⟩, ?_⟩)
  show KSeq _ _ .nx [Sl.v (scT ns), Sl.v (exT (clsOf k) t), s2, Sl.v (nT p), Sl.ow false (.l (dkT D4)), Sl.v (nT k), Sl.v (.bool b), Sl.v t, Sl.v o, Sl.un]
  repeat' decreasing_trivial_pre_omega
  refine trK_w (c := clsOf k) (t := o) ?_ (cls_in k hk).1 (cls_in k hk).2 (by decide)
  refine wx_dropK (wx_call ?_)
  repeat' decreasing_trivial_pre_omega
  refine xcall rfl rfl (of_decide_eq_true rfl) (raisedX k hk o b ⟨⟨rfl, isLent_of rfl a2, (by show 9 < 10; decide)⟩, ?_⟩)
  show KSeq _ _ .nx [Sl.v (scT ns), Sl.v (exT (clsOf k) t), Sl.v (exT (clsOf k) o), Sl.v (nT p), Sl.ow false (.l (dkT D4)), Sl.v (nT k), Sl.v (.bool b), Sl.v t, Sl.v o, Sl.un]
  repeat' decreasing_trivial_pre_omega
  refine w_of (val_ok' rfl) ?_
  repeat' decreasing_trivial_pre_omega
  refine w_of (same_t 3 t gt 8 (by decide)) ?_
  repeat' decreasing_trivial_pre_omega
  refine w_of (val_ok' rfl) ?_
  repeat' decreasing_trivial_pre_omega
  refine w_of (same_t 3 o go 8 (by decide)) ?_
  repeat' decreasing_trivial_pre_omega
  exact ⟨rfl, _, _, _, _, _, _, _, ⟨rfl, rfl, rfl, rfl, rfl, rfl, rfl⟩, rfl⟩

set_option linter.all false
set_option maxRecDepth 100000
set_option maxHeartbeats 8000000
open PySem PySem.Spec Ev Pu Mt Wp
theorem s_aT : Gv 3 (.str "a") := .str 3 s_a
theorem law_n (n : Nat) : ∃ m : Nat, m ≤ 40 ∧ (if (if (40 : Int) < (n : Int) then 40 else (n : Int)) > 1 then (if (40 : Int) < (n : Int) then 40 else (n : Int)) else 1) = (m : Int) := by
  by_cases h : (40 : Int) < (n : Int)
  · rw [if_pos h]; exact ⟨40, by omega, by decide⟩
  · rw [if_neg h]
    by_cases h2 : (n : Int) > 1
    · rw [if_pos h2]; exact ⟨n, by omega, rfl⟩
    · rw [if_neg h2]; exact ⟨1, by omega, rfl⟩
theorem turn2 (j : Nat) (hj : j < 17) (s0 s1 s2 s3 s4 s6 s7 s8 s9 : Sl) : W (y2_law [s0, s1, s2, s3, s4, .v (nT j), s6, s7, s8, s9]) fun f e => f = .nx ∧ e = [s0, s1, s2, s3, s4, .v (nT j), s6, s7, s8, s9] := by
  unfold y2_law
  repeat' decreasing_trivial_pre_omega
  refine w_imp (right_w j hj (nT j) (.int 3 _) false) ?_
  rintro _ _ ⟨rfl, rfl⟩
  repeat' decreasing_trivial_pre_omega
  refine w_imp (right_w j hj (.str "a") s_aT true) ?_
  rintro _ _ ⟨rfl, rfl⟩
  repeat' decreasing_trivial_pre_omega
  exact ⟨rfl, rfl⟩
theorem pure_law : ∀ ns : List Int, ns.length ≤ 63 → (∀ k ∈ ns, Builtin.Int.intBits k ≤ 1048576) → ∃ e', m_law [.v (.list (ns.map PyData.int))] = .ok (.r (.bool true)) e' := by
  intro ns hns _
  suffices h : W (m_law [.v (scT ns)]) fun r e => r = .r (.bool true) by
    obtain ⟨r, e, h, rfl⟩ := h
    exact ⟨e, h⟩
  unfold m_law
  (apply Wp.w_fun; (focus (rfl; done)); (focus (((try simp only [List.cons_append, List.nil_append, List.length_cons, List.length_nil, Nat.reduceAdd, Nat.reduceSub, Nat.zero_add, Nat.sub_zero, List.replicate_succ, List.replicate_zero, List.append_nil]); rfl); done)))
  unfold b_law l1_law
  repeat' decreasing_trivial_pre_omega
  obtain ⟨m, hm, e⟩ := law_n (ns.map PyData.int).length
  refine kr1_eq m rfl e (by omega) (for_below (fun p e => ∃ (s1 s2 s3 s4 s5 s6 s7 s8 : Sl), (lentS s1 = false ∧ lentS s2 = false ∧ lentS s3 = false ∧ lentS s4 = false ∧ lentS s5 = false ∧ lentS s6 = false ∧ lentS s7 = false ∧ lentS s8 = false) ∧ e = [.v (scT ns), s1, s2, s3, s4, s5, s6, s7, s8, .un]) ⟨.v .none, .v .none, .un, .un, .un, .un, .un, .un, ⟨rfl, rfl, rfl, rfl, rfl, rfl, rfl, rfl⟩, rfl⟩ ?_ ?_)
  · rintro p hp e ⟨s1, s2, s3, s4, s5, s6, s7, s8, ⟨a1, a2, a3, a4, a5, a6, a7, a8⟩, rfl⟩
    refine ⟨_, gN_ok (by first | rfl | exact Wp.isLent_of rfl (by assumption)) rfl, ?_⟩
    refine w_imp (turn1 ns p (by omega) s1 s2 s4 s5 s6 s7 s8 a1 a2 a4 a5 a6 a7 a8) ?_
    rintro _ _ ⟨rfl, s1, s2, s4, s5, s6, s7, s8, ⟨a1, a2, a4, a5, a6, a7, a8⟩, rfl⟩
    refine kturn_nx ?_
    exact ⟨s1, s2, .v (nT p), s4, s5, s6, s7, s8, ⟨a1, a2, rfl, a4, a5, a6, a7, a8⟩, rfl⟩
  · rintro e ⟨s1, s2, s3, s4, s5, s6, s7, s8, ⟨a1, a2, a3, a4, a5, a6, a7, a8⟩, rfl⟩
    unfold l2_law
    repeat' decreasing_trivial_pre_omega
    refine kr1 (n := 17) rfl (by decide) (for_below (fun j e => ∃ (s5 : Sl), lentS s5 = false ∧ e = [.v (scT ns), s1, s2, s3, s4, s5, s6, s7, s8, .un]) ⟨s5, a5, rfl⟩ ?_ ?_)
    · rintro j hj e ⟨s5, a5, rfl⟩
      refine ⟨_, gN_ok (by first | rfl | exact Wp.isLent_of rfl (by assumption)) rfl, ?_⟩
      refine w_imp (turn2 j hj _ s1 s2 s3 s4 s6 s7 s8 _) ?_
      rintro _ _ ⟨rfl, rfl⟩
      refine kturn_nx ?_
      exact ⟨.v (nT j), rfl, rfl⟩
    · rintro e ⟨s5, a5, rfl⟩
      repeat' decreasing_trivial_pre_omega
      rfl

end Lw
set_option maxHeartbeats 4000000
namespace Lw
open PySem PySem.Spec PyProof.Rows L2 Ev Lz
theorem facts {P : Program} {w : World} {K : PySem.W.Frag} {h : Heap} {mg : Str → Option Value} {f : Addr} (X : K.In h) (G : h.Ns mainGlobals mg) (hfa : mg ("law" : Str) = some (.ref f)) (c : He.SaysD fa fn K) (cx : Ev.exB (["ThreadError", "InvalidBook", "InvalidKind", "InvalidDepth", "InvalidCell", "InvalidNumber", "InvalidBox", "InvalidPosture", "InvalidPair", "InvalidField", "InvalidPicture", "InvalidMake", "InvalidStore", "InvalidName", "UnknownName", "NothingToUndo", "Unreadable", "Unorderly"] : List Str) K = true) :
    ∃ fd : FuncData, (∀ (s : Shared) (v : Value), BindsTo s fd ⟨[v], []⟩ [("script", v)]) ∧ ∀ base : Heap, K.In base → base.Ns mainGlobals mg → FnOk P w K mg base CXE 11 f fd ["script"] (spF K 1 m_law) := by
  have e := hfa.symm.trans (He.glo_ok X G (c.fact 12 (f := .glo "law") rfl))
  cases e
  obtain ⟨fd, F⟩ := c.def_ 12 (d := d_law) rfl
  have F : FunD K "law" "law" (defArgs s_law) (defBody s_law) (defScope s_law) [] [] (He.ga K "law") fd := F
  have b := FunD.bindsA (ps := ["script"]) F fun _ _ _ _ _ _ us hl => match us, hl with | [_], _ => rfl
  refine ⟨fd, fun s v => b s [v] rfl, fun base _ _ => ?_⟩
  obtain ⟨fd', F', O⟩ := ok_law (P := P) (w := w) (base := base) X G c cx
  have ee : fd = fd' := by
    obtain ⟨_, _, _, _, _, _, _, _, _, _, e1, l1, _⟩ := F.ex
    obtain ⟨_, _, _, _, _, _, _, _, _, _, e2, l2, _⟩ := F'.ex
    rw [l1] at l2
    cases l2
    rfl
  rw [ee]
  exact fnok_cx O
end Lw
open PySem PySem.W PySem.Calls PyProof.Rows
theorem PySem.Challenge.cw_squarethreads_k00_errors_holds : PySem.Challenge.rw_squarethreads_k00_errors.Holds := by
  w_on; o_law
  refine HandSHeadRun.head_any (r := OpenLaw.row PySem.Challenge.rw_squarethreads_k00_errors) (q := view (OpenLaw.row PySem.Challenge.rw_squarethreads_k00_errors).prog [32]) (H := Lz.hk) (ob := Lz.ob) (M := 8000) (loose := Lz.loose) (d := HandSHeadRun.topDef (OpenLaw.row PySem.Challenge.rw_squarethreads_k00_errors).prog 32) (kwd := []) Lz.ob_eq
    (by kernel_rfl) (fun s => by kernel_rfl) Lz.run (by kernel_rfl) (by kernel_rfl) (by kernel_rfl) (by rfl) (by first | assumption | decide +kernel) (by decide +kernel) ⟨rfl, rfl, rfl, rfl, rfl, by decide +kernel⟩ ?hw ?hc
  case hw => w_witness2
  case hc =>
    refine L2.walk_ofEB (l := PySem.Challenge.rw_squarethreads_k00_errors) (n := 63) (k := 11) (x := "script") (CX := Ev.CXE) rfl (by decide) (by kernel_rfl) ⟨rfl, by decide, by decide⟩ ?F Ev.law_CXE
    intro w mg fa h Y G hmg0
    obtain ⟨K, KX, c0⟩ := Y
    have c := c0.t.d
    have cx := c0.more
    have hmg : mg ("law" : PySem.Str) = some (.ref fa) := by
      have e : (HandSHeadRun.topDef (OpenLaw.row PySem.Challenge.rw_squarethreads_k00_errors).prog 32).name = ("law" : PySem.Str) := by kernel_rfl
      rw [← e]
      exact hmg0
    obtain ⟨fd, hb, hF⟩ := Lw.facts (P := (PySem.Challenge.rw_squarethreads_k00_errors).prog) (w := w) KX G hmg c cx
    exact ⟨K, fd, _, KX, hb, fun H a ns hl hbits _ hS => Ev.law_sp hS (Lw.pure_law ns hl hbits), hF⟩


