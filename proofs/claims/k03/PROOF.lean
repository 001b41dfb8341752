import PyProof.Rows.All
import Wide.All
import OpenK.AllK
import Wide.FinOn
import KE.KStateDown
import HandS.Head0
import HandS.Head1
import HandS.Head2
import HandS.HeadEnd
import HandS.HeadHook1
import HandS.HeadHook2
import HandS.Base
import HandS.Call
import HandS.List
import HandS.Comp
import HandS.Iter
import HandS.IsInst
import HandS.Wide
import HandS.More
import HandS.ExcInit
import HandS.ExcOwn
import HandS.TupAny
import HandS.Deep
import HandS.TupMul
import HandS.Style
import HandS.Zip
import HandS.Walk
import HandS.Words
import HandS.WordsExc
import HandS.Defaults
import HandS.ExcCtx
import HandS.TupSets
import PyProof.LongRange
import PyProof.RangeFor
import HandS.Dict
import PySem.Challenge.RW_squarethreads_k03_whole_turned_and_backw
set_option Elab.async false
set_option linter.all false
set_option maxRecDepth 100000
set_option Elab.async false
set_option linter.all false
set_option maxRecDepth 100000
namespace Ev
open PySem PySem.Spec PyProof.Rows L2

abbrev T := PyData
abbrev Sg := L2.St
/-- a thing that a name alone holds -/
inductive Bx where
  | l (xs : List T)
  | d (kvs : List (T × T))
def Bx.t : Bx → T
  | .l xs => .list xs
  | .d kvs => .dict kvs
/-- what a name holds -/
inductive Sl where
  | un
  | v (t : T)
  | ow (lent : Bool) (b : Bx)
  | fz (b : Bx)
abbrev En := List Sl
inductive Out (α : Type) where
  | ok (a : α) (e : En)
  | exc (c : Str) (t : T) (e : En)
  | bad
@[simp] def Out.bind {α β : Type} : Out α → (α → En → Out β) → Out β
  | .ok a e, f => f a e
  | .exc c t e, _ => .exc c t e
  | .bad, _ => .bad
/-- what an expression yields: a tree, what the name i holds, a new thing -/
inductive Od where
  | r (t : T)
  | s (i : Nat)
  | b (b : Bx)

theorem dp_mono {K : PySem.W.Frag} {F F' : Hp} (ff : ∀ a o, F a = some o → F' a = some o) : ∀ (t : T) (v : V), Dp K F v t → Dp K F' v t := by
  have sl : ∀ {a xs}, SqL K F a xs → SqL K F' a xs := fun {a xs} h => by
    rcases h with h | h
    · rcases h with h | ⟨o, h⟩
      · exact .inl (.inl (ff _ _ h))
      · exact .inl (.inr ⟨o, ff _ _ h⟩)
    · exact .inr h
  have st : ∀ {a xs}, SqT K F a xs → SqT K F' a xs := fun {a xs} h => by
    rcases h with h | h
    · rcases h with h | ⟨o, h⟩
      · exact .inl (.inl (ff _ _ h))
      · exact .inl (.inr ⟨o, ff _ _ h⟩)
    · exact .inr h
  intro t v h
  exact Dp.rec (motive_1 := fun v t _ => Dp K F' v t) (motive_2 := fun vs ts _ => DpAll K F' vs ts)
    .non (fun b => .bl b) (fun i => .int i) (fun x => .str x) (fun h _ ih => .lst (sl h) ih) (fun h _ ih => .tup (st h) ih) .nil (fun _ _ a b => .cons a b) h
theorem dpAll_mono {K : PySem.W.Frag} {F F' : Hp} (ff : ∀ a o, F a = some o → F' a = some o) : ∀ {ts : List T} {vs : List V}, DpAll K F vs ts → DpAll K F' vs ts
  | [], _, h => by cases h; exact .nil
  | _ :: _, _, h => by cases h with | cons a b => exact .cons (dp_mono ff _ _ a) (dpAll_mono ff b)
theorem dpAll_len {K : PySem.W.Frag} {F : Hp} : ∀ {ts : List T} {vs : List V}, DpAll K F vs ts → vs.length = ts.length
  | [], _, h => by cases h; rfl
  | _ :: _, _, h => by cases h with | cons a b => simp [dpAll_len b]
theorem dpAll_app {K : PySem.W.Frag} {F : Hp} : ∀ {ts us : List T} {vs ws : List V}, DpAll K F vs ts → DpAll K F ws us → DpAll K F (vs ++ ws) (ts ++ us)
  | [], _, _, _, h, g => by cases h; exact g
  | _ :: _, _, _, _, h, g => by cases h with | cons a b => exact .cons a (dpAll_app b g)
theorem dpAll_get {K : PySem.W.Frag} {F : Hp} : ∀ {ts : List T} {vs : List V} {i : Nat} {t : T}, DpAll K F vs ts → ts[i]? = some t → ∃ v, vs[i]? = some v ∧ Dp K F v t
  | [], _, _, _, _, e => by simp at e
  | _ :: _, _, 0, _, h, e => by cases h with | cons a b => simp at e; subst e; exact ⟨_, rfl, a⟩
  | _ :: _, _, i + 1, _, h, e => by cases h with | cons a b => simpa using dpAll_get b (by simpa using e)
theorem dpAll_getV {K : PySem.W.Frag} {F : Hp} {ts : List T} {vs : List V} {i : Nat} {v : V} (h : DpAll K F vs ts) (e : vs[i]? = some v) : ∃ t, ts[i]? = some t ∧ Dp K F v t := by
  have l := dpAll_len h
  have hi : i < ts.length := by rw [← l]; exact (List.getElem?_eq_some_iff.mp e).1
  obtain ⟨w, e2, d⟩ := dpAll_get h (List.getElem?_eq_getElem hi)
  rw [e] at e2; cases e2
  exact ⟨_, List.getElem?_eq_getElem hi, d⟩
theorem dpAll_take {K : PySem.W.Frag} {F : Hp} : ∀ {ts : List T} {vs : List V} (n : Nat), DpAll K F vs ts → DpAll K F (vs.take n) (ts.take n)
  | _, _, 0, _ => .nil
  | [], _, _ + 1, h => by cases h; exact .nil
  | _ :: _, _, n + 1, h => by cases h with | cons a b => exact .cons a (dpAll_take n b)
theorem dpAll_drop {K : PySem.W.Frag} {F : Hp} : ∀ {ts : List T} {vs : List V} (n : Nat), DpAll K F vs ts → DpAll K F (vs.drop n) (ts.drop n)
  | _, _, 0, h => h
  | [], _, _ + 1, h => by cases h; exact .nil
  | _ :: _, _, n + 1, h => by cases h with | cons a b => exact dpAll_drop n b
theorem dpAll_set {K : PySem.W.Frag} {F : Hp} {t : T} {v : V} (d : Dp K F v t) : ∀ {ts : List T} {vs : List V} (n : Nat), DpAll K F vs ts → DpAll K F (vs.set n v) (ts.set n t)
  | [], _, _, h => by cases h; exact .nil
  | _ :: _, _, 0, h => by cases h with | cons a b => exact .cons d b
  | _ :: _, _, n + 1, h => by cases h with | cons a b => exact .cons a (dpAll_set d n b)

/-- a key of a dict as a tree -/
def kyT : Key → T
  | .inl i => .int i
  | .inr x => .str x
/-- a dict's entries -/
def KdR (K : PySem.W.Frag) (F : Hp) (ks : List (Key × V)) (kvs : List (T × T)) : Prop := Paired (fun p q => q.1 = kyT p.1 ∧ Dp K F p.2 q.2) ks kvs
theorem kdR_mono {K : PySem.W.Frag} {F F' : Hp} (ff : ∀ a o, F a = some o → F' a = some o) {ks : List (Key × V)} {kvs : List (T × T)} (h : KdR K F ks kvs) : KdR K F' ks kvs := by
  unfold KdR at h ⊢
  induction h with
  | nil => exact .nil
  | cons a _ ih => exact .cons ⟨a.1, dp_mono ff _ _ a.2⟩ ih
def BxAt (K : PySem.W.Frag) (F H : Hp) (p : Addr) : Bx → Prop
  | .l ts => ∃ xs, H p = some (.lst xs) ∧ DpAll K F xs ts
  | .d kvs => ∃ ks, H p = some (.dK ks) ∧ KdR K F ks kvs
def RS (K : PySem.W.Frag) (F H : Hp) : Sl → Option V → Prop
  | .un, _ => True
  | .v t, o => ∃ x, o = some x ∧ Dp K F x t
  | .ow _ b, o => ∃ p, o = some (.ref p) ∧ F p = none ∧ BxAt K F H p b
  | .fz b, o => ∃ x, o = some x ∧ Dp K F x b.t
def Own (e : En) (σ : Sg) (p : Addr) : Prop := ∃ (i : Nat) (l : Bool) (b : Bx), e[i]? = some (Sl.ow l b) ∧ σ[i]? = some (some (V.ref p))
structure Rel (K : PySem.W.Frag) (e : En) (σ : Sg) (F H : Hp) : Prop where
  sub : ∀ a o, F a = some o → H a = some o
  len : e.length = σ.length
  at_ : ∀ (i : Nat) (s : Sl) (o : Option V), e[i]? = some s → σ[i]? = some o → RS K F H s o
  ne : ∀ (i j : Nat) (l : Bool) (b : Bx) (l' : Bool) (b' : Bx) (p : Addr), e[i]? = some (.ow l b) → e[j]? = some (.ow l' b') → σ[i]? = some (some (.ref p)) → σ[j]? = some (some (.ref p)) → i = j
def Lent (e : En) (i : Nat) : Prop := ∃ b, e[i]? = some (.ow true b) ∨ e[i]? = some (.fz b)
/-- what kinds of owning names there are stays -/
def SameKinds (e e1 : En) : Prop := ∀ (i : Nat) (l : Bool) (b : Bx), e1[i]? = some (Sl.ow l b) → ∃ b', e[i]? = some (Sl.ow l b')
structure Step (e e' : En) (σ : Sg) (F H F' H' : Hp) : Prop where
  ff : ∀ a o, F a = some o → F' a = some o
  keep : ∀ a o, H a = some o → ¬ Own e σ a → H' a = some o ∧ (F a = none → F' a = none)
  dom : ∀ a o, H a = some o → ∃ o', H' a = some o'
  own : ∀ a, Own e' σ a → Own e σ a
  lt : ∀ i, Lent e i → Lent e' i
  sk : SameKinds e e'
theorem Step.refl {e : En} {σ : Sg} {F H : Hp} : Step e e σ F H F H := ⟨fun _ _ h => h, fun _ _ h _ => ⟨h, fun x => x⟩, fun _ o h => ⟨o, h⟩, fun _ h => h, fun _ h => h, fun i l b h => ⟨b, h⟩⟩
theorem Step.trans {e e1 e2 : En} {σ : Sg} {F H F1 H1 F2 H2 : Hp} (a : Step e e1 σ F H F1 H1) (b : Step e1 e2 σ F1 H1 F2 H2) : Step e e2 σ F H F2 H2 where
  ff := fun x o h => b.ff _ _ (a.ff _ _ h)
  keep := fun x o h n => by
    obtain ⟨h1, f1⟩ := a.keep x o h n
    obtain ⟨h2, f2⟩ := b.keep x o h1 (fun z => n (a.own _ z))
    exact ⟨h2, fun z => f2 (f1 z)⟩
  dom := fun x o h => by
    obtain ⟨o1, h1⟩ := a.dom x o h
    exact b.dom x o1 h1
  own := fun x h => a.own _ (b.own _ h)
  lt := fun i h => b.lt _ (a.lt _ h)
  sk := fun i l z h => by
    obtain ⟨z1, h1⟩ := b.sk i l z h
    exact a.sk i l z1 h1
/-- an owned thing stands in the heap, apart from the trees -/
theorem Rel.owned {K : PySem.W.Frag} {e : En} {σ : Sg} {F H : Hp} {p : Addr} (R : Rel K e σ F H) (h : Own e σ p) : F p = none ∧ ∃ o, H p = some o := by
  obtain ⟨i, l, b, h1, h2⟩ := h
  obtain ⟨q, e1, f, x⟩ := R.at_ i _ _ h1 h2
  cases e1
  refine ⟨f, ?_⟩
  cases b with
  | l ts => obtain ⟨xs, hx, _⟩ := x; exact ⟨_, hx⟩
  | d kvs => obtain ⟨ks, hx, _⟩ := x; exact ⟨_, hx⟩

/-- what a value yielded is -/
def OdR (K : PySem.W.Frag) (σ : Sg) (Hs F H : Hp) (x : V) : Od → Prop
  | .r t => Dp K F x t
  | .s i => σ[i]? = some (some x)
  | .b b => ∃ p, x = .ref p ∧ Hs p = none ∧ F p = none ∧ BxAt K F H p b
abbrev SemE := En → Out Od
abbrev WX := Value → Option Addr → Sg → Hp → Prop
/-- an exception: of the class that the name c names, with the value t -/
def ExR (K : PySem.W.Frag) (F H : Hp) (c : Str) (t : T) (cls : Value) (d : Option Addr) : Prop :=
  cls = .ref (He.ga K c) ∧ ∃ dx v, d = some dx ∧ H dx = some (.xd [("value", v)]) ∧ Dp K F v t
end Ev

set_option Elab.async false
set_option linter.all false
set_option maxRecDepth 100000
namespace Ev
open PySem PySem.Spec PyProof.Rows L2
def Bx.tr : Bx → Option T
  | .l xs => some (.list xs)
  | .d _ => none
def slVal : Sl → Option T
  | .un => none
  | .v t => some t
  | .ow _ b => b.tr
  | .fz b => some b.t
def Od.val (e : En) : Od → Option T
  | .r t => some t
  | .s i => match e[i]? with
    | some z => slVal z
    | none => none
  | .b z => z.tr
section
variable {K : PySem.W.Frag} {W : WX} {e e1 e2 : En} {σ : Sg} {F H F1 H1 F2 H2 Hs : Hp} {p : Addr} {o : HO}
/-- a value; a list's own node may stand in H alone -/
def DpO (K : PySem.W.Frag) (F H : Hp) (x : V) : T → Prop
  | .list ts => ∃ p xs, x = .ref p ∧ SqL K H p xs ∧ DpAll K F xs ts
  | t => Dp K F x t
theorem sqL_mono {a : Addr} {xs : List V} (ff : ∀ a o, F a = some o → H a = some o) (h : SqL K F a xs) : SqL K H a xs := by
  rcases h with h | h
  · rcases h with h | ⟨o, h⟩
    · exact .inl (.inl (ff _ _ h))
    · exact .inl (.inr ⟨o, ff _ _ h⟩)
  · exact .inr h
theorem sqT_mono {a : Addr} {xs : List V} (ff : ∀ a o, F a = some o → H a = some o) (h : SqT K F a xs) : SqT K H a xs := by
  rcases h with h | h
  · rcases h with h | ⟨o, h⟩
    · exact .inl (.inl (ff _ _ h))
    · exact .inl (.inr ⟨o, ff _ _ h⟩)
  · exact .inr h
theorem dpo_of {x : V} {t : T} (ff : ∀ a o, F a = some o → H a = some o) (d : Dp K F x t) : DpO K F H x t := by
  cases d with
  | lst a b => exact ⟨_, _, rfl, sqL_mono ff a, b⟩
  | tup a b => exact .tup a b
  | non => exact .non
  | bl b => exact .bl b
  | int i => exact .int i
  | str z => exact .str z
theorem DpO.dp {x : V} {t : T} (ff : ∀ a o, F a = some o → H a = some o) (d : DpO K F H x t) : Dp K H x t := by
  cases t with
  | list ts => obtain ⟨p, xs, rfl, a, b⟩ := d; exact .lst a (dpAll_mono ff b)
  | tuple ts => exact dp_mono ff _ _ d
  | none => exact dp_mono ff _ _ d
  | bool _ => exact dp_mono ff _ _ d
  | int _ => exact dp_mono ff _ _ d
  | str _ => exact dp_mono ff _ _ d
  | dict _ => exact dp_mono ff _ _ d
theorem bx_dpo {b : Bx} {t : T} (x : BxAt K F H p b) (h : b.tr = some t) : DpO K F H (.ref p) t := by
  cases b with
  | l ts => obtain ⟨xs, hx, d⟩ := x; cases h; exact ⟨_, xs, rfl, SqL.of hx, d⟩
  | d kvs => cases h
theorem val_ok {x : V} {r : Od} {t : T} (R : Rel K e σ F H) (O : OdR K σ Hs F H x r) (h : r.val e = some t) : DpO K F H x t := by
  cases r with
  | r u => cases h; exact dpo_of R.sub O
  | b b => obtain ⟨p, rfl, _, _, z⟩ := O; exact bx_dpo z (by simpa [Od.val] using h)
  | s i =>
    have O : σ[i]? = some (some x) := O
    simp only [Od.val] at h
    cases q : e[i]? with
    | none => rw [q] at h; cases h
    | some s =>
      rw [q] at h
      have z := R.at_ i s _ q O
      cases s with
      | un => cases h
      | v u => cases h; obtain ⟨y, ey, d⟩ := z; cases ey; exact dpo_of R.sub d
      | ow l b => obtain ⟨p, ey, _, d⟩ := z; cases ey; exact bx_dpo d h
      | fz b => cases h; obtain ⟨y, ey, d⟩ := z; cases ey; exact dpo_of R.sub d
theorem fresh_not_own (R : Rel K e σ F H) (S : Step e e1 σ F H F1 H1) (h : H p = none) : ¬ Own e1 σ p := fun z => by
  obtain ⟨_, o, q⟩ := R.owned (S.own _ z)
  rw [h] at q; cases q
theorem bx_keep {b : Bx} (x : BxAt K F1 H1 p b) (ff : ∀ a o, F1 a = some o → F2 a = some o) (hk : ∀ o, H1 p = some o → H2 p = some o) : BxAt K F2 H2 p b := by
  cases b with
  | l ts => obtain ⟨xs, hx, d⟩ := x; exact ⟨xs, hk _ hx, dpAll_mono ff d⟩
  | d kvs => obtain ⟨ks, hx, d⟩ := x; exact ⟨ks, hk _ hx, kdR_mono ff d⟩
theorem bx_some {b : Bx} (x : BxAt K F1 H1 p b) : ∃ o, H1 p = some o := by
  cases b with
  | l ts => obtain ⟨xs, hx, _⟩ := x; exact ⟨_, hx⟩
  | d kvs => obtain ⟨ks, hx, _⟩ := x; exact ⟨_, hx⟩
/-- a value stays what it is while others are worked out -/
theorem od_stay {x : V} {r : Od} (O : OdR K σ H F1 H1 x r) (no : ∀ p, H p = none → ¬ Own e1 σ p) (S : Step e1 e2 σ F1 H1 F2 H2) : OdR K σ H F2 H2 x r := by
  cases r with
  | r t => exact dp_mono S.ff _ _ O
  | s i => exact O
  | b b =>
    obtain ⟨p, rfl, hn, hf, z⟩ := O
    obtain ⟨o, ho⟩ := bx_some z
    have k := S.keep p o ho (no p hn)
    exact ⟨p, rfl, hn, k.2 hf, bx_keep z S.ff fun o' h' => by rw [ho] at h'; cases h'; exact k.1⟩
theorem od_back {x : V} {r : Od} (O : OdR K σ H1 F2 H2 x r) (S : Step e e1 σ F H F1 H1) : OdR K σ H F2 H2 x r := by
  cases r with
  | r t => exact O
  | s i => exact O
  | b b =>
    obtain ⟨p, rfl, hn, hf, z⟩ := O
    refine ⟨p, rfl, ?_, hf, z⟩
    cases q : H p with
    | none => rfl
    | some o => obtain ⟨o', e'⟩ := S.dom _ _ q; rw [hn] at e'; cases e'
/-! ### new things -/
theorem laid_own (R : Rel K e σ F H) (hp : H p = none) : Rel K e σ F (upd H p o) := by
  refine ⟨fun a u h => ?_, R.len, fun i s u h1 h2 => ?_, R.ne⟩
  · have := R.sub _ _ h
    rw [upd_ne (ne_of_none this hp)]; exact this
  · have z := R.at_ i s u h1 h2
    cases s with
    | un => trivial
    | v t => exact z
    | fz b => exact z
    | ow l b =>
      obtain ⟨q, eq, hf, x⟩ := z
      refine ⟨q, eq, hf, bx_keep x (fun _ _ h => h) fun o' h' => ?_⟩
      rw [upd_ne (ne_of_none h' hp)]; exact h'
theorem laid_own_step (hp : H p = none) : Step e e σ F H F (upd H p o) :=
  ⟨fun _ _ h => h, fun a u h _ => ⟨by rw [upd_ne (ne_of_none h hp)]; exact h, fun z => z⟩, fun a u h => ⟨u, by rw [upd_ne (ne_of_none h hp)]; exact h⟩, fun _ h => h, fun _ h => h, fun i l b h => ⟨b, h⟩⟩
theorem sub_none (R : Rel K e σ F H) (hp : H p = none) : F p = none := by
  cases q : F p with
  | none => rfl
  | some o => rw [R.sub _ _ q] at hp; cases hp
/-- F grows by what stands in H, apart from what is owned -/
theorem frz_rel (R : Rel K e σ F H) (hp : H p = some o) (no : ¬ Own e σ p) (hf : F p = none) : Rel K e σ (upd F p o) H := by
  have ff : ∀ a u, F a = some u → upd F p o a = some u := fun a u h => by rw [upd_ne (ne_of_none h hf)]; exact h
  refine ⟨fun a u h => ?_, R.len, fun i s u h1 h2 => ?_, R.ne⟩
  · by_cases q : a = p
    · subst q; rw [upd_same] at h; cases h; exact hp
    · rw [upd_ne q] at h; exact R.sub _ _ h
  · have z := R.at_ i s u h1 h2
    cases s with
    | un => trivial
    | v t => obtain ⟨x, ex, d⟩ := z; exact ⟨x, ex, dp_mono ff _ _ d⟩
    | fz b => obtain ⟨x, ex, d⟩ := z; exact ⟨x, ex, dp_mono ff _ _ d⟩
    | ow l b =>
      obtain ⟨q, eq, hf', x⟩ := z
      have ne : q ≠ p := fun z => no ⟨i, l, b, h1, by rw [h2, eq, z]⟩
      exact ⟨q, eq, by rw [upd_ne ne]; exact hf', bx_keep x ff fun _ h => h⟩
theorem frz_step (S : Step e e1 σ F H F1 H1) (hp : H p = none) (hf : F1 p = none) : Step e e1 σ F H (upd F1 p o) H1 :=
  ⟨fun a u h => by rw [upd_ne (ne_of_none (S.ff _ _ h) hf)]; exact S.ff _ _ h, fun a u h n => ⟨(S.keep a u h n).1, fun z => by rw [upd_ne (ne_of_none h hp)]; exact (S.keep a u h n).2 z⟩, S.dom, S.own, S.lt, S.sk⟩
theorem laid_frz (R : Rel K e σ F H) (hp : H p = none) : Rel K e σ (upd F p o) (upd H p o) :=
  frz_rel (laid_own R hp) upd_same (fun z => by obtain ⟨_, u, q⟩ := R.owned z; rw [hp] at q; cases q) (sub_none R hp)
theorem laid_frz_step (R : Rel K e σ F H) (S : Step e1 e σ F1 H1 F H) (hp : H p = none) : Step e1 e σ F1 H1 (upd F p o) (upd H p o) := by
  have h1 : H1 p = none := by
    cases q : H1 p with
    | none => rfl
    | some u => obtain ⟨o', e'⟩ := S.dom _ _ q; rw [hp] at e'; cases e'
  exact frz_step (S.trans (laid_own_step hp)) h1 (sub_none R hp)
/-! ### readings -/
/-- what an outcome asks of what is wanted behind it; rel: how a value is told (the heap ahead, F, H behind) -/
def OutX {α β : Type} (K : PySem.W.Frag) (W : WX) (rel : Hp → Hp → Hp → β → α → Prop) (r : Out α) (e : En) (σ : Sg) (F H : Hp) (Q : β → Hp → Prop) : Prop := match r with
  | .ok r e' => ∀ x F' H', Rel K e' σ F' H' → Step e e' σ F H F' H' → rel H F' H' x r → Q x H'
  | .exc c t e' => ∀ F' H' cls d, Rel K e' σ F' H' → Step e e' σ F H F' H' → ExR K F' H' c t cls d → W cls d σ H'
  | .bad => False
/-- the reading of a meaning -/
def tX {α β : Type} (K : PySem.W.Frag) (W : WX) (rel : Sg → Hp → Hp → Hp → β → α → Prop) (m : En → Out α) (σ : Sg) (H : Hp) (Q : β → Hp → Prop) : Prop := ∃ e F, Rel K e σ F H ∧ OutX K W (rel σ) (m e) e σ F H Q
theorem tX_bind {α β γ δ : Type} {rel : Sg → Hp → Hp → Hp → β → α → Prop} {rel' : Hp → Hp → Hp → δ → γ → Prop} {m : En → Out α} {f : α → En → Out γ} {Q : δ → Hp → Prop} (R1 : Rel K e1 σ F1 H1) (S1 : Step e e1 σ F H F1 H1) (h : OutX K W rel' ((m e1).bind f) e σ F H Q) :
    tX K W rel m σ H1 (fun x H2 => ∃ r e2 F2, Rel K e2 σ F2 H2 ∧ Step e1 e2 σ F1 H1 F2 H2 ∧ rel σ H1 F2 H2 x r ∧ OutX K W rel' (f r e2) e σ F H Q) := by
  refine ⟨e1, F1, R1, ?_⟩
  cases q : m e1 with
  | ok r e' => rw [q] at h; exact fun x F' H' R' S' O => ⟨r, e', F', R', S', O, h⟩
  | exc c t e' => rw [q] at h; exact fun F' H' cls d R' S' X => h F' H' cls d R' (S1.trans S') X
  | bad => rw [q] at h; exact h
theorem OutX.imp {α β : Type} {rel : Hp → Hp → Hp → β → α → Prop} {r : Out α} {Q Q' : β → Hp → Prop} (h : OutX K W rel r e σ F H Q) (m : ∀ x H', Q x H' → Q' x H') : OutX K W rel r e σ F H Q' := by
  cases r with
  | ok r e' => exact fun x F' H' R S O => m _ _ (h x F' H' R S O)
  | exc c t e' => exact h
  | bad => exact h
theorem tX_imp {α β : Type} {rel : Sg → Hp → Hp → Hp → β → α → Prop} {m : En → Out α} {Q Q' : β → Hp → Prop} (h : tX K W rel m σ H Q) (k : ∀ x H', Q x H' → Q' x H') : tX K W rel m σ H Q' := by
  obtain ⟨e, F, R, h⟩ := h
  exact ⟨e, F, R, h.imp k⟩
/-- what is asked where an operation hands r back, the heap being H -/
def Fin (K : PySem.W.Frag) (F H : Hp) (Q : VK) : Od → Prop
  | .r w => (∀ v, Dp K F v w → Q v H) ∧ ∀ ts p xs, w = .tuple ts → H p = none → DpAll K F xs ts → Q (.ref p) (upd H p (.tup xs))
  | .b (.l ts) => ∀ p xs, H p = none → DpAll K F xs ts → Q (.ref p) (upd H p (.lst xs))
  | _ => False
theorem step_none (S : Step e e1 σ F H F1 H1) (h : H1 p = none) : H p = none := by
  cases q : H p with
  | none => rfl
  | some u => obtain ⟨o', e'⟩ := S.dom _ _ q; rw [h] at e'; cases e'
/-- w is what operations hand back -/
def Back : Od → Prop
  | .r _ => True
  | .b (.l _) => True
  | _ => False
theorem fin_of {r : Od} {Q : VK} (R : Rel K e1 σ F1 H1) (S : Step e e1 σ F H F1 H1) (go : OutX K W (OdR K σ) (.ok r e1) e σ F H Q) (hr : Back r) : Fin K F1 H1 Q r := by
  cases r with
  | r w =>
    refine ⟨fun v d => go v F1 H1 R S d, fun ts p xs ew hp d => ?_⟩
    subst ew
    refine go _ _ _ (laid_frz R hp) (laid_frz_step R S hp) (.tup (SqT.of upd_same) (dpAll_mono (fun a u q => ?_) d))
    rw [upd_ne (ne_of_none q (sub_none R hp))]; exact q
  | s i => exact hr.elim
  | b b =>
    cases b with
    | d _ => exact hr.elim
    | l ts => exact fun p xs hp d => go _ _ _ (laid_own R hp) (S.trans (laid_own_step hp)) ⟨p, rfl, step_none S hp, sub_none R hp, xs, upd_same, d⟩
end
theorem pe_mono {X : Cx} {ex : Expr} {t t' : TE} (h : PE X ex t) (m : ∀ σ H Q, t' σ H Q → t σ H Q) : PE X ex t' := ⟨fun pins s σ H Q I q => h.run pins s σ H Q I (m σ H Q q)⟩
theorem pt_mono {X : Cx} {ex : Expr} {t t' : TT} (h : PT X ex t) (m : ∀ σ H Q, t' σ H Q → t σ H Q) : PT X ex t' := ⟨fun pins s σ H Q I q => h.run pins s σ H Q I (m σ H Q q)⟩
theorem ps_mono {X : Cx} {ex : Stmt} {t t' : TS} (h : PS X ex t) (m : ∀ D σ H, t' D σ H → t D σ H) : PS X ex t' := ⟨fun pins s σ H D I q => h.run pins s σ H D I (m D σ H q)⟩
theorem pss_mono {X : Cx} {ex : List Stmt} {t t' : TS} (h : PSs X ex t) (m : ∀ D σ H, t' D σ H → t D σ H) : PSs X ex t' := ⟨fun pins s σ H D I q => h.run pins s σ H D I (m D σ H q)⟩
theorem pa_mono {X : Cx} {ex : List Expr} {t t' : TA} (h : PA X ex t) (m : ∀ σ H Q, t' σ H Q → t σ H Q) : PA X ex t' := ⟨fun pos pins s σ H Q I q => h.run pos pins s σ H Q I (m σ H Q q)⟩
abbrev tE (K : PySem.W.Frag) (W : WX) (m : SemE) : TE := tX K W (fun σ => OdR K σ) m
abbrev SemT := En → Out Bool
abbrev tT (K : PySem.W.Frag) (W : WX) (m : SemT) : TT := tX K W (fun _ _ _ _ (x : Bool) r => x = r) m
abbrev SemA := En → Out (List Od)
/-- the values of a list of things yielded; the new ones stand apart -/
inductive OdsR (K : PySem.W.Frag) (σ : Sg) (Hs F H : Hp) : List Od → List V → Prop
  | nil : OdsR K σ Hs F H [] []
  | cons {r : Od} {x : V} {rs : List Od} {xs : List V} : OdR K σ Hs F H x r → OdsR K σ Hs F H rs xs →
      (∀ (z : Bx) (p : Addr), r = .b z → x = .ref p → ∀ (j : Nat) (z' : Bx), rs[j]? = some (.b z') → xs[j]? ≠ some (.ref p)) → OdsR K σ Hs F H (r :: rs) (x :: xs)
abbrev tA (K : PySem.W.Frag) (W : WX) (m : SemA) : TA := tX K W (fun σ Hs F H xs rs => OdsR K σ Hs F H rs xs) m
abbrev QE (X : Cx) (W : WX) (ex : Expr) (m : SemE) : Prop := PE X ex (tE X.K W m)
abbrev QT (X : Cx) (W : WX) (ex : Expr) (m : SemT) : Prop := PT X ex (tT X.K W m)
abbrev QA (X : Cx) (W : WX) (ex : List Expr) (m : SemA) : Prop := PA X ex (tA X.K W m)

/-! ### names and constants -/
section
variable {X : Cx} {W : WX} {a b c : Expr} {ma mb mc : SemE} {pos : Pos}
def eVar (i : Nat) : SemE := fun e => match e[i]? with
  | some (.v t) => .ok (.r t) e
  | some (.fz b) => .ok (.r b.t) e
  | some (.ow _ _) => .ok (.s i) e
  | _ => .bad
theorem Rel.var {K : PySem.W.Frag} {e : En} {σ : Sg} {F H : Hp} (R : Rel K e σ F H) {i : Nat} {s : Sl} (h : e[i]? = some s) : ∃ o, σ[i]? = some o ∧ RS K F H s o := by
  have hi : i < σ.length := by rw [← R.len]; exact (List.getElem?_eq_some_iff.mp h).1
  exact ⟨_, List.getElem?_eq_getElem hi, R.at_ i s _ h (List.getElem?_eq_getElem hi)⟩
theorem qvar {i : Nat} {x : Str} (hN : X.N[i]? = some x) (hv : Vis X.env.scope x) (hd : (x == ("__debug__" : Str)) = false := by decide) (hcd : (x == ("__classdict__" : Str)) = false := by decide) : QE X W (.Name x pos) (eVar i) := by
  refine pe_mono (pe_var hN hv hd hcd) fun σ H Q h => ?_
  obtain ⟨e, F, R, h⟩ := h
  unfold eVar at h
  cases q : e[i]? with
  | none => rw [q] at h; exact h.elim
  | some s =>
    rw [q] at h
    obtain ⟨o, hs, z⟩ := R.var q
    cases s with
    | un => exact h.elim
    | v t => obtain ⟨y, rfl, d⟩ := z; exact ⟨y, hs, h y F H R .refl d⟩
    | fz b => obtain ⟨y, rfl, d⟩ := z; exact ⟨y, hs, h y F H R .refl d⟩
    | ow l b => obtain ⟨p, rfl, hf, x⟩ := z; exact ⟨_, hs, h _ F H R .refl hs⟩
def eK (t : T) : SemE := fun e => .ok (.r t) e
theorem qint {i j} : QE X W (.Constant (.int i) j pos) (eK (.int i)) := pe_mono pe_int fun σ H Q ⟨e, F, R, h⟩ => h _ F H R .refl (.int i)
theorem qbl {b j} : QE X W (.Constant (.bool b) j pos) (eK (.bool b)) := pe_mono pe_bl fun σ H Q ⟨e, F, R, h⟩ => h _ F H R .refl (.bl b)
theorem qnon {j} : QE X W (.Constant .none j pos) (eK .none) := pe_mono pe_non fun σ H Q ⟨e, F, R, h⟩ => h _ F H R .refl .non
theorem qstr {x j} : QE X W (.Constant (.str x) j pos) (eK (.str x)) := pe_mono pe_str fun σ H Q ⟨e, F, R, h⟩ => h _ F H R .refl (.str x)

/-! ### two operands -/
def eTwo {α : Type} (ma mb : SemE) (g : Od → Od → En → Out α) : En → Out α := fun e => (ma e).bind fun r e1 => (mb e1).bind fun r2 e2 => g r r2 e2
/-- the state behind two operands -/
def At2 {α β : Type} (K : PySem.W.Frag) (W : WX) (rel : Hp → Hp → Hp → β → α → Prop) (g : Od → Od → En → Out α) (σ : Sg) (x y : V) (H2 : Hp) (Q : β → Hp → Prop) : Prop :=
  ∃ e F H r r2 e2 F2, Rel K e σ F H ∧ Rel K e2 σ F2 H2 ∧ Step e e2 σ F H F2 H2 ∧ OdR K σ H F2 H2 x r ∧ OdR K σ H F2 H2 y r2 ∧ OutX K W rel (g r r2 e2) e σ F H Q
theorem two {α β : Type} {K : PySem.W.Frag} {rel : Sg → Hp → Hp → Hp → β → α → Prop} {g : Od → Od → En → Out α} {σ : Sg} {H : Hp} {Q : β → Hp → Prop} (h : tX K W rel (eTwo ma mb g) σ H Q) :
    tE K W ma σ H fun x H1 => tE K W mb σ H1 fun y H2 => At2 K W (rel σ) g σ x y H2 Q := by
  obtain ⟨e, F, R, h⟩ := h
  refine tX_imp (tX_bind R .refl h) fun x H1 ⟨r, e1, F1, R1, S1, O1, h1⟩ => ?_
  refine tX_imp (tX_bind R1 S1 h1) fun y H2 ⟨r2, e2, F2, R2, S2, O2, h2⟩ => ?_
  exact ⟨e, F, H, r, r2, e2, F2, R, R2, S1.trans S2, od_stay O1 (fun p hp => fresh_not_own R S1 hp) S2, od_back O2 S1, h2⟩
/-- the values of two operands -/
def v2 (g : T → T → Option Od) : Od → Od → En → Out Od := fun r r2 e => match r.val e, r2.val e with
  | some t, some u => (match g t u with
    | some w => .ok w e
    | none => .bad)
  | _, _ => .bad
/-- a rule of an operation on two values, met by g -/
def Does2 (K : PySem.W.Frag) (r : R2) (g : T → T → Option Od) : Prop :=
  ∀ x y t u w F H (Q : VK), (∀ a o, F a = some o → H a = some o) → DpO K F H x t → DpO K F H y u → g t u = some w → Back w ∧ (Fin K F H Q w → r x y H Q)
theorem does2 {K : PySem.W.Frag} {r : R2} {g : T → T → Option Od} (hr : Does2 K r g) {σ : Sg} {x y : V} {H : Hp} {Q : VK} (h : At2 K W (OdR K σ) (v2 g) σ x y H Q) : r x y H Q := by
  obtain ⟨e, F, H0, r1, r2, e2, F2, R, R2, S, O1, O2, go⟩ := h
  unfold v2 at go
  cases q1 : r1.val e2 with
  | none => rw [q1] at go; exact go.elim
  | some t =>
    cases q2 : r2.val e2 with
    | none => rw [q1, q2] at go; exact go.elim
    | some u =>
      rw [q1, q2] at go
      cases q3 : g t u with
      | none => simp only [q3] at go; exact go.elim
      | some w =>
        simp only [q3] at go
        obtain ⟨bk, z⟩ := hr x y t u w F2 H Q R2.sub (val_ok R2 O1 q1) (val_ok R2 O2 q2) q3
        exact z (fin_of R2 S go bk)
abbrev eOp2 (g : T → T → Option Od) (ma mb : SemE) : SemE := eTwo ma mb (v2 g)
theorem qop {f : Operator} {r : R2} {g : T → T → Option Od} (ho : OpR X (binaryOp f) r) (hr : Does2 X.K r g) (ha : QE X W a ma) (hb : QE X W b mb) : QE X W (.BinOp a f b pos) (eOp2 g ma mb) :=
  pe_mono (pe_op ho ha hb) fun σ H Q h => tX_imp (two h) fun x H1 h1 => tX_imp h1 fun y H2 h2 => does2 hr h2
theorem qcmp {f : CmpOp} {r : R2} {g : T → T → Option Od} (ho : OpR X (compareOp f) r) (hr : Does2 X.K r g) (ha : QE X W a ma) (hb : QE X W b mb) (hm : behindInMarks f b = false := by first | rfl | exact nomark _) : QE X W (.Compare a [f] [b] pos) (eOp2 g ma mb) :=
  pe_mono (pe_cmpR ho ha hb hm) fun σ H Q h => tX_imp (two h) fun x H1 h1 => tX_imp h1 fun y H2 h2 => does2 hr h2
end
end Ev

set_option Elab.async false
set_option linter.all false
set_option maxRecDepth 100000
namespace Ev
open PySem PySem.Spec PyProof.Rows L2
section
variable {X : Cx} {W : WX} {a b c : Expr} {ma mb mc : SemE} {pos : Pos}
/-! ### argument lists -/
def aNil : SemA := fun e => .ok [] e
def aCons (m : SemE) (r : SemA) : SemA := fun e => (m e).bind fun x e1 => (r e1).bind fun xs e2 => .ok (x :: xs) e2
theorem qa_nil : QA X W [] aNil := pa_mono pa_nil fun σ H Q ⟨e, F, R, h⟩ => h _ F H R .refl .nil
theorem ods_back {K : PySem.W.Frag} {σ : Sg} {e e1 : En} {F H F1 H1 F2 H2 : Hp} (S : Step e e1 σ F H F1 H1) : ∀ {rs xs}, OdsR K σ H1 F2 H2 rs xs → OdsR K σ H F2 H2 rs xs
  | _, _, .nil => .nil
  | _, _, .cons a b n => .cons (od_back a S) (ods_back S b) n
theorem ods_tmp {K : PySem.W.Frag} {σ : Sg} {Hs F H : Hp} : ∀ {rs : List Od} {xs : List V}, OdsR K σ Hs F H rs xs → ∀ (j : Nat) (z : Bx), rs[j]? = some (.b z) → ∃ p, xs[j]? = some (.ref p) ∧ Hs p = none ∧ F p = none ∧ BxAt K F H p z
  | _, _, .nil, j, z, h => by simp at h
  | _, _, .cons a b n, 0, z, h => by simp at h; subst h; obtain ⟨p, rfl, q⟩ := a; exact ⟨p, rfl, q⟩
  | _, _, .cons a b n, j + 1, z, h => by simpa using ods_tmp b j z (by simpa using h)
theorem qa_cons {es : List Expr} {mr : SemA} (ha : QE X W a ma) (hr : QA X W es mr) (hs : starEach (a :: es) X.env = (false, eval a X.env) :: starEach es X.env := by rfl) : QA X W (a :: es) (aCons ma mr) := by
  refine pa_mono (pa_cons ha hr hs) fun σ H Q h => ?_
  obtain ⟨e, F, R, h⟩ := h
  refine tX_imp (tX_bind R .refl h) fun x H1 ⟨r, e1, F1, R1, S1, O1, h1⟩ => ?_
  refine tX_imp (tX_bind (rel := fun σ Hs F H xs rs => OdsR X.K σ Hs F H rs xs) R1 S1 h1) fun xs H2 ⟨rs, e2, F2, R2, S2, O2, h2⟩ => ?_
  refine h2 _ F2 H2 R2 (S1.trans S2) (.cons (od_stay O1 (fun p hp => fresh_not_own R S1 hp) S2) (ods_back S1 O2) fun z p er ex j z' hj hx => ?_)
  subst er
  obtain ⟨p', ep, hn, hf, bx⟩ := O1
  rw [ex] at ep; cases ep
  obtain ⟨q, hq, hn2, _⟩ := ods_tmp O2 j z' hj
  rw [hx] at hq; cases hq
  obtain ⟨o, ho⟩ := bx_some bx
  rw [hn2] at ho; cases ho
def vals (e : En) : List Od → Option (List T)
  | [] => some []
  | r :: rs => match r.val e, vals e rs with
    | some t, some ts => some (t :: ts)
    | _, _ => none
abbrev DpOs (K : PySem.W.Frag) (F H : Hp) (ts : List T) (xs : List V) : Prop := Paired (fun t x => DpO K F H x t) ts xs
theorem vals_ok {K : PySem.W.Frag} {σ : Sg} {e : En} {F H Hs : Hp} (R : Rel K e σ F H) : ∀ {rs : List Od} {xs : List V} {ts : List T}, OdsR K σ Hs F H rs xs → vals e rs = some ts → DpOs K F H ts xs
  | _, _, _, .nil, h => by cases h; exact .nil
  | r :: rs, _, _, .cons a b n, h => by
    unfold vals at h
    cases q : r.val e with
    | none => rw [q] at h; cases h
    | some t =>
      cases q2 : vals e rs with
      | none => rw [q, q2] at h; cases h
      | some us => rw [q, q2] at h; cases h; exact .cons (val_ok R a q) (vals_ok R b q2)
/-- a built-in on values -/
def eFn (g : List T → Option Od) (ma : SemA) : SemE := fun e => (ma e).bind fun rs e1 => match vals e1 rs with
  | some ts => (match g ts with
    | some w => .ok w e1
    | none => .bad)
  | none => .bad
def DoesN (K : PySem.W.Frag) (r : List V → Hp → VK → Prop) (g : List T → Option Od) : Prop :=
  ∀ xs ts w F H (Q : VK), (∀ a o, F a = some o → H a = some o) → DpOs K F H ts xs → g ts = some w → Back w ∧ (Fin K F H Q w → r xs H Q)
theorem fn_read {K : PySem.W.Frag} {r : List V → Hp → VK → Prop} {g : List T → Option Od} {m : SemA} (hr : DoesN K r g) {σ : Sg} {H : Hp} {Q : VK} (h : tE K W (eFn g m) σ H Q) : tCB r (tA K W m) σ H Q := by
  obtain ⟨e, F, R, h⟩ := h
  refine tX_imp (tX_bind (rel := fun σ Hs F H xs rs => OdsR K σ Hs F H rs xs) R .refl h) fun xs H1 ⟨rs, e1, F1, R1, S1, O1, h1⟩ => ?_
  cases q : vals e1 rs with
  | none => simp only [q] at h1; exact h1.elim
  | some ts =>
    simp only [q] at h1
    cases q2 : g ts with
    | none => simp only [q2] at h1; exact h1.elim
    | some w =>
      simp only [q2] at h1
      obtain ⟨bk, z⟩ := hr xs ts w F1 H1 Q R1.sub (vals_ok R1 O1 q) q2
      exact z (fin_of R1 S1 h1 bk)
theorem qfnB {x : Str} {p : Pos} {es : List Expr} {id : String} {r : List V → Hp → VK → Prop} {g : List T → Option Od} {m : SemA} (hc : CallR X (.builtin id) r) (hr : DoesN X.K r g) (hg : Gl X x) (hm : X.mg x = none) (hv : bootBuiltins x = some (.builtin id)) (ha : QA X W (a :: es) m)
    (hn : x ≠ "__name__" := by decide) (hdb : (x == ("__debug__" : Str)) = false := by decide)
    (he : starEach (a :: es) X.env = (false, eval a X.env) :: starEach es X.env := by rfl) (hpl : (backTo pos (starEach es X.env)).any (·.1) = false := by rfl) : QE X W (.Call (.Name x p) (a :: es) [] pos) (eFn g m) :=
  pe_mono (pe_callB hc hg hm hv ha hn hdb he hpl) fun σ H Q h => fn_read hr h
theorem qfnT {x : Str} {p : Pos} {es : List Expr} {id : String} {r : List V → Hp → VK → Prop} {g : List T → Option Od} {m : SemA} (hc : CallR X (.type id) r) (hr : DoesN X.K r g) (hg : Gl X x) (hm : X.mg x = none) (hv : bootBuiltins x = some (.type id)) (ha : QA X W (a :: es) m)
    (hn : x ≠ "__name__" := by decide) (hdb : (x == ("__debug__" : Str)) = false := by decide)
    (he : starEach (a :: es) X.env = (false, eval a X.env) :: starEach es X.env := by rfl) (hpl : (backTo pos (starEach es X.env)).any (·.1) = false := by rfl) : QE X W (.Call (.Name x p) (a :: es) [] pos) (eFn g m) :=
  pe_mono (pe_callTy hc hg hm hv ha hn hdb he hpl) fun σ H Q h => fn_read hr h

/-! ### what a value becomes where it is kept in something else -/
def esc : Od → En → Option (T × En)
  | .r t, e => some (t, e)
  | .b z, e => match z.tr with
    | some t => some (t, e)
    | none => none
  | .s i, e => match e[i]? with
    | some (.v t) => some (t, e)
    | some (.fz z) => some (z.t, e)
    | some (.ow l z) => (match z.tr with
      | some t => some (t, e.set i (if l then .fz z else .v t))
      | none => none)
    | _ => none
/-- the state behind: x is a tree -/
structure Esc (K : PySem.W.Frag) (σ : Sg) (e0 : En) (F0 H0 : Hp) (x : V) (t : T) (e' : En) (F' H : Hp) : Prop where
  R : Rel K e' σ F' H
  S : Step e0 e' σ F0 H0 F' H
  d : Dp K F' x t
theorem tr_t {z : Bx} {t : T} (h : z.tr = some t) : z.t = t := by
  cases z with
  | l xs => cases h; rfl
  | d _ => cases h
theorem esc_own {K : PySem.W.Frag} {σ : Sg} {e : En} {F H : Hp} {i : Nat} {l : Bool} {z : Bx} {t : T} {x : V} (R : Rel K e σ F H) (h1 : e[i]? = some (.ow l z)) (h2 : σ[i]? = some (some x)) (hz : z.tr = some t) :
    ∃ F', Rel K (e.set i (if l then .fz z else .v t)) σ F' H ∧ Step e (e.set i (if l then .fz z else .v t)) σ F H F' H ∧ Dp K F' x t ∧ ∀ a, F' a = F a ∨ x = .ref a := by
  obtain ⟨p, ex, hf, bx⟩ := R.at_ i _ _ h1 h2
  cases ex
  cases z with
  | d _ => cases hz
  | l ts =>
    cases hz
    obtain ⟨xs, hx, d⟩ := bx
    have hi : i < e.length := (List.getElem?_eq_some_iff.mp h1).1
    have ff : ∀ a u, F a = some u → upd F p (.lst xs) a = some u := fun a u h => by rw [upd_ne (ne_of_none h hf)]; exact h
    have dx : Dp K (upd F p (.lst xs)) (.ref p) (.list ts) := .lst (SqL.of upd_same) (dpAll_mono ff d)
    have get : ∀ (j : Nat) (s : Sl), (e.set i (if l then .fz (.l ts) else .v (.list ts)))[j]? = some s → (j = i ∧ s = (if l then .fz (.l ts) else .v (.list ts))) ∨ (j ≠ i ∧ e[j]? = some s) := fun j s h => by
      by_cases q : i = j
      · subst q; rw [List.getElem?_set_self hi] at h; cases h; exact .inl ⟨rfl, rfl⟩
      · rw [List.getElem?_set_ne q] at h; exact .inr ⟨fun z => q z.symm, h⟩
    have notow : ∀ l' b', (if l then (Sl.fz (.l ts)) else .v (.list ts)) ≠ .ow l' b' := fun l' b' q => by cases l <;> cases q
    have own : ∀ a, Own (e.set i (if l then .fz (.l ts) else .v (.list ts))) σ a → Own e σ a := fun a ⟨j, l', b', g1, g2⟩ => by
      rcases get j _ g1 with ⟨_, q⟩ | ⟨_, q⟩
      · exact absurd q.symm (notow _ _)
      · exact ⟨j, l', b', q, g2⟩
    refine ⟨upd F p (.lst xs), ⟨fun a u h => ?_, by rw [List.length_set]; exact R.len, fun j s u g1 g2 => ?_, fun j k l1 b1 l2 b2 q g1 g2 g3 g4 => ?_⟩, ⟨ff, fun a u h n => ⟨h, fun z => ?_⟩, fun a u h => ⟨u, h⟩, own, fun j hj => ?_, fun j l' b' h => ?_⟩, dx, fun a => ?_⟩
    · by_cases q : a = p
      · subst q; rw [upd_same] at h; cases h; exact hx
      · rw [upd_ne q] at h; exact R.sub _ _ h
    · rcases get j s g1 with ⟨rfl, rfl⟩ | ⟨nj, q⟩
      · rw [h2] at g2; cases g2
        cases l with
        | true => exact ⟨_, rfl, dx⟩
        | false => exact ⟨_, rfl, dx⟩
      · have z := R.at_ j s u q g2
        cases s with
        | un => trivial
        | v t => obtain ⟨y, ey, d⟩ := z; exact ⟨y, ey, dp_mono ff _ _ d⟩
        | fz b => obtain ⟨y, ey, d⟩ := z; exact ⟨y, ey, dp_mono ff _ _ d⟩
        | ow l' b =>
          obtain ⟨p', ey, hf', bx'⟩ := z
          subst ey
          have np : p' ≠ p := fun z => by subst z; exact nj (R.ne j i l' b l (.l ts) p' q h1 g2 h2)
          exact ⟨p', rfl, by rw [upd_ne np]; exact hf', bx_keep bx' ff fun _ h => h⟩
    · rcases get j _ g1 with ⟨_, q'⟩ | ⟨_, g1'⟩
      · exact absurd q'.symm (notow _ _)
      · rcases get k _ g2 with ⟨_, q'⟩ | ⟨_, g2'⟩
        · exact absurd q'.symm (notow _ _)
        · exact R.ne j k l1 b1 l2 b2 q g1' g2' g3 g4
    · have np : a ≠ p := fun z => n ⟨i, l, .l ts, h1, by rw [h2, z]⟩
      rw [upd_ne np]; exact z
    · obtain ⟨b', q⟩ := hj
      by_cases qi : i = j
      · subst qi
        rw [h1] at q
        rcases q with q | q
        · cases q; exact ⟨.l ts, .inr (by rw [List.getElem?_set_self hi]; rfl)⟩
        · cases q
      · exact ⟨b', by rw [List.getElem?_set_ne qi]; exact q⟩
    · rcases get j _ h with ⟨_, q⟩ | ⟨_, q⟩
      · exact absurd q.symm (notow _ _)
      · exact ⟨b', q⟩
    · by_cases q : a = p
      · exact .inr (by rw [q])
      · exact .inl (upd_ne q)
theorem ods_grow {K : PySem.W.Frag} {σ : Sg} {Hs F F' H : Hp} (ff : ∀ a o, F a = some o → F' a = some o) : ∀ {rs : List Od} {xs : List V}, OdsR K σ Hs F H rs xs → (∀ (p : Addr) (j : Nat) (z : Bx), rs[j]? = some (.b z) → xs[j]? = some (.ref p) → Hs p = none → F' p = F p) → OdsR K σ Hs F' H rs xs
  | _, _, .nil, _ => .nil
  | _, _, .cons (r := r) a b n, k => by
    refine .cons ?_ (ods_grow ff b fun p j z h1 h2 => k p (j + 1) z (by simpa using h1) (by simpa using h2)) n
    cases r with
    | r t => exact dp_mono ff _ _ a
    | s i => exact a
    | b z =>
      obtain ⟨p, rfl, hn, hf, bx⟩ := a
      exact ⟨p, rfl, hn, by rw [k p 0 z rfl rfl hn]; exact hf, bx_keep bx ff fun _ h => h⟩
theorem esc_ok {K : PySem.W.Frag} {σ : Sg} {e0 e e' : En} {F0 H0 F H : Hp} {x : V} {r : Od} {t : T} (R0 : Rel K e0 σ F0 H0) (R : Rel K e σ F H) (S : Step e0 e σ F0 H0 F H) (O : OdR K σ H0 F H x r) (h : esc r e = some (t, e')) :
    ∃ F', Rel K e' σ F' H ∧ Step e0 e' σ F0 H0 F' H ∧ Dp K F' x t ∧ (∀ a o, F a = some o → F' a = some o) ∧ ∀ a, F' a = F a ∨ (x = .ref a ∧ ((∃ z, r = .b z) ∨ Own e σ a)) := by
  cases r with
  | r u => cases h; exact ⟨F, R, S, O, fun _ _ h => h, fun a => .inl rfl⟩
  | b z =>
    obtain ⟨p, rfl, hn, hf, bx⟩ := O
    simp only [esc] at h
    cases q : z.tr with
    | none => rw [q] at h; cases h
    | some u =>
      rw [q] at h; cases h
      cases z with
      | d _ => cases q
      | l ts =>
        cases q
        obtain ⟨xs, hx, d⟩ := bx
        have ff : ∀ a u, F a = some u → upd F p (.lst xs) a = some u := fun a u h => by rw [upd_ne (ne_of_none h hf)]; exact h
        refine ⟨upd F p (.lst xs), frz_rel R hx (fresh_not_own R0 S hn) hf, frz_step S hn hf, .lst (SqL.of upd_same) (dpAll_mono ff d), ff, fun a => ?_⟩
        by_cases q : a = p
        · subst q; exact .inr ⟨rfl, .inl ⟨_, rfl⟩⟩
        · exact .inl (upd_ne q)
  | s i =>
    have O : σ[i]? = some (some x) := O
    simp only [esc] at h
    cases q : e[i]? with
    | none => rw [q] at h; cases h
    | some s =>
      rw [q] at h
      have z := R.at_ i s _ q O
      cases s with
      | un => cases h
      | v u => cases h; obtain ⟨y, ey, d⟩ := z; cases ey; exact ⟨F, R, S, d, fun _ _ h => h, fun a => .inl rfl⟩
      | fz u => cases h; obtain ⟨y, ey, d⟩ := z; cases ey; exact ⟨F, R, S, d, fun _ _ h => h, fun a => .inl rfl⟩
      | ow l b =>
        cases q2 : b.tr with
        | none => simp only [q2] at h; cases h
        | some u =>
          simp only [q2] at h
          cases h
          obtain ⟨F', R', S', d', only⟩ := esc_own R q O q2
          exact ⟨F', R', S.trans S', d', S'.ff, fun a => (only a).imp id fun ea => ⟨ea, .inr ⟨i, l, b, q, by rw [O, ea]⟩⟩⟩
def escs : List Od → En → Option (List T × En)
  | [], e => some ([], e)
  | r :: rs, e => match esc r e with
    | some (t, e1) => (match escs rs e1 with
      | some (ts, e2) => some (t :: ts, e2)
      | none => none)
    | none => none
theorem escs_ok {K : PySem.W.Frag} {σ : Sg} {e0 : En} {F0 H0 H : Hp} (R0 : Rel K e0 σ F0 H0) : ∀ {rs : List Od} {xs : List V} {ts : List T} {e e' : En} {F : Hp}, Rel K e σ F H → Step e0 e σ F0 H0 F H → OdsR K σ H0 F H rs xs → escs rs e = some (ts, e') →
    ∃ F', Rel K e' σ F' H ∧ Step e0 e' σ F0 H0 F' H ∧ DpAll K F' xs ts ∧ ∀ a o, F a = some o → F' a = some o
  | [], _, _, _, _, F, R, S, .nil, h => by cases h; exact ⟨F, R, S, .nil, fun _ _ h => h⟩
  | r :: rs, _, _, e, _, F, R, S, .cons (x := x) (xs := xs) a b n, h => by
    unfold escs at h
    cases q : esc r e with
    | none => rw [q] at h; cases h
    | some te =>
      obtain ⟨t, e1⟩ := te
      simp only [q] at h
      cases q2 : escs rs e1 with
      | none => rw [q2] at h; cases h
      | some te2 =>
        obtain ⟨ts, e2⟩ := te2
        simp only [q2] at h
        cases h
        obtain ⟨F1, R1, S1, d1, ff1, only⟩ := esc_ok R0 R S a q
        have b1 : OdsR K σ H0 F1 H rs xs := ods_grow ff1 b fun p j z hj hx hn => by
          rcases only p with e | ⟨ex, e | e⟩
          · exact e
          · obtain ⟨z', e'⟩ := e
            exact absurd hx (n z' p e' ex j z hj)
          · exact absurd (S.own _ e) (fun w => by obtain ⟨_, o, q⟩ := R0.owned w; rw [hn] at q; cases q)
        obtain ⟨F2, R2, S2, d2, ff2⟩ := escs_ok R0 R1 S1 b1 q2
        exact ⟨F2, R2, S2, .cons (dp_mono ff2 _ _ d1) d2, fun a o h => ff2 _ _ (ff1 _ _ h)⟩
end
end Ev

set_option Elab.async false
set_option linter.all false
set_option maxRecDepth 100000
namespace Ev
open PySem PySem.Spec PyProof.Rows L2
section
variable {X : Cx} {W : WX} {a b c : Expr} {ma mb mc : SemE} {pos : Pos}
/-! ### displays -/
def eDisp (k : List T → Od) (m : SemA) : SemE := fun e => (m e).bind fun rs e1 => match escs rs e1 with
  | some (ts, e2) => if ts.length ≤ sizeLine then .ok (k ts) e2 else .bad
  | none => .bad
def eTup (m : SemA) : SemE := eDisp (fun ts => .r (.tuple ts)) m
def eLst (m : SemA) : SemE := eDisp (fun ts => .b (.l ts)) m
theorem qtup {es : List Expr} {k : Nat} {m : SemA} (h : QA X W es m) : QE X W (.Tuple es k pos) (eTup m) := by
  refine pe_mono (pe_tup h) fun σ H Q h => ?_
  obtain ⟨e, F, R, h⟩ := h
  refine tX_imp (tX_bind (rel := fun σ Hs F H xs rs => OdsR X.K σ Hs F H rs xs) R .refl h) fun xs H1 ⟨rs, e1, F1, R1, S1, O1, h1⟩ => ?_
  cases q : escs rs e1 with
  | none => simp only [q] at h1; exact h1.elim
  | some te =>
    obtain ⟨ts, e2⟩ := te
    simp only [q] at h1
    obtain ⟨F2, R2, S2, d2, _⟩ := escs_ok R R1 S1 O1 q
    by_cases hl : ts.length ≤ sizeLine
    · rw [if_pos hl] at h1
      refine ⟨by rw [dpAll_len d2]; exact hl, fun p hp => ?_⟩
      exact (fin_of R2 S2 h1 True.intro).2 ts p xs rfl hp d2
    · rw [if_neg hl] at h1; exact h1.elim
theorem qlst {es : List Expr} {m : SemA} (h : QA X W es m) : QE X W (.List es pos) (eLst m) := by
  refine pe_mono (pe_lst h) fun σ H Q h => ?_
  obtain ⟨e, F, R, h⟩ := h
  refine tX_imp (tX_bind (rel := fun σ Hs F H xs rs => OdsR X.K σ Hs F H rs xs) R .refl h) fun xs H1 ⟨rs, e1, F1, R1, S1, O1, h1⟩ => ?_
  cases q : escs rs e1 with
  | none => simp only [q] at h1; exact h1.elim
  | some te =>
    obtain ⟨ts, e2⟩ := te
    simp only [q] at h1
    obtain ⟨F2, R2, S2, d2, _⟩ := escs_ok R R1 S1 O1 q
    by_cases hl : ts.length ≤ sizeLine
    · rw [if_pos hl] at h1
      refine ⟨by rw [dpAll_len d2]; exact hl, fun p hp => ?_⟩
      exact (fin_of R2 S2 h1 True.intro : Fin X.K F2 H1 Q (.b (.l ts))) p xs hp d2
    · rw [if_neg hl] at h1; exact h1.elim

/-! ### a call of a def -/
abbrev FSem := List Sl → Out Od
/-- what a def is asked to do -/
def spF (K : PySem.W.Frag) (n : Nat) (m : FSem) : Sp := fun vs H Q E => vs.length = n ∧ tX K (fun cls d _ H' => E cls d H') (fun σ => OdR K σ) m (vs.map some) H Q
def toSl (e : En) : Od → Option Sl
  | .r t => some (.v t)
  | .b z => some (.ow true z)
  | .s i => match e[i]? with
    | some (.v t) => some (.v t)
    | some (.fz z) => some (.v z.t)
    | some (.ow _ z) => some (.ow true z)
    | _ => none
def toSls (e : En) : List Od → Option (List Sl)
  | [] => some []
  | r :: rs => match toSl e r, toSls e rs with
    | some s, some ss => some (s :: ss)
    | _, _ => none
def sIdx : List Od → List Nat
  | [] => []
  | .s i :: rs => i :: sIdx rs
  | _ :: rs => sIdx rs
def bk (l : Bool) : Sl → Sl
  | .ow _ z => .ow l z
  | .fz z => if l then .fz z else .v z.t
  | s => s
/-- what the callee did with what names hold -/
def wb : List Od → List Sl → En → En
  | .s i :: rs, s :: ss, e => wb rs ss (match e[i]? with
    | some (.ow l _) => e.set i (bk l s)
    | _ => e)
  | _ :: rs, _ :: ss, e => wb rs ss e
  | _, _, e => e
theorem wb_len : ∀ (rs : List Od) (ss : List Sl) (e : En), (wb rs ss e).length = e.length
  | [], _, _ => rfl
  | .s i :: rs, [], _ => rfl
  | .r _ :: rs, [], _ => rfl
  | .b _ :: rs, [], _ => rfl
  | .r _ :: rs, _ :: ss, e => wb_len rs ss e
  | .b _ :: rs, _ :: ss, e => wb_len rs ss e
  | .s i :: rs, s :: ss, e => by
    unfold wb
    rw [wb_len rs ss]
    split <;> simp
theorem wb_out {k : Nat} : ∀ (rs : List Od) (ss : List Sl) (e : En), (∀ l z, e[k]? = some (.ow l z) → Od.s k ∉ rs) → (wb rs ss e)[k]? = e[k]?
  | [], _, _, _ => rfl
  | .s i :: rs, [], _, _ => rfl
  | .r _ :: rs, [], _, _ => rfl
  | .b _ :: rs, [], _, _ => rfl
  | .r _ :: rs, _ :: ss, e, h => wb_out rs ss e fun l z q m => h l z q (List.mem_cons_of_mem _ m)
  | .b _ :: rs, _ :: ss, e, h => wb_out rs ss e fun l z q m => h l z q (List.mem_cons_of_mem _ m)
  | .s i :: rs, s :: ss, e, h => by
    unfold wb
    by_cases q : i = k
    · subst q
      have n : ∀ l z, e[i]? ≠ some (.ow l z) := fun l z q => h l z q List.mem_cons_self
      have e1 : (match e[i]? with
        | some (.ow l _) => e.set i (bk l s)
        | _ => e) = e := by
        cases w : e[i]? with
        | none => rfl
        | some y =>
          cases y with
          | ow l z => exact absurd w (n l z)
          | un => rfl
          | v _ => rfl
          | fz _ => rfl
      rw [e1]
      exact wb_out rs ss e fun l z q => absurd q (n l z)
    · have e1 : (match e[i]? with
        | some (.ow l _) => e.set i (bk l s)
        | _ => e)[k]? = e[k]? := by
        split
        · rw [List.getElem?_set_ne q]
        · rfl
      rw [wb_out rs ss _ fun l z w m => h l z (by rw [e1] at w; exact w) (List.mem_cons_of_mem _ m)]
      exact e1
theorem mem_sIdx {k : Nat} : ∀ {rs : List Od}, Od.s k ∈ rs → k ∈ sIdx rs
  | [], h => by cases h
  | .s i :: rs, h => by
    rcases List.mem_cons.mp h with h | h
    · cases h; exact List.mem_cons_self
    · exact List.mem_cons_of_mem _ (mem_sIdx h)
  | .r _ :: rs, h => by
    rcases List.mem_cons.mp h with h | h
    · cases h
    · exact mem_sIdx (rs := rs) h
  | .b _ :: rs, h => by
    rcases List.mem_cons.mp h with h | h
    · cases h
    · exact mem_sIdx (rs := rs) h
theorem wb_in {k : Nat} {l : Bool} {z : Bx} : ∀ {rs : List Od} {ss : List Sl} {e : En} {j : Nat} {s : Sl}, (sIdx rs).Nodup → rs[j]? = some (.s k) → ss[j]? = some s → e[k]? = some (.ow l z) → (wb rs ss e)[k]? = some (bk l s)
  | [], _, _, _, _, _, h, _, _ => by simp at h
  | _ :: _, [], _, _, _, _, _, h, _ => by simp at h
  | .s i :: rs, s' :: ss, e, 0, s, nd, h1, h2, h3 => by
    simp at h1 h2
    subst h1 h2
    unfold wb
    rw [h3]
    have hk : i < e.length := (List.getElem?_eq_some_iff.mp h3).1
    rw [wb_out]
    · exact List.getElem?_set_self hk
    · intro _ _ _ m
      exact (List.nodup_cons.mp nd).1 (mem_sIdx m)
  | .r _ :: rs, s' :: ss, e, 0, s, nd, h1, h2, h3 => by simp at h1
  | .b _ :: rs, s' :: ss, e, 0, s, nd, h1, h2, h3 => by simp at h1
  | .r _ :: rs, s' :: ss, e, j + 1, s, nd, h1, h2, h3 => wb_in (rs := rs) (j := j) nd (by simpa using h1) (by simpa using h2) h3
  | .b _ :: rs, s' :: ss, e, j + 1, s, nd, h1, h2, h3 => wb_in (rs := rs) (j := j) nd (by simpa using h1) (by simpa using h2) h3
  | .s i :: rs, s' :: ss, e, j + 1, s, nd, h1, h2, h3 => by
    unfold wb
    have hm : Od.s k ∈ rs := List.mem_of_getElem? (i := j) (by simpa using h1)
    have hik : i ≠ k := fun q => by subst q; exact (List.nodup_cons.mp nd).1 (mem_sIdx hm)
    refine wb_in (z := z) (rs := rs) (ss := ss) (j := j) (List.nodup_cons.mp nd).2 (by simpa using h1) (by simpa using h2) ?_
    split
    · rw [List.getElem?_set_ne hik]; exact h3
    · exact h3
/-- a call: what is handed over, what comes back -/
def eCallR (m : FSem) (rs : List Od) (e1 : En) : Out Od := match toSls e1 rs with
  | some ss => if (sIdx rs).Nodup then (match m ss with
    | .ok (.s _) _ => .bad
    | .ok r ss' => .ok r (wb rs ss' e1)
    | .exc c t ss' => .exc c t (wb rs ss' e1)
    | .bad => .bad) else .bad
  | none => .bad
def eCall (n : Nat) (m : FSem) (ma : SemA) : SemE := fun e => (ma e).bind fun rs e1 => if rs.length = n then eCallR m rs e1 else .bad
theorem toSls_get {e : En} : ∀ {rs : List Od} {ss : List Sl}, toSls e rs = some ss → rs.length = ss.length ∧ ∀ (j : Nat) (s : Sl), ss[j]? = some s → ∃ r, rs[j]? = some r ∧ toSl e r = some s
  | [], _, h => by cases h; exact ⟨rfl, fun j s h => by simp at h⟩
  | r :: rs, _, h => by
    unfold toSls at h
    cases q : toSl e r with
    | none => rw [q] at h; cases h
    | some s =>
      cases q2 : toSls e rs with
      | none => rw [q, q2] at h; cases h
      | some ss =>
        rw [q, q2] at h; cases h
        obtain ⟨l, g⟩ := toSls_get q2
        refine ⟨by simp [l], fun j s' hj => ?_⟩
        cases j with
        | zero => simp at hj; subst hj; exact ⟨r, rfl, q⟩
        | succ j => simpa using g j s' (by simpa using hj)
theorem ods_len {K : PySem.W.Frag} {σ : Sg} {Hs F H : Hp} : ∀ {rs : List Od} {xs : List V}, OdsR K σ Hs F H rs xs → rs.length = xs.length
  | _, _, .nil => rfl
  | _, _, .cons a b _ => by simp [ods_len b]
theorem ods_get {K : PySem.W.Frag} {σ : Sg} {Hs F H : Hp} : ∀ {rs : List Od} {xs : List V} {j : Nat} {r : Od}, OdsR K σ Hs F H rs xs → rs[j]? = some r → ∃ x, xs[j]? = some x ∧ OdR K σ Hs F H x r
  | _, _, _, _, .nil, h => by simp at h
  | _, _, 0, _, .cons a b _, h => by simp at h; subst h; exact ⟨_, rfl, a⟩
  | _, _, j + 1, _, .cons a b _, h => by simpa using ods_get b (by simpa using h)
theorem ods_ne {K : PySem.W.Frag} {σ : Sg} {Hs F H : Hp} {p : Addr} {z z' : Bx} : ∀ {rs : List Od} {xs : List V} {i j : Nat}, OdsR K σ Hs F H rs xs → rs[i]? = some (.b z) → rs[j]? = some (.b z') → xs[i]? = some (.ref p) → xs[j]? = some (.ref p) → i = j
  | _, _, _, _, .nil, h, _, _, _ => by simp at h
  | _, _, 0, 0, .cons a b n, _, _, _, _ => rfl
  | _, _, 0, j + 1, .cons a b n, h1, h2, h3, h4 => by
    simp at h1 h3
    exact absurd (by simpa using h4) (n z p h1 h3 j z' (by simpa using h2))
  | _, _, i + 1, 0, .cons a b n, h1, h2, h3, h4 => by
    simp at h2 h4
    exact absurd (by simpa using h3) (n z' p h2 h4 i z (by simpa using h1))
  | _, _, i + 1, j + 1, .cons a b n, h1, h2, h3, h4 => by rw [ods_ne (i := i) (j := j) b (by simpa using h1) (by simpa using h2) (by simpa using h3) (by simpa using h4)]
theorem s_inj {k : Nat} : ∀ {rs : List Od} {i j : Nat}, (sIdx rs).Nodup → rs[i]? = some (.s k) → rs[j]? = some (.s k) → i = j
  | [], _, _, _, h, _ => by simp at h
  | _ :: _, 0, 0, _, _, _ => rfl
  | .s m :: rs, 0, j + 1, nd, h1, h2 => by
    simp at h1; subst h1
    exact absurd (mem_sIdx (List.mem_of_getElem? (i := j) (by simpa using h2))) (List.nodup_cons.mp nd).1
  | .s m :: rs, i + 1, 0, nd, h1, h2 => by
    simp at h2; subst h2
    exact absurd (mem_sIdx (List.mem_of_getElem? (i := i) (by simpa using h1))) (List.nodup_cons.mp nd).1
  | .r _ :: rs, 0, j + 1, nd, h1, h2 => by simp at h1
  | .b _ :: rs, 0, j + 1, nd, h1, h2 => by simp at h1
  | .r _ :: rs, i + 1, 0, nd, h1, h2 => by simp at h2
  | .b _ :: rs, i + 1, 0, nd, h1, h2 => by simp at h2
  | .s m :: rs, i + 1, j + 1, nd, h1, h2 => by rw [s_inj (rs := rs) (i := i) (j := j) (List.nodup_cons.mp nd).2 (by simpa using h1) (by simpa using h2)]
  | .r _ :: rs, i + 1, j + 1, nd, h1, h2 => by rw [s_inj (rs := rs) (i := i) (j := j) nd (by simpa using h1) (by simpa using h2)]
  | .b _ :: rs, i + 1, j + 1, nd, h1, h2 => by rw [s_inj (rs := rs) (i := i) (j := j) nd (by simpa using h1) (by simpa using h2)]
theorem map_some_get {xs : List V} {j : Nat} {o : Option V} (h : (xs.map some)[j]? = some o) : ∃ x, o = some x ∧ xs[j]? = some x := by
  rw [List.getElem?_map] at h
  cases q : xs[j]? with
  | none => rw [q] at h; cases h
  | some x => rw [q] at h; cases h; exact ⟨x, rfl, rfl⟩
/-- what is handed over, as the callee sees it -/
theorem args_rel {K : PySem.W.Frag} {σ : Sg} {e0 e : En} {F0 H0 F H : Hp} {rs : List Od} {xs : List V} {ss : List Sl} (R0 : Rel K e0 σ F0 H0) (R : Rel K e σ F H) (S : Step e0 e σ F0 H0 F H) (O : OdsR K σ H0 F H rs xs) (hs : toSls e rs = some ss) (nd : (sIdx rs).Nodup) :
    Rel K ss (xs.map some) F H ∧ ∀ p, Own ss (xs.map some) p → Own e σ p ∨ H0 p = none := by
  obtain ⟨hl, g⟩ := toSls_get hs
  have cases_ow : ∀ (j : Nat) (l : Bool) (z : Bx) (p : Addr), ss[j]? = some (.ow l z) → (xs.map some)[j]? = some (some (.ref p)) → xs[j]? = some (.ref p) ∧ ((∃ z', rs[j]? = some (.b z') ∧ H0 p = none) ∨ ∃ i l' z', rs[j]? = some (.s i) ∧ e[i]? = some (.ow l' z') ∧ σ[i]? = some (some (.ref p))) := by
    intro j l z p h1 h2
    obtain ⟨r, hr, ht⟩ := g j _ h1
    obtain ⟨x, ex, hx⟩ := map_some_get h2
    cases ex
    refine ⟨hx, ?_⟩
    obtain ⟨x', hx', o⟩ := ods_get O hr
    rw [hx] at hx'; cases hx'
    cases r with
    | r t => cases ht
    | b z' =>
      obtain ⟨p', ep, hn, _⟩ := o
      cases ep
      exact .inl ⟨z', hr, hn⟩
    | s i =>
      simp only [toSl] at ht
      cases q : e[i]? with
      | none => rw [q] at ht; cases ht
      | some y =>
        rw [q] at ht
        cases y with
        | un => cases ht
        | v _ => cases ht
        | fz _ => cases ht
        | ow l' z' => exact .inr ⟨i, l', z', hr, q, o⟩
  refine ⟨⟨R.sub, by rw [List.length_map, ← hl, ods_len O], fun j s o h1 h2 => ?_, fun i j l b l' b' p h1 h2 h3 h4 => ?_⟩, fun p ⟨j, l, z, h1, h2⟩ => ?_⟩
  · obtain ⟨r, hr, ht⟩ := g j _ h1
    obtain ⟨x, ex, hx⟩ := map_some_get h2
    cases ex
    obtain ⟨x', hx', od⟩ := ods_get O hr
    rw [hx] at hx'; cases hx'
    cases r with
    | r t => cases ht; exact ⟨x, rfl, od⟩
    | b z =>
      cases ht
      obtain ⟨p, ep, _, hf, bx⟩ := od
      cases ep
      exact ⟨p, rfl, hf, bx⟩
    | s i =>
      simp only [toSl] at ht
      have od : σ[i]? = some (some x) := od
      cases q : e[i]? with
      | none => rw [q] at ht; cases ht
      | some y =>
        rw [q] at ht
        have z := R.at_ i y _ q od
        cases y with
        | un => cases ht
        | v _ => cases ht; exact z
        | fz _ => cases ht; exact z
        | ow l' z' => cases ht; exact z
  · obtain ⟨a1, c1⟩ := cases_ow i l b p h1 h3
    obtain ⟨a2, c2⟩ := cases_ow j l' b' p h2 h4
    rcases c1 with ⟨z1, r1, n1⟩ | ⟨i1, l1, z1, r1, e1, s1⟩
    · rcases c2 with ⟨z2, r2, n2⟩ | ⟨i2, l2, z2, r2, e2, s2⟩
      · exact ods_ne O r1 r2 a1 a2
      · exact absurd ⟨i2, l2, z2, e2, s2⟩ (fresh_not_own R0 S n1)
    · rcases c2 with ⟨z2, r2, n2⟩ | ⟨i2, l2, z2, r2, e2, s2⟩
      · exact absurd ⟨i1, l1, z1, e1, s1⟩ (fresh_not_own R0 S n2)
      · have q := R.ne i1 i2 _ _ _ _ p e1 e2 s1 s2
        subst q
        exact s_inj nd r1 r2
  · obtain ⟨a1, c1⟩ := cases_ow j l z p h1 h2
    rcases c1 with ⟨z1, r1, n1⟩ | ⟨i1, l1, z1, r1, e1, s1⟩
    · exact .inr n1
    · exact .inl ⟨i1, l1, z1, e1, s1⟩
/-- behind a call -/
theorem back_rel {K : PySem.W.Frag} {σ : Sg} {e0 e : En} {F0 H0 F H F' H' : Hp} {rs : List Od} {xs : List V} {ss ss' : List Sl} (R0 : Rel K e0 σ F0 H0) (R : Rel K e σ F H) (S : Step e0 e σ F0 H0 F H) (O : OdsR K σ H0 F H rs xs) (hs : toSls e rs = some ss) (nd : (sIdx rs).Nodup)
    (R' : Rel K ss' (xs.map some) F' H') (S' : Step ss ss' (xs.map some) F H F' H') : Rel K (wb rs ss' e) σ F' H' ∧ Step e0 (wb rs ss' e) σ F0 H0 F' H' := by
  obtain ⟨RA, ow⟩ := args_rel R0 R S O hs nd
  obtain ⟨hl, g⟩ := toSls_get hs
  have hl' : ss'.length = rs.length := by rw [R'.len, List.length_map, ods_len O]
  -- each name: as it was, or as the callee left it
  have at2 : ∀ (k : Nat) (s : Sl), (wb rs ss' e)[k]? = some s → (e[k]? = some s ∧ ∀ l z, s = Sl.ow l z → Od.s k ∉ rs) ∨ ∃ (j : Nat) (l : Bool) (z : Bx) (s' : Sl) (x : V), rs[j]? = some (Od.s k) ∧ ss'[j]? = some s' ∧ e[k]? = some (Sl.ow l z) ∧ s = bk l s' ∧ ss[j]? = some (Sl.ow true z) ∧ (∃ z', s' = Sl.ow true z' ∨ s' = Sl.fz z') ∧ xs[j]? = some x ∧ σ[k]? = some (some x) := by
    intro k s h
    by_cases c : ∃ l z, e[k]? = some (.ow l z) ∧ Od.s k ∈ rs
    · obtain ⟨l, z, c1, c2⟩ := c
      obtain ⟨j, hj⟩ := List.getElem?_of_mem c2
      have hjl : j < ss'.length := by rw [hl']; exact (List.getElem?_eq_some_iff.mp hj).1
      have hj2 : ss'[j]? = some ss'[j] := List.getElem?_eq_getElem hjl
      rw [wb_in nd hj hj2 c1] at h
      cases h
      have hss : ss[j]? = some (.ow true z) := by
        have hjl2 : j < ss.length := by rw [← hl]; exact (List.getElem?_eq_some_iff.mp hj).1
        obtain ⟨r, hr, ht⟩ := g j _ (List.getElem?_eq_getElem hjl2)
        rw [hj] at hr; cases hr
        simp only [toSl, c1] at ht
        cases ht'' : ss[j]
        all_goals rw [ht''] at ht
        all_goals cases ht
        rw [List.getElem?_eq_getElem hjl2, ht'']
      obtain ⟨b', hb⟩ := S'.lt j ⟨z, .inl hss⟩
      obtain ⟨x, hx, od⟩ := ods_get O hj
      refine .inr ⟨j, l, z, _, x, hj, hj2, c1, rfl, hss, ⟨b', ?_⟩, hx, od⟩
      rw [hj2] at hb
      rcases hb with hb | hb
      · exact .inl (Option.some.inj hb)
      · exact .inr (Option.some.inj hb)
    · rw [wb_out rs ss' e fun l z q m => c ⟨l, z, q, m⟩] at h
      exact .inl ⟨h, fun l z q m => c ⟨l, z, by rw [h, q], m⟩⟩
  have own2 : ∀ (k : Nat) (l : Bool) (b : Bx), (wb rs ss' e)[k]? = some (Sl.ow l b) → ∃ l' b', e[k]? = some (Sl.ow l' b') := fun k l b h => by
    rcases at2 k _ h with ⟨h, _⟩ | ⟨j, l1, z, s', x, _, _, h, _⟩
    · exact ⟨l, b, h⟩
    · exact ⟨l1, z, h⟩
  have own : ∀ p, Own (wb rs ss' e) σ p → Own e σ p := fun p ⟨k, l, b, h1, h2⟩ => by
    obtain ⟨l', b', h⟩ := own2 k l b h1
    exact ⟨k, l', b', h, h2⟩
  refine ⟨⟨R'.sub, by rw [wb_len]; exact R.len, fun k s o h1 h2 => ?_, fun i j l b l' b' p h1 h2 h3 h4 => ?_⟩, ⟨fun a o h => S'.ff _ _ (S.ff _ _ h), fun a o h n => ?_, fun a o h => ?_, fun p h => S.own _ (own p h), fun i hi => ?_, fun i l b h => ?_⟩⟩
  · rcases at2 k s h1 with ⟨h, no⟩ | ⟨j, l, z, s', x, hr, hs', he, es, hss, lent, hx, hσ⟩
    · have q := R.at_ k s o h h2
      cases s with
      | un => trivial
      | v t => obtain ⟨y, ey, d⟩ := q; exact ⟨y, ey, dp_mono S'.ff _ _ d⟩
      | fz b => obtain ⟨y, ey, d⟩ := q; exact ⟨y, ey, dp_mono S'.ff _ _ d⟩
      | ow l b =>
        obtain ⟨p, ep, hf, bx⟩ := q
        subst ep
        obtain ⟨u, hu⟩ := bx_some bx
        have na : ¬ Own ss (xs.map some) p := fun ⟨j, l1, z1, g1, g2⟩ => by
          obtain ⟨r, hr, ht⟩ := g j _ g1
          obtain ⟨x, ex, hx⟩ := map_some_get g2
          cases ex
          obtain ⟨x', hx', od⟩ := ods_get O hr
          rw [hx] at hx'; cases hx'
          cases r with
          | r t => cases ht
          | b z' =>
            obtain ⟨p', ep, hn, _⟩ := od
            cases ep
            exact fresh_not_own R0 S hn ⟨k, l, b, h, h2⟩
          | s i =>
            simp only [toSl] at ht
            cases q : e[i]? with
            | none => rw [q] at ht; cases ht
            | some y =>
              rw [q] at ht
              cases y with
              | un => cases ht
              | v _ => cases ht
              | fz _ => cases ht
              | ow l' z' =>
                have ik := R.ne i k _ _ _ _ p q h od h2
                subst ik
                exact no l b rfl (List.mem_of_getElem? hr)
        obtain ⟨k1, k2⟩ := S'.keep p u hu na
        exact ⟨p, rfl, k2 hf, bx_keep bx S'.ff fun o' h' => by rw [hu] at h'; cases h'; exact k1⟩
    · rw [hσ] at h2; cases h2
      have q := R'.at_ j s' (some x) hs' (by rw [List.getElem?_map, hx]; rfl)
      subst es
      obtain ⟨z', lent⟩ := lent
      rcases lent with e' | e'
      · subst e'; exact q
      · subst e'
        cases l with
        | true => exact q
        | false => exact q
  · obtain ⟨l1, b1, q1⟩ := own2 i _ _ h1
    obtain ⟨l2, b2, q2⟩ := own2 j _ _ h2
    exact R.ne i j _ _ _ _ p q1 q2 h3 h4
  · obtain ⟨k1, k2⟩ := S.keep a o h n
    have na : ¬ Own ss (xs.map some) a := fun z => by
      rcases ow a z with z | z
      · exact n (S.own _ z)
      · rw [h] at z; cases z
    obtain ⟨k3, k4⟩ := S'.keep a o k1 na
    exact ⟨k3, fun z => k4 (k2 z)⟩
  · obtain ⟨o1, h1⟩ := S.dom a o h
    exact S'.dom a o1 h1
  · obtain ⟨b, hb⟩ := S.lt i hi
    rcases hb with hb | hb
    · by_cases m : Od.s i ∈ rs
      · obtain ⟨j, hj⟩ := List.getElem?_of_mem m
        have hjl : j < ss'.length := by rw [hl']; exact (List.getElem?_eq_some_iff.mp hj).1
        have w := wb_in nd hj (List.getElem?_eq_getElem hjl) hb
        rcases at2 i _ w with ⟨h, no⟩ | ⟨j', l, z, s', x, hr, hs', he, es, hss, ⟨z', lent⟩, hx, hσ⟩
        · exact ⟨b, .inl (by rw [wb_in nd hj (List.getElem?_eq_getElem hjl) hb] at w ⊢; rw [← h, hb])⟩
        · rw [hb] at he; cases he
          rcases lent with e' | e'
          · subst e'; exact ⟨z', .inl (by rw [w, es]; rfl)⟩
          · subst e'; exact ⟨z', .inr (by rw [w, es]; rfl)⟩
      · exact ⟨b, .inl (by rw [wb_out rs ss' e fun _ _ _ m' => m m']; exact hb)⟩
    · exact ⟨b, .inr (by rw [wb_out rs ss' e fun l z q _ => by rw [hb] at q; cases q]; exact hb)⟩
  · rcases at2 i _ h with ⟨q, _⟩ | ⟨j, l1, z, s', x, _, _, q, es, _, ⟨z', lent⟩, _⟩
    · exact S.sk i l b q
    · rcases lent with e' | e'
      · subst e'; cases es; exact S.sk i l z q
      · subst e'
        cases l1 with
        | true => cases es
        | false => cases es
theorem call_read {n : Nat} {m : FSem} {ma : SemA} {K : PySem.W.Frag} {σ : Sg} {H : Hp} {Q : VK} (h : tE K W (eCall n m ma) σ H Q) : tA K W ma σ H fun vs H1 => spF K n m vs H1 Q (WE W σ) := by
  obtain ⟨e, F, R, h⟩ := h
  refine tX_imp (tX_bind (rel := fun σ Hs F H xs rs => OdsR K σ Hs F H rs xs) R .refl h) fun xs H1 ⟨rs, e1, F1, R1, S1, O1, h1⟩ => ?_
  by_cases hl : rs.length = n
  · rw [if_pos hl] at h1
    refine ⟨by rw [← ods_len O1]; exact hl, ?_⟩
    unfold eCallR at h1
    cases q : toSls e1 rs with
    | none => rw [q] at h1; exact h1.elim
    | some ss =>
      simp only [q] at h1
      by_cases nd : (sIdx rs).Nodup
      · rw [if_pos nd] at h1
        obtain ⟨RA, _⟩ := args_rel R R1 S1 O1 q nd
        refine ⟨ss, F1, RA, ?_⟩
        cases w : m ss with
        | bad => rw [w] at h1; exact h1
        | exc c t ss' =>
          rw [w] at h1
          exact fun F' H' cls d R' S' x => let ⟨a, b⟩ := back_rel R R1 S1 O1 q nd R' S'; h1 F' H' cls d a b x
        | ok r ss' =>
          rw [w] at h1
          intro x F' H' R' S' o
          obtain ⟨a, b⟩ := back_rel R R1 S1 O1 q nd R' S'
          cases r with
          | s i => exact h1.elim
          | r t => exact h1 x F' H' a b o
          | b z => obtain ⟨p, ep, hn, hf, bx⟩ := o; exact h1 x F' H' a b ⟨p, ep, step_none S1 hn, hf, bx⟩
      · rw [if_neg nd] at h1; exact h1.elim
  · rw [if_neg hl] at h1; exact h1.elim
theorem qcall {CX : CXT} {k : Nat} {f : Addr} {fd : FuncData} {ps : List Str} {m : FSem} {ma : SemA} {x : Str} {p : Pos} {es : List Expr} {n : Nat} (Fn : FnOk X.prog X.w X.K X.mg X.base CX k f fd ps (spF X.K n m)) (hr : Room k X.A) (hg : Gl X x) (hm : X.mg x = some (.ref f)) (hk : PySem.W.keepIn X.K (.ref f) = true)
    (hb : Binds X.K fd ps []) (hx : ∀ σ, PassesAt CX X σ (WE W σ)) (ha : QA X W (a :: es) ma) (hdb : (x == ("__debug__" : Str)) = false := by decide) (he : starEach (a :: es) X.env = (false, eval a X.env) :: starEach es X.env := by rfl)
    (hpl : (backTo pos (starEach es X.env)).any (·.1) = false := by rfl) : QE X W (.Call (.Name x p) (a :: es) [] pos) (eCall n m ma) :=
  pe_mono (pe_callS (E := fun σ => WE W σ) Fn hr hg hm hk hb hx ha hdb he hpl) fun σ H Q h => call_read h
end
end Ev

set_option Elab.async false
set_option linter.all false
set_option maxRecDepth 100000
namespace Ev
open PySem PySem.Spec PyProof.Rows L2
/-- the entry of the def whose body runs -/
structure Bd where
  e : En
  σ : Sg
  F : Hp
  H : Hp
structure BOk (B : Bd) (e : En) (σ : Sg) (F H : Hp) : Prop where
  ff : ∀ a o, B.F a = some o → F a = some o
  keep : ∀ a o, B.H a = some o → ¬ Own B.e B.σ a → H a = some o ∧ (B.F a = none → F a = none)
  dom : ∀ a o, B.H a = some o → ∃ o', H a = some o'
  fresh : ∀ (i : Nat) (b : Bx) (p : Addr), e[i]? = some (Sl.ow false b) → σ[i]? = some (some (V.ref p)) → B.H p = none
  own : ∀ (i : Nat) (b : Bx), e[i]? = some (Sl.ow true b) → σ[i]? = B.σ[i]? ∧ ∃ b', B.e[i]? = some (Sl.ow true b')
  lent : ∀ (i : Nat) (b : Bx), B.e[i]? = some (Sl.ow true b) → Lent e i ∧ σ[i]? = B.σ[i]?
section
variable {K : PySem.W.Frag} {W : WX} {B : Bd} {e e1 e2 : En} {σ σ1 : Sg} {F H F1 H1 F2 H2 : Hp}
theorem BOk.own' (k : BOk B e σ F H) {p : Addr} (h : Own e σ p) : Own B.e B.σ p ∨ B.H p = none := by
  obtain ⟨i, l, b, h1, h2⟩ := h
  cases l with
  | true => obtain ⟨q, b', q2⟩ := k.own i b h1; exact .inl ⟨i, true, b', q2, by rw [← q]; exact h2⟩
  | false => exact .inr (k.fresh i b p h1 h2)
theorem BOk.step (k : BOk B e σ F H) (S : Step e e1 σ F H F1 H1) : BOk B e1 σ F1 H1 where
  ff := fun a o h => S.ff _ _ (k.ff _ _ h)
  keep := fun a o h n => by
    obtain ⟨h1, h2⟩ := k.keep a o h n
    obtain ⟨h3, h4⟩ := S.keep a o h1 fun z => by
      rcases k.own' z with z | z
      · exact n z
      · rw [h] at z; cases z
    exact ⟨h3, fun z => h4 (h2 z)⟩
  dom := fun a o h => by
    obtain ⟨o1, h1⟩ := k.dom a o h
    exact S.dom a o1 h1
  fresh := fun i b p h1 h2 => by
    obtain ⟨b', q⟩ := S.sk i _ _ h1
    exact k.fresh i b' p q h2
  own := fun i b h1 => by
    obtain ⟨b', q⟩ := S.sk i _ _ h1
    exact k.own i b' q
  lent := fun i b h => ⟨S.lt i (k.lent i b h).1, (k.lent i b h).2⟩

/-! ### statements -/
inductive Fl where
  | nx
  | rt (r : Od)
  | bk
  | ct
abbrev SemS := En → Out Fl
def OutS (K : PySem.W.Frag) (W : WX) (B : Bd) (o : Out Fl) (D : Ends) : Prop := match o with
  | .ok .nx e' => ∀ σ' F' H', Rel K e' σ' F' H' → BOk B e' σ' F' H' → D.nx σ' H'
  | .ok .bk e' => ∀ σ' F' H', Rel K e' σ' F' H' → BOk B e' σ' F' H' → D.bk σ' H'
  | .ok .ct e' => ∀ σ' F' H', Rel K e' σ' F' H' → BOk B e' σ' F' H' → D.ct σ' H'
  | .ok (.rt r) e' => ∀ x σ' F' H', Rel K e' σ' F' H' → BOk B e' σ' F' H' → OdR K [] B.H F' H' x r → D.rt x H'
  | .exc c t e' => ∀ σ' F' H' cls d, Rel K e' σ' F' H' → BOk B e' σ' F' H' → ExR K F' H' c t cls d → W cls d σ' H'
  | .bad => False
def tS (K : PySem.W.Frag) (W : WX) (B : Bd) (m : SemS) : TS := fun D σ H => ∃ e F, Rel K e σ F H ∧ BOk B e σ F H ∧ OutS K W B (m e) D
theorem tS_bind {α β : Type} {rel : Sg → Hp → Hp → Hp → β → α → Prop} {m : En → Out α} {f : α → En → Out Fl} {D : Ends} (R : Rel K e σ F H) (k : BOk B e σ F H) (h : OutS K W B ((m e).bind f) D) :
    tX K W rel m σ H (fun x H1 => ∃ r e1 F1, Rel K e1 σ F1 H1 ∧ Step e e1 σ F H F1 H1 ∧ BOk B e1 σ F1 H1 ∧ rel σ H F1 H1 x r ∧ OutS K W B (f r e1) D) := by
  refine ⟨e, F, R, ?_⟩
  cases q : m e with
  | ok r e' => rw [q] at h; exact fun x F' H' R' S' O => ⟨r, e', F', R', S', k.step S', O, h⟩
  | exc c t e' => rw [q] at h; exact fun F' H' cls d R' S' X => h σ F' H' cls d R' (k.step S') X
  | bad => rw [q] at h; exact h
abbrev QS (X : Cx) (W : WX) (B : Bd) (st : Stmt) (m : SemS) : Prop := PS X st (tS X.K W B m)
abbrev QSs (X : Cx) (W : WX) (B : Bd) (st : List Stmt) (m : SemS) : Prop := PSs X st (tS X.K W B m)
def isLent (e : En) (i : Nat) : Bool := match e[i]? with
  | some (.ow true _) => true
  | some (.fz _) => true
  | _ => false
theorem isLent_no {i : Nat} (h : isLent e i = false) : ¬ Lent e i := fun ⟨b, q⟩ => by
  rcases q with q | q <;> simp [isLent, q] at h
theorem set_v {i : Nat} {x : V} {t : T} (R : Rel K e σ F H) (k : BOk B e σ F H) (d : Dp K F x t) (n : ¬ Lent e i) : Rel K (e.set i (.v t)) (σ.set i (some x)) F H ∧ BOk B (e.set i (.v t)) (σ.set i (some x)) F H := by
  have get : ∀ (j : Nat) (s : Sl), (e.set i (.v t))[j]? = some s → (j = i ∧ s = .v t ∧ i < e.length) ∨ (i ≠ j ∧ e[j]? = some s) := fun j s h => by
    by_cases q : i = j
    · subst q
      have hi : i < e.length := by have := (List.getElem?_eq_some_iff.mp h).1; simpa using this
      rw [List.getElem?_set_self hi] at h; cases h; exact .inl ⟨rfl, rfl, hi⟩
    · rw [List.getElem?_set_ne q] at h; exact .inr ⟨q, h⟩
  have sg : ∀ (j : Nat), i ≠ j → (σ.set i (some x))[j]? = σ[j]? := fun j q => List.getElem?_set_ne q
  refine ⟨⟨R.sub, by simp [R.len], fun j s o h1 h2 => ?_, fun j j' l b l' b' p h1 h2 h3 h4 => ?_⟩, ⟨k.ff, k.keep, k.dom, fun j b p h1 h2 => ?_, fun j b h1 => ?_, fun j b h => ?_⟩⟩
  · rcases get j s h1 with ⟨rfl, rfl, hi⟩ | ⟨q, h⟩
    · rw [List.getElem?_set_self (by rw [← R.len]; exact hi)] at h2; cases h2; exact ⟨x, rfl, d⟩
    · rw [sg j q] at h2; exact R.at_ j s o h h2
  · rcases get j _ h1 with ⟨_, z, _⟩ | ⟨q, g1⟩
    · cases z
    · rcases get j' _ h2 with ⟨_, z, _⟩ | ⟨q', g2⟩
      · cases z
      · rw [sg j q] at h3; rw [sg j' q'] at h4; exact R.ne j j' l b l' b' p g1 g2 h3 h4
  · rcases get j _ h1 with ⟨_, z, _⟩ | ⟨q, g1⟩
    · cases z
    · rw [sg j q] at h2; exact k.fresh j b p g1 h2
  · rcases get j _ h1 with ⟨_, z, _⟩ | ⟨q, g1⟩
    · cases z
    · rw [sg j q]; exact k.own j b g1
  · obtain ⟨l, q⟩ := k.lent j b h
    have ne : i ≠ j := fun z => n (by rw [z]; exact l)
    refine ⟨?_, by rw [sg j ne]; exact q⟩
    obtain ⟨b', l⟩ := l
    exact ⟨b', by rw [List.getElem?_set_ne ne]; exact l⟩
theorem set_b {i : Nat} {p : Addr} {z : Bx} (R : Rel K e σ F H) (k : BOk B e σ F H) (hf : F p = none) (bx : BxAt K F H p z) (hB : B.H p = none) (no : ¬ Own e σ p) (n : ¬ Lent e i) : Rel K (e.set i (.ow false z)) (σ.set i (some (.ref p))) F H ∧ BOk B (e.set i (.ow false z)) (σ.set i (some (.ref p))) F H := by
  have get : ∀ (j : Nat) (s : Sl), (e.set i (.ow false z))[j]? = some s → (j = i ∧ s = .ow false z ∧ i < e.length) ∨ (i ≠ j ∧ e[j]? = some s) := fun j s h => by
    by_cases q : i = j
    · subst q
      have hi : i < e.length := by have := (List.getElem?_eq_some_iff.mp h).1; simpa using this
      rw [List.getElem?_set_self hi] at h; cases h; exact .inl ⟨rfl, rfl, hi⟩
    · rw [List.getElem?_set_ne q] at h; exact .inr ⟨q, h⟩
  have sg : ∀ (j : Nat), i ≠ j → (σ.set i (some (V.ref p)))[j]? = σ[j]? := fun j q => List.getElem?_set_ne q
  have si : i < e.length → (σ.set i (some (V.ref p)))[i]? = some (some (V.ref p)) := fun h => List.getElem?_set_self (by rw [← R.len]; exact h)
  refine ⟨⟨R.sub, by simp [R.len], fun j s o h1 h2 => ?_, fun j j' l b l' b' p' h1 h2 h3 h4 => ?_⟩, ⟨k.ff, k.keep, k.dom, fun j b p' h1 h2 => ?_, fun j b h1 => ?_, fun j b h => ?_⟩⟩
  · rcases get j s h1 with ⟨rfl, rfl, hi⟩ | ⟨q, h⟩
    · rw [si hi] at h2; cases h2; exact ⟨p, rfl, hf, bx⟩
    · rw [sg j q] at h2; exact R.at_ j s o h h2
  · rcases get j _ h1 with ⟨e1, _, hi⟩ | ⟨q, g1⟩
    · rcases get j' _ h2 with ⟨e2, _, _⟩ | ⟨q', g2⟩
      · rw [e1, e2]
      · subst e1
        rw [si hi] at h3; cases h3
        rw [sg j' q'] at h4
        exact absurd ⟨j', l', b', g2, h4⟩ no
    · rcases get j' _ h2 with ⟨e2, _, hi⟩ | ⟨q', g2⟩
      · subst e2
        rw [si hi] at h4; cases h4
        rw [sg j q] at h3
        exact absurd ⟨j, l, b, g1, h3⟩ no
      · rw [sg j q] at h3; rw [sg j' q'] at h4; exact R.ne j j' l b l' b' p' g1 g2 h3 h4
  · rcases get j _ h1 with ⟨e1, _, hi⟩ | ⟨q, g1⟩
    · subst e1; rw [si hi] at h2; cases h2; exact hB
    · rw [sg j q] at h2; exact k.fresh j b p' g1 h2
  · rcases get j _ h1 with ⟨_, z, _⟩ | ⟨q, g1⟩
    · cases z
    · rw [sg j q]; exact k.own j b g1
  · obtain ⟨l, q⟩ := k.lent j b h
    have ne : i ≠ j := fun z => n (by rw [z]; exact l)
    refine ⟨?_, by rw [sg j ne]; exact q⟩
    obtain ⟨b', l⟩ := l
    exact ⟨b', by rw [List.getElem?_set_ne ne]; exact l⟩
/-- name = value -/
def setO (i : Nat) (r : Od) (e : En) : Out Fl := if isLent e i then .bad else match r with
  | .b z => .ok .nx (e.set i (.ow false z))
  | r => match esc r e with
    | some (t, e') => .ok .nx (e'.set i (.v t))
    | none => .bad
theorem esc_lent {r : Od} {t : T} {i : Nat} (h : esc r e = some (t, e1)) (n : ¬ Lent e i) : ¬ Lent e1 i := by
  cases r with
  | r u => cases h; exact n
  | b z =>
    simp only [esc] at h
    split at h
    · cases h; exact n
    · cases h
  | s j =>
    simp only [esc] at h
    cases q : e[j]? with
    | none => rw [q] at h; cases h
    | some s =>
      rw [q] at h
      cases s with
      | un => cases h
      | v u => cases h; exact n
      | fz u => cases h; exact n
      | ow l b =>
        simp only at h
        split at h
        · cases h
          rintro ⟨b', w⟩
          by_cases ij : j = i
          · subst ij
            have hj : j < e.length := (List.getElem?_eq_some_iff.mp q).1
            rw [List.getElem?_set_self hj] at w
            cases l with
            | true => exact n ⟨b, .inl q⟩
            | false => rcases w with w | w <;> cases w
          · rw [List.getElem?_set_ne ij] at w
            exact n ⟨b', w⟩
        · cases h
theorem set_ok {i : Nat} {r : Od} {x : V} {D : Ends} {e0 : En} {F0 H0 : Hp} (R0 : Rel K e0 σ F0 H0) (k0 : BOk B e0 σ F0 H0) (R : Rel K e σ F H) (S : Step e0 e σ F0 H0 F H) (O : OdR K σ H0 F H x r) (h : OutS K W B (setO i r e) D) : D.nx (σ.set i (some x)) H := by
  unfold setO at h
  cases l : isLent e i with
  | true => rw [l] at h; exact h.elim
  | false =>
    rw [l, if_neg (by decide)] at h
    have n := isLent_no l
    have tree : ∀ t e', esc r e = some (t, e') → OutS K W B (.ok .nx (e'.set i (.v t))) D → D.nx (σ.set i (some x)) H := fun t e' q h => by
      obtain ⟨F', R', S', d, _⟩ := esc_ok R0 R S O q
      obtain ⟨a, b⟩ := set_v R' (k0.step S') d (esc_lent q n)
      exact h _ _ _ a b
    cases r with
    | b z =>
      obtain ⟨p, rfl, hn, hf, bx⟩ := O
      have hB : B.H p = none := by
        cases q : B.H p with
        | none => rfl
        | some o => obtain ⟨o', e'⟩ := k0.dom _ _ q; rw [hn] at e'; cases e'
      obtain ⟨a, b⟩ := set_b R (k0.step S) hf bx hB (fresh_not_own R0 S hn) n
      exact h _ _ _ a b
    | r t =>
      cases q : esc (.r t) e with
      | none => simp only [q] at h; exact h.elim
      | some te => obtain ⟨t', e'⟩ := te; simp only [q] at h; exact tree t' e' q h
    | s j =>
      cases q : esc (.s j) e with
      | none => simp only [q] at h; exact h.elim
      | some te => obtain ⟨t', e'⟩ := te; simp only [q] at h; exact tree t' e' q h
end
section
variable {X : Cx} {W : WX} {B : Bd} {a b c : Expr} {ma mb mc : SemE} {pos : Pos} {st : Stmt} {sts : List Stmt} {m1 m2 : SemS}
def sSet (i : Nat) (m : SemE) : SemS := fun e => (m e).bind fun r e1 => setO i r e1
theorem asg_read {i : Nat} {m : SemE} {K : PySem.W.Frag} {D : Ends} {σ : Sg} {H : Hp} (h : tS K W B (sSet i m) D σ H) : tAsg (tE K W m) (gName i) D σ H := by
  obtain ⟨e, F, R, k, h⟩ := h
  exact tX_imp (tS_bind (rel := fun σ => OdR K σ) R k h) fun x H1 ⟨r, e1, F1, R1, S1, k1, O, h1⟩ => set_ok R k R1 S1 O h1
theorem qset {i : Nat} {x : Str} {pos' : Pos} (hN : X.N.Nodup) (hi : X.N[i]? = some x) (hx : Loc X.env.scope x) (he : QE X W a ma) (hs : swapsWith a (some (.Name x pos')) pos.line X.env = pure false := by rfl)
    (hf : X.fn x = true ∨ X.env.scope.names.lookup x = some .local := by first | exact .inl rfl | exact .inr rfl | assumption) : QS X W B (.Assign [.Name x pos'] a pos) (sSet i ma) :=
  ps_mono (ps_set hN hi hx he hs hf) fun D σ H h => asg_read h
def sDrop (m : SemE) : SemS := fun e => (m e).bind fun _ e1 => .ok .nx e1
theorem qexpr (he : QE X W a ma) (hs : swapsWith a none pos.line X.env = pure false := by rfl) : QS X W B (.Expr a pos) (sDrop ma) := by
  refine ps_mono (ps_expr he hs) fun D σ H h => ?_
  obtain ⟨e, F, R, k, h⟩ := h
  exact tX_imp (tS_bind (rel := fun σ => OdR X.K σ) R k h) fun x H1 ⟨r, e1, F1, R1, S1, k1, O, h1⟩ => h1 _ _ _ R1 k1
def sNil : SemS := fun e => .ok .nx e
theorem qnil : QSs X W B [] sNil := pss_mono pss_nil fun D σ H ⟨e, F, R, k, h⟩ => h _ _ _ R k
theorem qpass : QS X W B (.Pass pos) sNil := ps_mono ps_pass fun D σ H ⟨e, F, R, k, h⟩ => h _ _ _ R k
theorem qdoc {x j pos pos'} : QS X W B (.Expr (.Constant (.str x) j pos) pos') sNil := ps_mono ps_doc fun D σ H ⟨e, F, R, k, h⟩ => h _ _ _ R k
def sBrk : SemS := fun e => .ok .bk e
def sCnt : SemS := fun e => .ok .ct e
theorem qbreak : QS X W B (.Break pos) sBrk := ps_mono ps_break fun D σ H ⟨e, F, R, k, h⟩ => h _ _ _ R k
theorem qcontinue : QS X W B (.Continue pos) sCnt := ps_mono ps_continue fun D σ H ⟨e, F, R, k, h⟩ => h _ _ _ R k
def sNever : SemS := fun _ => .bad
theorem qnever : QS X W B st sNever := ps_mono ps_never fun D σ H ⟨e, F, R, k, h⟩ => h.elim
theorem qnevers : QSs X W B sts sNever := pss_mono pss_never fun D σ H ⟨e, F, R, k, h⟩ => h.elim
def sSeq (m1 m2 : SemS) : SemS := fun e => match m1 e with
  | .ok .nx e1 => m2 e1
  | o => o
theorem qcons (h1 : QS X W B st m1) (h2 : QSs X W B sts m2) : QSs X W B (st :: sts) (sSeq m1 m2) := by
  refine pss_mono (pss_cons h1 h2) fun D σ H h => ?_
  obtain ⟨e, F, R, k, h⟩ := h
  refine ⟨e, F, R, k, ?_⟩
  unfold sSeq at h
  cases q : m1 e with
  | bad => rw [q] at h; exact h
  | exc c t e' => rw [q] at h; exact h
  | ok f e' =>
    rw [q] at h
    cases f with
    | nx => exact fun σ' F' H' R' k' => ⟨e', F', R', k', h⟩
    | rt r => exact h
    | bk => exact h
    | ct => exact h
theorem qone (h1 : QS X W B st m1) : QSs X W B [st] m1 := pss_one h1
def sIf (c : SemT) (m1 m2 : SemS) : SemS := fun e => (c e).bind fun k e1 => if k then m1 e1 else m2 e1
theorem qif {mt : SemT} {s1 s2 : List Stmt} (hc : QT X W c mt) (h1 : QSs X W B s1 m1) (h2 : QSs X W B s2 m2) : QS X W B (.If c s1 s2 pos) (sIf mt m1 m2) := by
  refine ps_mono (ps_if hc h1 h2) fun D σ H h => ?_
  obtain ⟨e, F, R, k, h⟩ := h
  refine tX_imp (tS_bind (rel := fun _ _ _ _ (x : Bool) r => x = r) R k h) fun x H1 ⟨r, e1, F1, R1, S1, k1, O, h1⟩ => ?_
  subst O
  cases x with
  | true => exact ⟨e1, F1, R1, k1, h1⟩
  | false => exact ⟨e1, F1, R1, k1, h1⟩
/-- return: what a name alone holds goes with it -/
def retO (r : Od) (e : En) : Out Fl := match r with
  | .r t => .ok (.rt (.r t)) e
  | .b z => .ok (.rt (.b z)) e
  | .s i => match e[i]? with
    | some (.ow false z) => .ok (.rt (.b z)) (e.set i .un)
    | _ => (match esc (.s i) e with
      | some (t, e') => .ok (.rt (.r t)) e'
      | none => .bad)
def sRet (m : SemE) : SemS := fun e => (m e).bind fun r e1 => retO r e1
end
end Ev

set_option Elab.async false
set_option linter.all false
set_option maxRecDepth 100000
namespace Ev
open PySem PySem.Spec PyProof.Rows L2
section
variable {K : PySem.W.Frag} {W : WX} {B : Bd} {e e1 e2 : En} {σ σ1 : Sg} {F H F1 H1 F2 H2 : Hp}
theorem set_un {i : Nat} (R : Rel K e σ F H) (k : BOk B e σ F H) (n : ¬ Lent e i) : Rel K (e.set i .un) σ F H ∧ BOk B (e.set i .un) σ F H := by
  have get : ∀ (j : Nat) (s : Sl), (e.set i .un)[j]? = some s → s = .un ∨ e[j]? = some s := fun j s h => by
    by_cases q : i = j
    · subst q
      have hi : i < e.length := by have := (List.getElem?_eq_some_iff.mp h).1; simpa using this
      rw [List.getElem?_set_self hi] at h; cases h; exact .inl rfl
    · rw [List.getElem?_set_ne q] at h; exact .inr h
  have gow : ∀ (j : Nat) (l : Bool) (b : Bx), (e.set i .un)[j]? = some (.ow l b) → e[j]? = some (.ow l b) := fun j l b h => by
    rcases get j _ h with z | z
    · cases z
    · exact z
  refine ⟨⟨R.sub, by simp [R.len], fun j s o h1 h2 => ?_, fun j j' l b l' b' p h1 h2 => R.ne j j' l b l' b' p (gow _ _ _ h1) (gow _ _ _ h2)⟩, ⟨k.ff, k.keep, k.dom, fun j b p h1 => k.fresh j b p (gow _ _ _ h1), fun j b h1 => k.own j b (gow _ _ _ h1), fun j b h => ?_⟩⟩
  · rcases get j s h1 with rfl | z
    · trivial
    · exact R.at_ j s o z h2
  · obtain ⟨⟨b', l⟩, q⟩ := k.lent j b h
    have ne : i ≠ j := fun z => n (by rw [z]; exact ⟨b', l⟩)
    exact ⟨⟨b', by rw [List.getElem?_set_ne ne]; exact l⟩, q⟩
theorem ret_ok {r : Od} {x : V} {D : Ends} {e0 : En} {F0 H0 : Hp} (R0 : Rel K e0 σ F0 H0) (k0 : BOk B e0 σ F0 H0) (R : Rel K e σ F H) (S : Step e0 e σ F0 H0 F H) (O : OdR K σ H0 F H x r) (h : OutS K W B (retO r e) D) : D.rt x H := by
  have k := k0.step S
  have hB : ∀ p, H0 p = none → B.H p = none := fun p hn => by
    cases q : B.H p with
    | none => rfl
    | some o => obtain ⟨o', e'⟩ := k0.dom _ _ q; rw [hn] at e'; cases e'
  cases r with
  | r t => exact h x σ F H R k O
  | b z => obtain ⟨p, ep, hn, hf, bx⟩ := O; exact h x σ F H R k ⟨p, ep, hB p hn, hf, bx⟩
  | s i =>
    have hs : σ[i]? = some (some x) := O
    have tree : ∀ t e', esc (.s i) e = some (t, e') → OutS K W B (.ok (.rt (.r t)) e') D → D.rt x H := fun t e' q h => by
      obtain ⟨F', R', S', d, _⟩ := esc_ok R0 R S O q
      exact h x σ F' H R' (k0.step S') d
    have other : (match esc (.s i) e with
      | some (t, e') => OutS K W B (.ok (.rt (.r t)) e') D
      | none => False) → D.rt x H := fun h => by
      cases q : esc (.s i) e with
      | none => rw [q] at h; exact h.elim
      | some te => obtain ⟨t, e'⟩ := te; rw [q] at h; exact tree t e' q h
    have conv : OutS K W B (match esc (.s i) e with
      | some (t, e') => .ok (.rt (.r t)) e'
      | none => .bad) D → D.rt x H := fun h => by
      cases q : esc (.s i) e with
      | none => rw [q] at h; exact h.elim
      | some te => obtain ⟨t, e'⟩ := te; rw [q] at h; exact tree t e' q h
    simp only [retO] at h
    cases q : e[i]? with
    | none => rw [q] at h; exact conv h
    | some s =>
      rw [q] at h
      cases s with
      | un => exact conv h
      | v _ => exact conv h
      | fz _ => exact conv h
      | ow l z =>
        cases l with
        | true => exact conv h
        | false =>
          obtain ⟨p, ep, hf, bx⟩ := R.at_ i _ _ q hs
          cases ep
          have n : ¬ Lent e i := fun ⟨b, w⟩ => by rw [q] at w; rcases w with w | w <;> cases w
          obtain ⟨R', k'⟩ := set_un R k n
          exact h _ σ F H R' k' ⟨p, rfl, k.fresh i z p q hs, hf, bx⟩
end
section
variable {X : Cx} {W : WX} {B : Bd} {a b c : Expr} {ma mb mc : SemE} {pos : Pos} {st : Stmt} {sts : List Stmt} {m1 m2 : SemS} {t1 t2 : SemT}
theorem qret (he : QE X W a ma) : QS X W B (.Return (some a) pos) (sRet ma) := by
  refine ps_mono (ps_ret he) fun D σ H h => ?_
  obtain ⟨e, F, R, k, h⟩ := h
  exact tX_imp (tS_bind (rel := fun σ => OdR X.K σ) R k h) fun x H1 ⟨r, e1, F1, R1, S1, k1, O, h1⟩ => ret_ok R k R1 S1 O h1
def sRetN : SemS := fun e => .ok (.rt (.r .none)) e
theorem qretN : QS X W B (.Return none pos) sRetN := ps_mono ps_retN fun D σ H ⟨e, F, R, k, h⟩ => h _ _ _ _ R k .non
/-! ### tests -/
/-- the truth of a bool -/
def tb (m : SemE) : SemT := fun e => (m e).bind fun r e1 => match r.val e1 with
  | some (.bool k) => .ok k e1
  | _ => .bad
theorem tb_read {m : SemE} {σ : Sg} {H : Hp} {K : PySem.W.Frag} {Q : Bool → Hp → Prop} (h : tT K W (tb m) σ H Q) : tE K W m σ H fun x H' => ∃ k, x = .bl k ∧ Q k H' := by
  obtain ⟨e, F, R, h⟩ := h
  refine tX_imp (tX_bind R .refl h) fun x H1 ⟨r, e1, F1, R1, S1, O1, h1⟩ => ?_
  cases q : r.val e1 with
  | none => simp only [q] at h1; exact h1.elim
  | some t =>
    have d := val_ok R1 O1 q
    cases t with
    | bool k => simp only [q] at h1; cases d; exact ⟨k, rfl, h1 k F1 H1 R1 S1 rfl⟩
    | none => simp only [q] at h1; exact h1.elim
    | int _ => simp only [q] at h1; exact h1.elim
    | str _ => simp only [q] at h1; exact h1.elim
    | list _ => simp only [q] at h1; exact h1.elim
    | tuple _ => simp only [q] at h1; exact h1.elim
    | dict _ => simp only [q] at h1; exact h1.elim
theorem qtval (h : QE X W a ma) (he : ∀ whole, isTrue a X.env whole = (do let v ← whole; standAt a.pos; holding [v] (truthy v)) := by intro _; rfl) : QT X W a (tb ma) :=
  pt_mono (pt_val h he) fun σ H Q h => tb_read h
theorem qtcmp {f : CmpOp} {r : R2} {g : T → T → Option Od} (ho : OpR X (compareOp f) r) (hr : Does2 X.K r g) (ha : QE X W a ma) (hb : QE X W b mb) (hm : behindInMarks f b = false := by first | rfl | exact nomark _) : QT X W (.Compare a [f] [b] pos) (tb (eOp2 g ma mb)) :=
  pt_mono (pt_cmpR ho ha hb hm) fun σ H Q h => tX_imp (two (tb_read h)) fun x H1 h1 => tX_imp h1 fun y H2 h2 => does2 hr h2
def tNot (t : SemT) : SemT := fun e => (t e).bind fun k e1 => .ok (!k) e1
theorem qtnot (h : QT X W a t1) : QT X W (.UnaryOp .Not a pos) (tNot t1) := by
  refine pt_mono (pt_not h) fun σ H Q h => ?_
  obtain ⟨e, F, R, h⟩ := h
  exact tX_imp (tX_bind (rel := fun _ _ _ _ (x : Bool) r => x = r) R .refl h) fun x H1 ⟨r, e1, F1, R1, S1, O1, h1⟩ => by subst O1; exact h1 _ F1 H1 R1 S1 rfl
abbrev QW (X : Cx) (W : WX) (ex : Expr) (m : SemT) : Prop := PW X ex (tT X.K W m)
theorem pw_mono {X : Cx} {ex : Expr} {t t' : TT} (h : PW X ex t) (m : ∀ σ H Q, t' σ H Q → t σ H Q) : PW X ex t' := ⟨fun wh pins s σ H Q I q => h.run wh pins s σ H Q I (m σ H Q q)⟩
def tAnd (t1 t2 : SemT) : SemT := fun e => (t1 e).bind fun k e1 => if k then t2 e1 else .ok false e1
def tOr (t1 t2 : SemT) : SemT := fun e => (t1 e).bind fun k e1 => if k then .ok true e1 else t2 e1
theorem qw_and1 (h : QT X W a t1) : QW X W (.BoolOp .And [a] pos) t1 := pw_and1 h
theorem qw_or1 (h : QT X W a t1) : QW X W (.BoolOp .Or [a] pos) t1 := pw_or1 h
theorem outT_trans {K : PySem.W.Frag} {m : SemT} {e e1 : En} {σ : Sg} {F H F1 H1 : Hp} {Q : Bool → Hp → Prop} (R : Rel K e1 σ F1 H1) (S : Step e e1 σ F H F1 H1) (h : OutX K W (fun _ _ _ (x : Bool) r => x = r) (m e1) e σ F H Q) : tT K W m σ H1 Q := by
  refine ⟨e1, F1, R, ?_⟩
  cases q : m e1 with
  | bad => rw [q] at h; exact h
  | exc c t e' => rw [q] at h; exact fun F' H' cls d R' S' => h F' H' cls d R' (S.trans S')
  | ok r e' => rw [q] at h; exact fun x F' H' R' S' => h x F' H' R' (S.trans S')
theorem qw_and {rest : List Expr} (ha : QT X W a t1) (hb : QW X W (.BoolOp .And (b :: rest) pos) t2) : QW X W (.BoolOp .And (a :: b :: rest) pos) (tAnd t1 t2) := by
  refine pw_mono (pw_and ha hb) fun σ H Q h => ?_
  obtain ⟨e, F, R, h⟩ := h
  refine tX_imp (tX_bind (rel := fun _ _ _ _ (x : Bool) r => x = r) R .refl h) fun x H1 ⟨r, e1, F1, R1, S1, O1, h1⟩ => ?_
  subst O1
  cases x with
  | true => exact outT_trans R1 S1 h1
  | false => exact h1 _ F1 H1 R1 S1 rfl
theorem qw_or {rest : List Expr} (ha : QT X W a t1) (hb : QW X W (.BoolOp .Or (b :: rest) pos) t2) : QW X W (.BoolOp .Or (a :: b :: rest) pos) (tOr t1 t2) := by
  refine pw_mono (pw_or ha hb) fun σ H Q h => ?_
  obtain ⟨e, F, R, h⟩ := h
  refine tX_imp (tX_bind (rel := fun _ _ _ _ (x : Bool) r => x = r) R .refl h) fun x H1 ⟨r, e1, F1, R1, S1, O1, h1⟩ => ?_
  subst O1
  cases x with
  | true => exact h1 _ F1 H1 R1 S1 rfl
  | false => exact outT_trans R1 S1 h1
theorem QW.t (h : QW X W a t1) : QT X W a t1 := h.pt
/-! ### and, or, not, if as values -/
theorem outE_trans {K : PySem.W.Frag} {m : SemE} {e e1 : En} {σ : Sg} {F H F1 H1 : Hp} {Q : VK} (R : Rel K e1 σ F1 H1) (S : Step e e1 σ F H F1 H1) (h : OutX K W (OdR K σ) (m e1) e σ F H Q) : tE K W m σ H1 Q := by
  refine ⟨e1, F1, R, ?_⟩
  cases q : m e1 with
  | bad => rw [q] at h; exact h
  | exc c t e' => rw [q] at h; exact fun F' H' cls d R' S' => h F' H' cls d R' (S.trans S')
  | ok r e' => rw [q] at h; exact fun x F' H' R' S' O => h x F' H' R' (S.trans S') (od_back O S)
def eAnd (ma mb : SemE) : SemE := fun e => (tb ma e).bind fun k e1 => if k then mb e1 else .ok (.r (.bool false)) e1
def eOr (ma mb : SemE) : SemE := fun e => (tb ma e).bind fun k e1 => if k then .ok (.r (.bool true)) e1 else mb e1
theorem qone_ {op : BoolOp} (h : QE X W a ma) : QE X W (.BoolOp op [a] pos) ma := pe_one h
theorem qand {rest : List Expr} (ha : QE X W a ma) (hb : QE X W (.BoolOp .And (b :: rest) pos) mb) : QE X W (.BoolOp .And (a :: b :: rest) pos) (eAnd ma mb) := by
  refine pe_mono (pe_and ha hb) fun σ H Q h => ?_
  obtain ⟨e, F, R, h⟩ := h
  have z := tX_bind (m := tb ma) (rel := fun _ _ _ _ (x : Bool) r => x = r) R .refl h
  refine tX_imp (tb_read z) fun x H1 ⟨k, ex, r, e1, F1, R1, S1, O1, h1⟩ => ⟨k, ex, ?_⟩
  subst O1
  cases k with
  | true => exact outE_trans R1 S1 h1
  | false => exact h1 _ F1 H1 R1 S1 (.bl false)
theorem qor {rest : List Expr} (ha : QE X W a ma) (hb : QE X W (.BoolOp .Or (b :: rest) pos) mb) : QE X W (.BoolOp .Or (a :: b :: rest) pos) (eOr ma mb) := by
  refine pe_mono (pe_or ha hb) fun σ H Q h => ?_
  obtain ⟨e, F, R, h⟩ := h
  have z := tX_bind (m := tb ma) (rel := fun _ _ _ _ (x : Bool) r => x = r) R .refl h
  refine tX_imp (tb_read z) fun x H1 ⟨k, ex, r, e1, F1, R1, S1, O1, h1⟩ => ⟨k, ex, ?_⟩
  subst O1
  cases k with
  | true => exact h1 _ F1 H1 R1 S1 (.bl true)
  | false => exact outE_trans R1 S1 h1
def eNot (ma : SemE) : SemE := fun e => (tb ma e).bind fun k e1 => .ok (.r (.bool !k)) e1
theorem qnot (ha : QE X W a ma) : QE X W (.UnaryOp .Not a pos) (eNot ma) := by
  refine pe_mono (pe_not ha) fun σ H Q h => ?_
  obtain ⟨e, F, R, h⟩ := h
  have z := tX_bind (m := tb ma) (rel := fun _ _ _ _ (x : Bool) r => x = r) R .refl h
  refine tX_imp (tb_read z) fun x H1 ⟨k, ex, r, e1, F1, R1, S1, O1, h1⟩ => ⟨k, ex, ?_⟩
  subst O1
  exact h1 _ F1 H1 R1 S1 (.bl _)
def eIf (t : SemT) (ma mb : SemE) : SemE := fun e => (t e).bind fun k e1 => if k then ma e1 else mb e1
theorem qifx (hc : QT X W c t1) (ha : QE X W a ma) (hb : QE X W b mb) : QE X W (.IfExp c a b pos) (eIf t1 ma mb) := by
  refine pe_mono (pe_ifExp hc ha hb) fun σ H Q h => ?_
  obtain ⟨e, F, R, h⟩ := h
  refine tX_imp (tX_bind (rel := fun _ _ _ _ (x : Bool) r => x = r) R .refl h) fun x H1 ⟨r, e1, F1, R1, S1, O1, h1⟩ => ?_
  subst O1
  cases x with
  | true => exact outE_trans R1 S1 h1
  | false => exact outE_trans R1 S1 h1
end
end Ev

set_option Elab.async false
set_option linter.all false
set_option maxRecDepth 100000
namespace Ev
open PySem PySem.Spec PyProof.Rows L2
section
variable {X : Cx}
theorem opr_or {f : Value → Value → Sem Value} {r r' : R2} (h : OpR X f r) (h' : OpR X f r') : OpR X f (fun x y H Q => r x y H Q ∨ r' x y H Q) := by
  intro pins s σ H x y v u Q I rx ry q
  rcases q with q | q
  · exact h pins s σ H x y v u Q I rx ry q
  · exact h' pins s σ H x y v u Q I rx ry q
def rCatS (K : PySem.W.Frag) : R2 := fun x y H Q => ∃ l b xs zs, x = .ref l ∧ y = .ref b ∧ SqL K H l xs ∧ SqL K H b zs ∧ xs.length + zs.length ≤ sizeLine ∧ ∀ p, H p = none → Q (.ref p) (upd H p (.lst (xs ++ zs)))
theorem op_catS : OpR X (binaryOp .Add) (rCatS X.K) := by
  intro pins s σ H x y v u Q I rx ry h
  obtain ⟨l, b, xs, zs, rfl, rfl, hH, hB, hz, q⟩ := h
  cases rx
  cases ry
  obtain ⟨its, r, ⟨⟨cls, dd, data, sl⟩, n, ho, hc, hd0, hd⟩, _⟩ := I.list hH
  obtain ⟨its2, r2, ⟨⟨cls2, dd2, data2, sl2⟩, n2, ho2, hc2, hd02, hd2⟩, _⟩ := I.list hB
  simp only at hc hd hc2 hd2 hd0 hd02
  subst hc hd hc2 hd2 hd0 hd02
  have hl := r.length
  have hl2 := r2.length
  refine concat_meets ⟨_, ho, rfl⟩ ⟨_, ho2, rfl⟩ noFill_list_add seq_list_add PySem.F.slot_list_add PySem.F.entry_list_add (PySem.F.args_list_add_2 _ _) (list_addW l b its.toArray its2.toArray n n2 none none sl sl2 (by simp; omega)) ⟨ho, ho2, ?_⟩
  have ea : its.toArray ++ its2.toArray = (its ++ its2).toArray := by simp
  rw [ea]
  exact ⟨.ref _, _, I.lnew (t' := s.toks) (r.append r2) (by rw [List.length_append]; omega), rfl, q _ I.fresh⟩
end
/-! ### what operations hand back -/
def gAdd : T → T → Option Od
  | .int i, .int j => some (.r (.int (i + j)))
  | .str i, .str j => if i.length + j.length ≤ sizeLine then some (.r (.str (i ++ j))) else none
  | .list xs, .list ys => if xs.length + ys.length ≤ sizeLine then some (.b (.l (xs ++ ys))) else none
  | .tuple xs, .tuple ys => if xs.length + ys.length ≤ sizeLine then some (.r (.tuple (xs ++ ys))) else none
  | _, _ => none
def rAdd4 (K : PySem.W.Frag) : R2 := fun x y H Q => (((∃ i j, x = .int i ∧ y = .int j ∧ Q (.int (i + j)) H) ∨ ∃ i j, x = .str i ∧ y = .str j ∧ i.length + j.length ≤ sizeLine ∧ Q (.str (i ++ j)) H) ∨ rCatS K x y H Q) ∨ rCatA K x y H Q
theorem op_add4 {X : Cx} : OpR X (binaryOp .Add) (rAdd4 X.K) := opr_or (opr_or (opr_or op_add op_add_str) op_catS) op_catA
theorem does_add {K : PySem.W.Frag} : Does2 K (rAdd4 K) gAdd := by
  intro x y t u w F H Q ff dx dy hg
  cases t with
  | int i =>
    cases u with
    | int j => cases hg; cases dx; cases dy; exact ⟨trivial, fun q => .inl (.inl (.inl ⟨i, j, rfl, rfl, q.1 _ (.int _)⟩))⟩
    | _ => cases hg
  | str i =>
    cases u with
    | str j =>
      simp only [gAdd] at hg
      split at hg
      · cases hg; cases dx; cases dy; rename_i hl; exact ⟨trivial, fun q => .inl (.inl (.inr ⟨i, j, rfl, rfl, hl, q.1 _ (.str _)⟩))⟩
      · cases hg
    | _ => cases hg
  | list xs =>
    cases u with
    | list ys =>
      simp only [gAdd] at hg
      split at hg
      · cases hg
        rename_i hl
        obtain ⟨p, vs, rfl, h1, d1⟩ := dx
        obtain ⟨p2, vs2, rfl, h2, d2⟩ := dy
        refine ⟨trivial, fun q => .inl (.inr ⟨p, p2, vs, vs2, rfl, rfl, h1, h2, by rw [dpAll_len d1, dpAll_len d2]; exact hl, fun p hp => q p _ hp (dpAll_app d1 d2)⟩)⟩
      · cases hg
    | _ => cases hg
  | tuple xs =>
    cases u with
    | tuple ys =>
      simp only [gAdd] at hg
      split at hg
      · cases hg
        rename_i hl
        have dx0 : Dp K F x (.tuple xs) := dx
        have dy0 : Dp K F y (.tuple ys) := dy
        cases dx with
        | tup h1 d1 =>
          cases dy with
          | tup h2 d2 =>
            refine ⟨trivial, fun q => .inr ⟨_, _, _, _, rfl, rfl, sqT_mono ff h1, sqT_mono ff h2, by rw [dpAll_len d1, dpAll_len d2]; exact hl, fun e => ?_, fun _ e => ?_, fun _ _ p hp => q.2 _ p _ rfl hp (dpAll_app d1 d2)⟩⟩
            · subst e; cases d1; exact q.1 _ dy0
            · subst e; cases d2; rw [List.append_nil] at q; exact q.1 _ dx0
      · cases hg
    | _ => cases hg
  | _ => cases hg
/-- ints -/
def gII (c : Int → Int → Bool) (g : Int → Int → T) : T → T → Option Od
  | .int i, .int j => if c i j then some (.r (g i j)) else none
  | _, _ => none
theorem does_ii {K : PySem.W.Frag} {C : Int → Int → Prop} {c : Int → Int → Bool} {g : Int → Int → V} {g' : Int → Int → T} (hc : ∀ i j, c i j = true → C i j) (hg : ∀ i j F, Dp K F (g i j) (g' i j)) : Does2 K (rI C g) (gII c g') := by
  intro x y t u w F H Q ff dx dy h
  cases t with
  | int i =>
    cases u with
    | int j =>
      simp only [gII] at h
      split at h
      · rename_i hl; cases h; cases dx; cases dy; exact ⟨trivial, fun q => ⟨i, j, rfl, rfl, hc i j hl, q.1 _ (hg i j F)⟩⟩
      · cases h
    | _ => cases h
  | _ => cases h
theorem does_ii0 {K : PySem.W.Frag} {g : Int → Int → V} {g' : Int → Int → T} (hg : ∀ i j F, Dp K F (g i j) (g' i j)) : Does2 K (rI0 g) (gII (fun _ _ => true) g') := by
  intro x y t u w F H Q ff dx dy h
  obtain ⟨a, b⟩ := does_ii (C := fun _ _ => True) (c := fun _ _ => true) (fun _ _ _ => trivial) hg x y t u w F H Q ff dx dy h
  refine ⟨a, fun q => ?_⟩
  obtain ⟨i, j, h1, h2, _, h3⟩ := b q
  exact ⟨i, j, h1, h2, h3⟩
abbrev gSub : T → T → Option Od := gII (fun _ _ => true) fun i j => .int (i - j)
theorem does_sub {K : PySem.W.Frag} : Does2 K (rI0 fun i j => .int (i - j)) gSub := does_ii0 fun _ _ _ => .int _
abbrev gMod : T → T → Option Od := gII (fun _ j => decide (0 < j)) fun i j => .int (i % j)
theorem does_mod {K : PySem.W.Frag} : Does2 K (rI (fun _ j => 0 < j) fun i j => .int (i % j)) gMod := does_ii (fun _ _ h => of_decide_eq_true h) fun _ _ _ => .int _
abbrev gDiv : T → T → Option Od := gII (fun _ j => decide (0 < j ∧ j.natAbs.log2 < 9000)) fun i j => .int (i / j)
theorem does_div {K : PySem.W.Frag} : Does2 K (rI CDivW fun i j => .int (i / j)) gDiv := does_ii (fun i j h => of_decide_eq_true (p := 0 < j ∧ j.natAbs.log2 < 9000) h) fun _ _ _ => .int _
abbrev gPow : T → T → Option Od := gII (fun i j => decide (0 ≤ j ∧ j ≤ 1000000 ∧ i.natAbs < 2 ^ 64)) fun i j => .int (i ^ j.toNat)
theorem does_pow {K : PySem.W.Frag} : Does2 K (rI CPow fun i j => .int (i ^ j.toNat)) gPow := does_ii (fun i j h => of_decide_eq_true (p := 0 ≤ j ∧ j ≤ 1000000 ∧ i.natAbs < 2 ^ 64) h) fun _ _ _ => .int _
def mulOk (i j : Int) : Bool := decide (i.natAbs.log2 + j.natAbs.log2 < 1000000)
def gMul : T → T → Option Od
  | .int i, .int j => if mulOk i j then some (.r (.int (i * j))) else none
  | _, _ => none
theorem does_mul {K : PySem.W.Frag} : Does2 K (rI CMulW fun i j => .int (i * j)) gMul := by
  intro x y t u w F H Q ff dx dy h
  refine does_ii (K := K) (C := CMulW) (c := mulOk) (g' := fun i j => .int (i * j)) (fun i j h => of_decide_eq_true (p := i.natAbs.log2 + j.natAbs.log2 < 1000000) h) (fun _ _ _ => .int _) x y t u w F H Q ff dx dy ?_
  cases t <;> cases u <;> first | exact h | cases h
abbrev gLt : T → T → Option Od := gII (fun _ _ => true) fun i j => .bool (decide (i < j))
abbrev gLe : T → T → Option Od := gII (fun _ _ => true) fun i j => .bool (decide (i ≤ j))
abbrev gGt : T → T → Option Od := gII (fun _ _ => true) fun i j => .bool (decide (j < i))
abbrev gGe : T → T → Option Od := gII (fun _ _ => true) fun i j => .bool (decide (j ≤ i))
theorem does_lt {K : PySem.W.Frag} : Does2 K (rI0 fun i j => .bl (decide (i < j))) gLt := does_ii0 fun _ _ _ => .bl _
theorem does_le {K : PySem.W.Frag} : Does2 K (rI0 fun i j => .bl (decide (i ≤ j))) gLe := does_ii0 fun _ _ _ => .bl _
theorem does_gt {K : PySem.W.Frag} : Does2 K (rI0 fun i j => .bl (decide (j < i))) gGt := does_ii0 fun _ _ _ => .bl _
theorem does_ge {K : PySem.W.Frag} : Does2 K (rI0 fun i j => .bl (decide (j ≤ i))) gGe := does_ii0 fun _ _ _ => .bl _
/-- == on data -/
def gEq (k : Bool → Bool) : T → T → Option Od := fun t u => if SeqAt.shaped t && SeqAt.shaped u then some (.r (.bool (k (PyData.eqv t u)))) else none
theorem does_eq {K : PySem.W.Frag} : Does2 K (rEqD K) (gEq id) := by
  intro x y t u w F H Q ff dx dy h
  simp only [gEq] at h
  split at h
  · rename_i hs
    rw [Bool.and_eq_true] at hs
    cases h
    exact ⟨trivial, fun q => ⟨t, u, dx.dp ff, dy.dp ff, hs.1, hs.2, q.1 _ (.bl _)⟩⟩
  · cases h
theorem does_ne {K : PySem.W.Frag} : Does2 K (rNeD K) (gEq not) := by
  intro x y t u w F H Q ff dx dy h
  simp only [gEq] at h
  split at h
  · rename_i hs
    rw [Bool.and_eq_true] at hs
    cases h
    exact ⟨trivial, fun q => ⟨t, u, dx.dp ff, dy.dp ff, hs.1, hs.2, q.1 _ (.bl _)⟩⟩
  · cases h
def isN : T → Bool
  | .none => true
  | _ => false
/-- is None -/
def gIsN (k : Bool → Bool) : T → T → Option Od := fun t u => match u with
  | .none => some (.r (.bool (k (isN t))))
  | _ => none
theorem dpo_non {K : PySem.W.Frag} {F H : Hp} {x : V} {t : T} (d : DpO K F H x t) : decide (x = .non) = isN t := by
  cases t with
  | list ts => obtain ⟨p, xs, rfl, _⟩ := d; rfl
  | none => cases d; rfl
  | bool _ => cases d; rfl
  | int _ => cases d; rfl
  | str _ => cases d; rfl
  | tuple _ => cases d; rfl
  | dict _ => cases d
theorem does_isN {K : PySem.W.Frag} : Does2 K (fun x y H Q => y = .non ∧ Q (.bl (decide (x = .non))) H) (gIsN id) := by
  intro x y t u w F H Q ff dx dy h
  cases u with
  | none => cases h; cases dy; exact ⟨trivial, fun q => ⟨rfl, by rw [dpo_non dx]; exact q.1 _ (.bl _)⟩⟩
  | _ => cases h
theorem does_notN {K : PySem.W.Frag} : Does2 K (fun x y H Q => y = .non ∧ Q (.bl (!decide (x = .non))) H) (gIsN not) := by
  intro x y t u w F H Q ff dx dy h
  cases u with
  | none => cases h; cases dy; exact ⟨trivial, fun q => ⟨rfl, by rw [dpo_non dx]; exact q.1 _ (.bl _)⟩⟩
  | _ => cases h
/-! ### in -/
def flatT : T → Bool
  | .none => true
  | .bool _ => true
  | .int _ => true
  | .str _ => true
  | _ => false
def gIn (k : Bool → Bool) : T → T → Option Od := fun t u => match u with
  | .list ds => if SeqAt.shaped t && SeqAt.shaped (.list ds) then some (.r (.bool (k (ds.any fun z => PyData.eqv z t)))) else none
  | .tuple ds => if flatT t && ds.all flatT then some (.r (.bool (k (ds.any fun z => PyData.eqv z t)))) else none
  | _ => none
theorem dp_flat {K : PySem.W.Frag} {F : Hp} {x : V} {t : T} (d : Dp K F x t) (h : flatT t = true) : flatV x = true := by
  cases d <;> first | rfl | cases h
theorem dp_flats {K : PySem.W.Frag} {F : Hp} : ∀ {ts : List T} {xs : List V}, DpAll K F xs ts → ts.all flatT = true → xs.all flatV = true
  | [], _, h, _ => by cases h; rfl
  | t :: ts, _, .cons a b, h => by
    rw [List.all_cons, Bool.and_eq_true] at h
    rw [List.all_cons, dp_flat a h.1, dp_flats b h.2]
    rfl
theorem flat_eqv {K : PySem.W.Frag} {F : Hp} {x y : V} {t u : T} (d : Dp K F x t) (d' : Dp K F y u) (h : flatT t = true) (h' : flatT u = true) : eqV x y = PyData.eqv t u := by
  cases d <;> cases d' <;> first | (simp only [eqV, PyData.eqv]; done) | cases h | cases h' | (simp [eqV, PyData.eqv]; done) | (unfold eqV PyData.eqv; rfl)
theorem flat_any {K : PySem.W.Frag} {F : Hp} {x : V} {t : T} (d : Dp K F x t) (h : flatT t = true) : ∀ {ts : List T} {xs : List V}, DpAll K F xs ts → ts.all flatT = true → inV x xs = ts.any fun z => PyData.eqv z t
  | [], _, h1, _ => by cases h1; rfl
  | u :: ts, _, .cons a b, h1 => by
    rw [List.all_cons, Bool.and_eq_true] at h1
    have e := flat_any d h b h1.2
    unfold inV at e ⊢
    rw [List.any_cons, List.any_cons, e, flat_eqv a d h1.1 h]
def rIn2 (K : PySem.W.Frag) : R2 := fun x y H Q => rInD K x y H Q ∨ rIn K false x y H Q
def rNotIn2 (K : PySem.W.Frag) : R2 := fun x y H Q => rNotInD K x y H Q ∨ rIn K true x y H Q
theorem op_in2 {X : Cx} (hu : X.A.units + 65 < cLine) : OpR X (compareOp .In) (rIn2 X.K) := opr_or (op_inD hu) op_in_seq
theorem op_notIn2 {X : Cx} (hu : X.A.units + 65 < cLine) : OpR X (compareOp .NotIn) (rNotIn2 X.K) := opr_or (op_notInD hu) op_notIn_seq
theorem does_in {K : PySem.W.Frag} : Does2 K (rIn2 K) (gIn id) := by
  intro x y t u w F H Q ff dx dy h
  cases u with
  | list ds =>
    simp only [gIn] at h
    split at h
    · rename_i hs
      rw [Bool.and_eq_true] at hs
      cases h
      exact ⟨trivial, fun q => .inl ⟨t, ds, dx.dp ff, dy.dp ff, hs.1, hs.2, q.1 _ (.bl _)⟩⟩
    · cases h
  | tuple ds =>
    simp only [gIn] at h
    split at h
    · rename_i hs
      rw [Bool.and_eq_true] at hs
      cases h
      cases dy with
      | tup h1 d1 =>
        have dx' : Dp K F x t := by cases t <;> first | exact dx | (cases hs.1)
        exact ⟨trivial, fun q => .inr ⟨_, _, rfl, .inr (sqT_mono ff h1), dp_flat dx' hs.1, dp_flats d1 hs.2, by rw [flat_any dx' hs.1 d1 hs.2]; exact q.1 _ (.bl _)⟩⟩
    · cases h
  | _ => cases h
theorem does_notIn {K : PySem.W.Frag} : Does2 K (rNotIn2 K) (gIn not) := by
  intro x y t u w F H Q ff dx dy h
  cases u with
  | list ds =>
    simp only [gIn] at h
    split at h
    · rename_i hs
      rw [Bool.and_eq_true] at hs
      cases h
      exact ⟨trivial, fun q => .inl ⟨t, ds, dx.dp ff, dy.dp ff, hs.1, hs.2, q.1 _ (.bl _)⟩⟩
    · cases h
  | tuple ds =>
    simp only [gIn] at h
    split at h
    · rename_i hs
      rw [Bool.and_eq_true] at hs
      cases h
      cases dy with
      | tup h1 d1 =>
        have dx' : Dp K F x t := by cases t <;> first | exact dx | (cases hs.1)
        exact ⟨trivial, fun q => .inr ⟨_, _, rfl, .inr (sqT_mono ff h1), dp_flat dx' hs.1, dp_flats d1 hs.2, by rw [flat_any dx' hs.1 d1 hs.2]; exact q.1 _ (.bl _)⟩⟩
    · cases h
  | _ => cases h
/-! ### an item -/
def gIx : T → T → Option Od
  | .list ts, .int i => (atI ts i).map .r
  | .tuple ts, .int i => (atI ts i).map .r
  | _, _ => none
theorem atI_dp {K : PySem.W.Frag} {F : Hp} {ts : List T} {xs : List V} {i : Int} {t : T} (d : DpAll K F xs ts) (h : atI ts i = some t) : ∃ v, atI xs i = some v ∧ Dp K F v t := by
  unfold atI at h ⊢
  rw [dpAll_len d]
  cases q : ixN ts.length i with
  | none => rw [q] at h; cases h
  | some j => rw [q] at h; exact dpAll_get d h
def rIx2 (K : PySem.W.Frag) : R2 := fun x y H Q => rIxL K x y H Q ∨ rIxT K x y H Q
theorem ix2 {X : Cx} : IxR X (rIx2 X.K) := by
  intro value slice pins s σ H x y v u Q I rx ry h hs
  rcases h with h | h
  · exact ix_list value slice pins s σ H x y v u Q I rx ry h hs
  · exact ix_tup value slice pins s σ H x y v u Q I rx ry h hs
theorem does_ix {K : PySem.W.Frag} : Does2 K (rIx2 K) gIx := by
  intro x y t u w F H Q ff dx dy h
  cases t with
  | list ts =>
    cases u with
    | int i =>
      simp only [gIx] at h
      cases q : atI ts i with
      | none => rw [q] at h; cases h
      | some t' =>
        rw [q] at h; cases h
        obtain ⟨p, xs, rfl, h1, d1⟩ := dx
        cases dy
        obtain ⟨v, hv, dv⟩ := atI_dp d1 q
        exact ⟨trivial, fun k => .inl ⟨p, xs, i, v, rfl, rfl, h1, hv, k.1 _ dv⟩⟩
    | _ => cases h
  | tuple ts =>
    cases u with
    | int i =>
      simp only [gIx] at h
      cases q : atI ts i with
      | none => rw [q] at h; cases h
      | some t' =>
        rw [q] at h; cases h
        cases dy
        cases dx with
        | tup h1 d1 =>
          obtain ⟨v, hv, dv⟩ := atI_dp d1 q
          exact ⟨trivial, fun k => .inr ⟨_, _, i, v, rfl, rfl, sqT_mono ff h1, hv, k.1 _ dv⟩⟩
    | _ => cases h
  | _ => cases h
section
variable {X : Cx} {W : WX} {a b c : Expr} {ma mb mc : SemE} {pos : Pos}
theorem qix (ha : QE X W a ma) (hb : QE X W b mb) (hs : ∀ o i, subscripted b false o i = operate [o, i] (getItem o i) := by intros; rfl) : QE X W (.Subscript a b pos) (eOp2 gIx ma mb) :=
  pe_mono (pe_ix ix2 ha hb hs) fun σ H Q h => tX_imp (two h) fun x H1 h1 => tX_imp h1 fun y H2 h2 => does2 does_ix h2
def eNeg (m : SemE) : SemE := fun e => (m e).bind fun r e1 => match r.val e1 with
  | some (.int i) => .ok (.r (.int (-i))) e1
  | _ => .bad
theorem qneg (ha : QE X W a ma) : QE X W (.UnaryOp .USub a pos) (eNeg ma) := by
  refine pe_mono (pe_un un_neg ha) fun σ H Q h => ?_
  obtain ⟨e, F, R, h⟩ := h
  refine tX_imp (tX_bind (rel := fun σ => OdR X.K σ) R .refl h) fun x H1 ⟨r, e1, F1, R1, S1, O1, h1⟩ => ?_
  cases q : r.val e1 with
  | none => simp only [q] at h1; exact h1.elim
  | some t =>
    have d := val_ok R1 O1 q
    cases t with
    | int i => simp only [q] at h1; cases d; exact ⟨i, rfl, h1 _ F1 H1 R1 S1 (.int _)⟩
    | none => simp only [q] at h1; exact h1.elim
    | bool _ => simp only [q] at h1; exact h1.elim
    | str _ => simp only [q] at h1; exact h1.elim
    | list _ => simp only [q] at h1; exact h1.elim
    | tuple _ => simp only [q] at h1; exact h1.elim
    | dict _ => simp only [q] at h1; exact h1.elim
end
end Ev

set_option Elab.async false
set_option linter.all false
set_option maxRecDepth 100000
namespace Ev
open PySem PySem.Spec PyProof.Rows L2
/-! ### isinstance -/
def kindT : T → String
  | .none => "NoneType"
  | .bool _ => "bool"
  | .int _ => "int"
  | .str _ => "str"
  | .list _ => "list"
  | .tuple _ => "tuple"
  | .dict _ => "dict"
def isInt : T → Bool
  | .bool _ => true
  | .int _ => true
  | _ => false
def isBool : T → Bool
  | .bool _ => true
  | _ => false
def isStr : T → Bool
  | .str _ => true
  | _ => false
def isList : T → Bool
  | .list _ => true
  | _ => false
def isTuple : T → Bool
  | .tuple _ => true
  | _ => false
def isDict : T → Bool
  | .dict _ => true
  | _ => false
def isTL : T → Bool
  | .tuple _ => true
  | .list _ => true
  | _ => false
theorem k_int (t : T) : kitB (kindT t) "int" = some (isInt t) := by cases t <;> (simp only [kindT, isInt]; decide +kernel)
theorem k_bool (t : T) : kitB (kindT t) "bool" = some (isBool t) := by cases t <;> (simp only [kindT, isBool]; decide +kernel)
theorem k_str (t : T) : kitB (kindT t) "str" = some (isStr t) := by cases t <;> (simp only [kindT, isStr]; decide +kernel)
theorem k_list (t : T) : kitB (kindT t) "list" = some (isList t) := by cases t <;> (simp only [kindT, isList]; decide +kernel)
theorem k_tuple (t : T) : kitB (kindT t) "tuple" = some (isTuple t) := by cases t <;> (simp only [kindT, isTuple]; decide +kernel)
theorem k_dict (t : T) : kitB (kindT t) "dict" = some (isDict t) := by cases t <;> (simp only [kindT, isDict]; decide +kernel)
theorem k_tl {K : PySem.W.Frag} (t : T) : PySem.W.kitAny K (.type (kindT t)) [.type "tuple", .type "list"] = some (isTL t) := by
  refine kitAny_cons (kit_ty (k_tuple t)) (fun h => kitAny_cons (r := isTL t) (kit_ty (k_list t)) (fun h2 => ?_) (fun h2 => ?_)) (fun h => ?_)
  · cases t <;> first | rfl | exact Bool.noConfusion h | exact Bool.noConfusion h2
  · cases t <;> first | rfl | exact Bool.noConfusion h | exact Bool.noConfusion h2
  · cases t <;> first | rfl | exact Bool.noConfusion h
theorem k_lt {K : PySem.W.Frag} (t : T) : PySem.W.kitAny K (.type (kindT t)) [.type "list", .type "tuple"] = some (isTL t) := by
  refine kitAny_cons (kit_ty (k_list t)) (fun h => kitAny_cons (r := isTL t) (kit_ty (k_tuple t)) (fun h2 => ?_) (fun h2 => ?_)) (fun h => ?_)
  · cases t <;> first | rfl | exact Bool.noConfusion h | exact Bool.noConfusion h2
  · cases t <;> first | rfl | exact Bool.noConfusion h | exact Bool.noConfusion h2
  · cases t <;> first | rfl | exact Bool.noConfusion h
theorem sqL_ty {K : PySem.W.Frag} {H : Hp} {p : Addr} {xs : List V} (h : SqL K H p xs) : TyX K H (.ref p) (.type "list") := by
  rcases h with h | ⟨o, its, n, hk, hc, _⟩
  · rcases h with h | ⟨o, h⟩
    · exact .base (.lst h)
    · exact .base (.frz h)
  · exact .kList hk hc
theorem sqT_ty {K : PySem.W.Frag} {H : Hp} {p : Addr} {xs : List V} (h : SqT K H p xs) : TyX K H (.ref p) (.type "tuple") := by
  rcases h with h | ⟨o, its, n, hk, hc, _⟩
  · rcases h with h | ⟨o, h⟩
    · exact .base (.tup h)
    · exact .fTuple h
  · exact .kTuple hk hc
theorem dpo_ty {K : PySem.W.Frag} {F H : Hp} {x : V} {t : T} (ff : ∀ a o, F a = some o → H a = some o) (d : DpO K F H x t) : TyX K H x (.type (kindT t)) := by
  cases t with
  | list ts => obtain ⟨p, xs, rfl, h, _⟩ := d; exact sqL_ty h
  | none => cases d; exact .base .non
  | bool _ => cases d; exact .base (.bl _)
  | int _ => cases d; exact .base (.int _)
  | str _ => cases d; exact .base (.str _)
  | tuple _ => cases d with | tup h _ => exact sqT_ty (sqT_mono ff h)
  | dict _ => cases d
section
variable {X : Cx} {W : WX} {a b c : Expr} {ma mb mc : SemE} {pos : Pos}
def eIsi (f : T → Bool) (m : SemE) : SemE := fun e => (m e).bind fun r e1 => match r.val e1 with
  | some t => .ok (.r (.bool (f t))) e1
  | none => .bad
theorem isi_read {K : PySem.W.Frag} {f : T → Bool} {m : SemE} {σ : Sg} {H : Hp} {Q : VK} (h : tE K W (eIsi f m) σ H Q) :
    tE K W m σ H fun x H1 => ∃ t, TyX K H1 x (.type (kindT t)) ∧ Q (.bl (f t)) H1 ∧ ∀ y p, H1 p = none → TyX K (upd H1 p (.tup y)) x (.type (kindT t)) ∧ Q (.bl (f t)) (upd H1 p (.tup y)) := by
  obtain ⟨e, F, R, h⟩ := h
  refine tX_imp (tX_bind (rel := fun σ => OdR K σ) R .refl h) fun x H1 ⟨r, e1, F1, R1, S1, O1, h1⟩ => ?_
  cases q : r.val e1 with
  | none => simp only [q] at h1; exact h1.elim
  | some t =>
    simp only [q] at h1
    have d := val_ok R1 O1 q
    refine ⟨t, dpo_ty R1.sub d, h1 _ F1 H1 R1 S1 (.bl _), fun y p hp => ?_⟩
    have R2 := laid_own (o := .tup y) R1 hp
    have S2 := laid_own_step (e := e1) (σ := σ) (F := F1) (o := .tup y) hp
    have d2 : DpO K F1 (upd H1 p (.tup y)) x t := by
      cases t with
      | list ts => obtain ⟨q, xs, rfl, h, z⟩ := d; exact ⟨q, xs, rfl, sqL_mono (fun a o w => by rw [upd_ne (ne_of_none w hp)]; exact w) h, z⟩
      | _ => exact d
    exact ⟨dpo_ty R2.sub d2, h1 _ F1 _ R2 (S1.trans S2) (.bl _)⟩
theorem qisi {n : Str} {T' : String} {f : T → Bool} {p p2 : Pos} (hk : ∀ t, kitB (kindT t) T' = some (f t)) (hg : Gl X "isinstance") (hm : X.mg "isinstance" = none) (hgn : Gl X n) (hmn : X.mg n = none) (hv : bootBuiltins n = some (.type T')) (ha : QE X W a ma)
    (hn : n ≠ "__name__" := by decide) (hd : (n == ("__debug__" : Str)) = false := by decide)
    (he : starEach [a, .Name n p2] X.env = (false, eval a X.env) :: starEach [.Name n p2] X.env := by rfl) (he2 : starEach [.Name n p2] X.env = [(false, eval (.Name n p2) X.env)] := by rfl) (hpl : (backTo pos (starEach [.Name n p2] X.env)).any (·.1) = false := by rfl) :
    QE X W (.Call (.Name "isinstance" p) [a, .Name n p2] [] pos) (eIsi f ma) := by
  refine pe_mono (pe_callB call_isi hg hm (by decide +kernel) (pa_cons ha (pa_cons (pe_bltn hgn hmn hv (v := .ty T') rfl hn hd) pa_nil he2) he) (by decide) (by decide) he hpl) fun σ H Q h => ?_
  refine tX_imp (isi_read h) fun x H1 ⟨t, ty, q, _⟩ => ?_
  exact ⟨x, .ty T', _, .type T', f t, rfl, .ty T', ty, kit_ty (hk t), q⟩
theorem qisi2 {n n' : Str} {T1 T2 : String} {f : T → Bool} {p p2 p3 p4 : Pos} {kk : Nat} (hk : ∀ t, PySem.W.kitAny X.K (.type (kindT t)) [.type T1, .type T2] = some (f t)) (hg : Gl X "isinstance") (hm : X.mg "isinstance" = none) (hgn : Gl X n) (hmn : X.mg n = none) (hv : bootBuiltins n = some (.type T1))
    (hgn' : Gl X n') (hmn' : X.mg n' = none) (hv' : bootBuiltins n' = some (.type T2)) (ha : QE X W a ma)
    (hn : n ≠ "__name__" := by decide) (hd : (n == ("__debug__" : Str)) = false := by decide) (hn' : n' ≠ "__name__" := by decide) (hd' : (n' == ("__debug__" : Str)) = false := by decide)
    (he : starEach [a, .Tuple [.Name n p2, .Name n' p3] kk p4] X.env = (false, eval a X.env) :: starEach [.Tuple [.Name n p2, .Name n' p3] kk p4] X.env := by rfl) (he2 : starEach [.Tuple [.Name n p2, .Name n' p3] kk p4] X.env = [(false, eval (.Tuple [.Name n p2, .Name n' p3] kk p4) X.env)] := by rfl)
    (he3 : starEach [.Name n p2, .Name n' p3] X.env = (false, eval (.Name n p2) X.env) :: starEach [.Name n' p3] X.env := by rfl) (he4 : starEach [.Name n' p3] X.env = [(false, eval (.Name n' p3) X.env)] := by rfl)
    (hpl : (backTo pos (starEach [.Tuple [.Name n p2, .Name n' p3] kk p4] X.env)).any (·.1) = false := by rfl) :
    QE X W (.Call (.Name "isinstance" p) [a, .Tuple [.Name n p2, .Name n' p3] kk p4] [] pos) (eIsi f ma) := by
  refine pe_mono (pe_callB call_isiT hg hm (by decide +kernel) (pa_cons ha (pa_cons (pe_tup (pa_cons (pe_bltn hgn hmn hv (v := .ty T1) rfl hn hd) (pa_cons (pe_bltn hgn' hmn' hv' (v := .ty T2) rfl hn' hd') pa_nil he4) he3)) pa_nil he2) he) (by decide) (by decide) he hpl) fun σ H Q h => ?_
  refine tX_imp (isi_read h) fun x H1 ⟨t, ty, q, z⟩ => ?_
  refine ⟨(by show 2 ≤ sizeLine; decide), fun p hp => ?_⟩
  obtain ⟨ty2, q2⟩ := z [.ty T1, .ty T2] p hp
  exact ⟨x, p, [.ty T1, .ty T2], _, [.type T1, .type T2], f t, rfl, upd_same, .cons (.ty T1) (.cons (.ty T2) .nil), ty2, hk t, q2⟩

/-! ### slices -/
abbrev SemP := En → Out (Option Int)
abbrev QP (X : Cx) (W : WX) (ex : Option Expr) (m : SemP) : Prop := PO X ex (tX X.K W (fun _ _ _ _ (x : Option Int) r => x = r) m)
theorem po_mono {ex : Option Expr} {t t' : TO} (h : PO X ex t) (m : ∀ σ H Q, t' σ H Q → t σ H Q) : PO X ex t' := ⟨fun pins s σ H Q I q => h.run pins s σ H Q I (m σ H Q q)⟩
def pNo : SemP := fun e => .ok none e
def pSo (m : SemE) : SemP := fun e => (m e).bind fun r e1 => match r.val e1 with
  | some (.int i) => .ok (some i) e1
  | _ => .bad
theorem qpn : QP X W none pNo := po_mono po_none fun σ H Q ⟨e, F, R, h⟩ => h _ F H R .refl rfl
theorem qps (ha : QE X W a ma) : QP X W (some a) (pSo ma) := by
  refine po_mono (po_some ha) fun σ H Q h => ?_
  obtain ⟨e, F, R, h⟩ := h
  refine tX_imp (tX_bind (rel := fun σ => OdR X.K σ) R .refl h) fun x H1 ⟨r, e1, F1, R1, S1, O1, h1⟩ => ?_
  cases q : r.val e1 with
  | none => simp only [q] at h1; exact h1.elim
  | some t =>
    have d := val_ok R1 O1 q
    cases t with
    | int i => simp only [q] at h1; cases d; exact ⟨i, rfl, h1 _ F1 H1 R1 S1 rfl⟩
    | none => simp only [q] at h1; exact h1.elim
    | bool _ => simp only [q] at h1; exact h1.elim
    | str _ => simp only [q] at h1; exact h1.elim
    | list _ => simp only [q] at h1; exact h1.elim
    | tuple _ => simp only [q] at h1; exact h1.elim
    | dict _ => simp only [q] at h1; exact h1.elim
def cutT {α : Type} (xs : List α) (lo hi : Option Int) : List α := (xs.drop (HT.sIx xs.length 0 lo)).take (HT.sIx xs.length xs.length hi - HT.sIx xs.length 0 lo)
def eSl (m : SemE) (lo hi : SemP) : SemE := fun e => (m e).bind fun r e1 => (lo e1).bind fun l e2 => (hi e2).bind fun h e3 => match r.val e3 with
  | some (.list ts) => .ok (.b (.l (cutT ts l h))) e3
  | some (.tuple ts) => .ok (.r (.tuple (cutT ts l h))) e3
  | _ => .bad
theorem cut_dp {K : PySem.W.Frag} {F : Hp} {ts : List T} {xs : List V} {l h : Option Int} (d : DpAll K F xs ts) : DpAll K F (cutV xs l h) (cutT ts l h) := by
  unfold cutV cutT
  rw [dpAll_len d]
  exact dpAll_take _ (dpAll_drop _ d)
theorem qsl {lo hi : Option Expr} {ml mh : SemP} {p2 : Pos} (ha : QE X W a ma) (hl : QP X W lo ml) (hu : QP X W hi mh) : QE X W (.Subscript a (.Slice lo hi none p2) pos) (eSl ma ml mh) := by
  refine pe_mono (pe_slice (SlR.or sl_list sl_tupA) ha hl hu) fun σ H Q h => ?_
  obtain ⟨e, F, R, h⟩ := h
  refine tX_imp (tX_bind (rel := fun σ => OdR X.K σ) R .refl h) fun x H1 ⟨r, e1, F1, R1, S1, O1, h1⟩ => ?_
  refine tX_imp (tX_bind (rel := fun _ _ _ _ (x : Option Int) r => x = r) R1 S1 h1) fun l H2 ⟨l', e2, F2, R2, S2, El, h2⟩ => ?_
  refine tX_imp (tX_bind (rel := fun _ _ _ _ (x : Option Int) r => x = r) R2 (S1.trans S2) h2) fun u H3 ⟨u', e3, F3, R3, S3, Eu, h3⟩ => ?_
  subst El Eu
  have S' := (S1.trans S2).trans S3
  have O3 := od_stay O1 (fun p hp => fresh_not_own R S1 hp) (S2.trans S3)
  cases q : r.val e3 with
  | none => simp only [q] at h3; exact h3.elim
  | some t =>
    have d := val_ok R3 O3 q
    cases t with
    | list ts =>
      simp only [q] at h3
      obtain ⟨p, xs, rfl, hs, dd⟩ := d
      exact .inl ⟨p, xs, rfl, hs, fun p hp => (fin_of R3 S' h3 True.intro : Fin X.K F3 H3 Q (.b (.l _))) p _ hp (cut_dp dd)⟩
    | tuple ts =>
      simp only [q] at h3
      have fin := (fin_of R3 S' h3 True.intro : Fin X.K F3 H3 Q (.r (.tuple _)))
      have d0 : Dp X.K F3 x (.tuple ts) := d
      cases d with
      | tup hs dd =>
        refine .inr ⟨_, _, rfl, sqT_mono R3.sub hs, fun w => ?_, fun _ p hp => fin.2 _ p _ rfl hp (cut_dp dd)⟩
        refine fin.1 _ ?_
        have e : cutT ts l u = ts := by
          unfold cutT
          rw [← dpAll_len dd, w.1, w.2, dpAll_len dd]
          simp
        rw [e]; exact d0
    | none => simp only [q] at h3; exact h3.elim
    | bool _ => simp only [q] at h3; exact h3.elim
    | str _ => simp only [q] at h3; exact h3.elim
    | int _ => simp only [q] at h3; exact h3.elim
    | dict _ => simp only [q] at h3; exact h3.elim
end
/-! ### xs[::-1] of a list and of a tuple -/
section
variable {prog : Program} {w : World} {A : Around} {E : Value → Shared → Prop} {s : Shared}
theorem dpAll_rev {K : PySem.W.Frag} {F : Hp} : ∀ {ts : List T} {xs : List V}, DpAll K F xs ts → DpAll K F xs.reverse ts.reverse
  | [], _, h => by cases h; exact .nil
  | _ :: _, _, h => by cases h with | cons a b => rw [List.reverse_cons, List.reverse_cons]; exact dpAll_app (dpAll_rev b) (.cons a .nil)
end
end Ev
namespace Ev
open PySem PySem.Spec PyProof.Rows L2 HT
section
variable {prog : Program} {w : World} {A : Around} {E : Value → Shared → Prop} {s : Shared}
theorem adjust_rev (n : Nat) : Builtin.Slice.sliceAdjust none none (-1) (n : Int) = ((n : Int) - 1, -1) := by
  unfold Builtin.Slice.sliceAdjust
  have h1 : ((-1 : Int) < 0) := by omega
  simp only [h1, if_true]
theorem places_rev (n : Nat) : Builtin.Slice.slicePlaces ((n : Int) - 1) (-1) (-1) = n := by
  unfold Builtin.Slice.slicePlaces
  have h1 : ¬ ((-1 : Int) > 0) := by omega
  have h2 : (- -1 : Int) = 1 := by decide
  simp only [h1, if_false, h2, Int.ediv_one]
  split <;> omega
theorem applied_rev {sl : Addr} {vl vu vs : Value} {n : Nat} {Q : Int × Int × Nat → Shared → Prop} (hs : s.heap.IsSliceOf sl vl vu vs) (pl : IsPart vl none) (pu : IsPart vu none) (ps : IsPart vs (some (-1)))
    (h : Q ((n : Int) - 1, -1, n) s) : wpAny (model prog w) A (Builtin.Slice.sliceApplied (.ref sl) (pure (n : Int))) Q E s := by
  obtain ⟨os, hos, hcs, hds⟩ := id hs
  unfold Builtin.Slice.sliceApplied Builtin.Slice.sliceFields
  refine wpAny_bind (wpAny_bind (wpAny_field hos hds (x := vl) rfl (wpAny_bind (wpAny_field hos hds (x := vu) rfl (wpAny_bind (wpAny_field hos hds (x := vs) rfl (wpAny_pure ?_)))))))
  refine wpAny_bind (slicePart_ ps ?_)
  show wpAny _ _ (if ((-1 : Int) == 0) = true then _ else _) _ _ s
  rw [if_neg (by decide)]
  refine wpAny_bind (slicePart_ pl (wpAny_bind (slicePart_ pu (wpAny_bind (wpAny_pure ?_)))))
  show wpAny _ _ (match Builtin.Slice.sliceAdjust none none (-1) (n : Int) with | (lo, hi) => pure (lo, (-1 : Int), Builtin.Slice.slicePlaces lo hi (-1))) _ _ s
  rw [adjust_rev n]
  show wpAny _ _ (pure ((n : Int) - 1, (-1 : Int), Builtin.Slice.slicePlaces ((n : Int) - 1) (-1) (-1))) _ _ s
  rw [places_rev]
  exact wpAny_pure h
theorem pick_rev (xs : Array Value) : ((List.range xs.size).filterMap fun (m : Nat) => xs[((xs.size : Int) - 1 + (m : Int) * (-1)).toNat]?).toArray = xs.toList.reverse.toArray := by
  have e : (fun (m : Nat) => xs[((xs.size : Int) - 1 + (m : Int) * (-1)).toNat]?) = fun m => xs[xs.size - 1 - m]? := by
    funext m
    have : ((xs.size : Int) - 1 + (m : Int) * (-1)).toNat = xs.size - 1 - m := by omega
    rw [this]
  rw [e]
  congr 1
  have h1 := PySem.W.krv_range xs.size
  have h2 : (List.range xs.size).filterMap (fun m => xs[xs.size - 1 - m]?) = ((List.range xs.size).map (fun k => xs.size - 1 - k)).filterMap (fun j => xs[j]?) := by rw [List.filterMap_map]; rfl
  rw [h2, h1, List.filterMap_reverse, PySem.W.krv_all]
theorem getItem_tuple_rev {t sl : Addr} {items : Array Value} {vl vu vs : Value} {Q : Value → Shared → Prop} (ht : IsTup s.heap t items) (hs : s.heap.IsSliceOf sl vl vu vs) (pl : IsPart vl none) (pu : IsPart vu none) (ps : IsPart vs (some (-1)))
    (h : Q (.ref s.heap.objs.size) { s with heap := s.heap.push { cls := .type "tuple", data := .seq items.toList.reverse.toArray } })
    (hsz : items.size ≤ sizeLine) : wpAny (model prog w) A (getItem (.ref t) (.ref sl)) Q E s := by
  have htake : sizeOk (.seq items.toList.reverse.toArray) := by
    show items.toList.reverse.toArray.size ≤ sizeLine
    rw [List.size_toArray, List.length_reverse, Array.length_toList]
    omega
  obtain ⟨os, hos, hcs, hds⟩ := id hs
  have hTs : s.TypeIs (.ref sl) "slice" := ⟨os, hos, hcs⟩
  unfold getItem
  try with_reducible refine wpAny_holding ?_
  first | refine wpAny_bind (wpAny_pure ?_) | skip
  refine wpAny_bind (wpAny_sequenceKey ht.typeIs (by decide) ?_)
  refine wpAny_bind (wpAny_callSpecial?_slot (name := Str.ofString "__getitem__") ht.typeIs PyProof.Rows.slot_tuple_getitem
    (wpAny_call_entry PyProof.Rows.slot_tuple_getitem ht.typeIs entry_tuple_getitem ?_ (args_tuple_getitem _ _)))
  show wpAny _ _ (Builtin.Tuple.tupleItemsOf (.ref t) >>= _) _ _ s
  refine wpAny_bind (tupleItemsOf_ ht ?_)
  refine wpAny_bind (wpAny_typeOf hTs ?_)
  rw [if_pos (by decide)]
  refine wpAny_bind (applied_rev (n := items.size) hs pl pu ps ?_)
  have hno : ¬ ((((items.size : Nat) : Int) - 1 == 0 && (-1 : Int) == 1 && items.size == items.size) = true) := by simp
  show wpAny _ _ (if ((((items.size : Nat) : Int) - 1 == 0 && (-1 : Int) == 1 && items.size == items.size) = true) then _ else _) _ _ s
  rw [if_neg hno, pick_rev]
  first
    | exact wpAny_bind (m := Builtin.Tuple.tupleExact _) (wpAny_newObj_type (wpAny_pure ⟨_, rfl, wpAny_pure h⟩) htake)
    | exact wpAny_bind (m := Builtin.Tuple.tupleExact _) (wpAny_newObj_type (wpAny_bind (wpAny_pure (wpAny_pure ⟨_, rfl, wpAny_pure h⟩))) htake)
    | exact wpAny_bind (wpAny_bind (m := Builtin.Tuple.tupleExact _) (wpAny_newObj_type (wpAny_pure (wpAny_pure ⟨_, rfl, wpAny_pure h⟩)) htake))
    | exact wpAny_bind (wpAny_bind (m := Builtin.Tuple.tupleExact _) (wpAny_newObj_type (wpAny_pure ⟨_, rfl, wpAny_pure h⟩) htake))
end
section
variable {X : Cx} {W : WX} {a : Expr} {ma : SemE} {pos : Pos}
def tRev2 (K : PySem.W.Frag) (te : TE) : TE := fun σ H Q => te σ H fun x H1 => ∃ a xs, x = .ref a ∧ ((SqL K H1 a xs ∧ ∀ p, H1 p = none → Q (.ref p) (upd H1 p (.lst xs.reverse))) ∨ (SqT K H1 a xs ∧ ∀ p, H1 p = none → Q (.ref p) (upd H1 p (.tup xs.reverse))))
theorem pe_rev2 {e : Expr} {te : TE} {k : Nat} {p1 p2 p3 pos : Pos} (he : PE X e te) : PE X (.Subscript e (.Slice none none (some (.UnaryOp .USub (.Constant (.int 1) k p1) p2)) p3) pos) (tRev2 X.K te) := by
  refine ⟨fun pins s σ H Q I h => ?_⟩
  refine Subscript_ (thn (he.run pins s σ H _ I h) fun v s1 ⟨x, H1, I1, r1, q1⟩ => ?_)
  obtain ⟨a, xs, ex, q1⟩ := q1
  subst ex
  cases r1
  have hst : PO X (some (.UnaryOp .USub (.Constant (.int 1) k p1) p2)) (tPart (tUn (rU fun i => .int (-i)) (tC (.int 1)))) := po_some (pe_un un_neg pe_int)
  refine wpAny_Slice (thn (po_none.run pins s1 σ H1 (fun o H2 => o = none ∧ H2 = H1) I1 ⟨rfl, rfl⟩) fun vl s2 ⟨l, H2, I2, pl, el, e2⟩ => ?_)
  subst el e2
  refine thn (po_none.run pins s2 σ H2 (fun o H3 => o = none ∧ H3 = H2) I2 ⟨rfl, rfl⟩) fun vu s3 ⟨u, H3, I3, pu, eu, e3⟩ => ?_
  subst eu e3
  refine thn (hst.run pins s3 σ H3 (fun o H4 => o = some (-1) ∧ H4 = H3) I3 ⟨1, rfl, -1, rfl, rfl, rfl⟩) fun vs s4 ⟨o, H4, I4, ps, eo, e4⟩ => ?_
  subst eo e4
  have I5 : Inv X pins σ H4 { s4 with heap := s4.heap.push { cls := .type "slice", data := .fields #[vl, vu, vs] } } := I4.kept (t' := s4.toks) fun b ob q => Heap.get?_push_of_some _ q
  show wpAny (model X.prog X.w) X.A (subscriptTail e (.Slice none none (some (.UnaryOp .USub (.Constant (.int 1) k p1) p2)) p3) (.ref a) (.ref s4.heap.objs.size)) (EP X pins σ Q) X.xe { s4 with heap := s4.heap.push { cls := .type "slice", data := .fields #[vl, vu, vs] } }
  rcases q1 with ⟨hx, q⟩ | ⟨hx, q⟩
  · obtain ⟨its, r, ht, hz⟩ := I5.list hx
    have hlen := r.length
    refine tail_any (ops := [.ref a, .ref s4.heap.objs.size]) ht.isList.typeIs (PySem.slot_list_getitem.lookup) ?_ (by with_unfolding_all rfl)
    refine wpAny_getItem_list_slice ht.isList (Heap.IsSliceOf.new _ vl vu vs) pl pu ps (by decide) ?_ (by rw [List.size_toArray]; omega)
    rw [PySem.W.krv_pick]
    refine ⟨.ref _, _, I5.laid (t' := s4.toks) (o := .lst xs.reverse) (fun b ob q => Heap.get?_push_of_some _ q) (Nat.le_refl _) ?_, rfl, q _ (I5.hok.fresh (Nat.le_refl _))⟩
    exact ⟨by rw [List.length_reverse]; exact hz, _, 0, r.reverse, Heap.get?_push_size _ rfl⟩
  · obtain ⟨its, r, ht, hz⟩ := I5.tuple hx
    have hlen := r.length
    refine tail_any (ops := [.ref a, .ref s4.heap.objs.size]) ht.typeIs (PyProof.Rows.slot_tuple_getitem.lookup) ?_ (by with_unfolding_all rfl)
    refine getItem_tuple_rev ht (Heap.IsSliceOf.new _ vl vu vs) pl pu ps ?_ (by rw [List.size_toArray]; omega)
    refine ⟨.ref _, _, I5.laid (t' := s4.toks) (o := .tup xs.reverse) (fun b ob q => Heap.get?_push_of_some _ q) (Nat.le_refl _) ?_, rfl, q _ (I5.hok.fresh (Nat.le_refl _))⟩
    exact ⟨by rw [List.length_reverse]; exact hz, _, r.reverse, IsTup.new _ _⟩
def eRev (m : SemE) : SemE := fun e => (m e).bind fun r e1 => match r.val e1 with
  | some (.list ts) => .ok (.b (.l ts.reverse)) e1
  | some (.tuple ts) => .ok (.r (.tuple ts.reverse)) e1
  | _ => .bad
theorem qrev {k : Nat} {p1 p2 p3 : Pos} (ha : QE X W a ma) : QE X W (.Subscript a (.Slice none none (some (.UnaryOp .USub (.Constant (.int 1) k p1) p2)) p3) pos) (eRev ma) := by
  refine pe_mono (pe_rev2 ha) fun σ H Q h => ?_
  obtain ⟨e, F, R, h⟩ := h
  refine tX_imp (tX_bind (rel := fun σ => OdR X.K σ) R .refl h) fun x H1 ⟨r, e1, F1, R1, S1, O1, h1⟩ => ?_
  cases q : r.val e1 with
  | none => simp only [q] at h1; exact h1.elim
  | some t =>
    have d := val_ok R1 O1 q
    cases t with
    | list ts =>
      simp only [q] at h1
      obtain ⟨p, xs, rfl, hs, dd⟩ := d
      exact ⟨p, xs, rfl, .inl ⟨hs, fun p hp => (fin_of R1 S1 h1 True.intro : Fin X.K F1 H1 Q (.b (.l _))) p _ hp (dpAll_rev dd)⟩⟩
    | tuple ts =>
      simp only [q] at h1
      cases d with
      | tup hs dd => exact ⟨_, _, rfl, .inr ⟨sqT_mono R1.sub hs, fun p hp => (fin_of R1 S1 h1 True.intro : Fin X.K F1 H1 Q (.r (.tuple _))).2 _ p _ rfl hp (dpAll_rev dd)⟩⟩
    | none => simp only [q] at h1; exact h1.elim
    | bool _ => simp only [q] at h1; exact h1.elim
    | str _ => simp only [q] at h1; exact h1.elim
    | int _ => simp only [q] at h1; exact h1.elim
    | dict _ => simp only [q] at h1; exact h1.elim
end
end Ev

set_option Elab.async false
set_option linter.all false
set_option maxRecDepth 100000
namespace Ev
open PySem PySem.Spec PyProof.Rows L2
section
variable {K : PySem.W.Frag} {W : WX} {e e1 : En} {σ : Sg} {F H : Hp}
/-- what a name alone holds is changed -/
theorem upd_own {i : Nat} {l : Bool} {z : Bx} {ts' : List T} {p : Addr} {xs' : List V} (R : Rel K e σ F H) (h1 : e[i]? = some (.ow l z)) (h2 : σ[i]? = some (some (.ref p))) (d : DpAll K F xs' ts') :
    Rel K (e.set i (.ow l (.l ts'))) σ F (upd H p (.lst xs')) ∧ Step e (e.set i (.ow l (.l ts'))) σ F H F (upd H p (.lst xs')) := by
  have hi : i < e.length := (List.getElem?_eq_some_iff.mp h1).1
  have ow : Own e σ p := ⟨i, l, z, h1, h2⟩
  have hf := (R.owned ow).1
  have get : ∀ (j : Nat) (s : Sl), (e.set i (.ow l (.l ts')))[j]? = some s → (j = i ∧ s = .ow l (.l ts')) ∨ (i ≠ j ∧ e[j]? = some s) := fun j s h => by
    by_cases q : i = j
    · subst q; rw [List.getElem?_set_self hi] at h; cases h; exact .inl ⟨rfl, rfl⟩
    · rw [List.getElem?_set_ne q] at h; exact .inr ⟨q, h⟩
  have kind : ∀ (j : Nat) (l' : Bool) (b' : Bx), (e.set i (.ow l (.l ts')))[j]? = some (.ow l' b') → ∃ b, e[j]? = some (.ow l' b) := fun j l' b' h => by
    rcases get j _ h with ⟨rfl, q⟩ | ⟨_, q⟩
    · cases q; exact ⟨z, h1⟩
    · exact ⟨b', q⟩
  refine ⟨⟨fun a o h => ?_, by simp [R.len], fun j s o g1 g2 => ?_, fun j j' l1 b1 l2 b2 q g1 g2 g3 g4 => ?_⟩, ⟨fun _ _ h => h, fun a o h n => ?_, fun a o h => ?_, fun a ⟨j, l', b', g1, g2⟩ => ?_, fun j hj => ?_, kind⟩⟩
  · rw [upd_ne (ne_of_none h hf)]; exact R.sub _ _ h
  · rcases get j s g1 with ⟨rfl, rfl⟩ | ⟨q, g⟩
    · rw [h2] at g2; cases g2; exact ⟨p, rfl, hf, xs', upd_same, d⟩
    · have w := R.at_ j s o g g2
      cases s with
      | un => trivial
      | v t => exact w
      | fz b => exact w
      | ow l' b =>
        obtain ⟨p', ep, hf', bx⟩ := w
        subst ep
        have np : p' ≠ p := fun w => by subst w; exact q (R.ne i j l z l' b p' h1 g h2 g2)
        exact ⟨p', rfl, hf', bx_keep bx (fun _ _ h => h) fun o' h' => by rw [upd_ne np]; exact h'⟩
  · obtain ⟨b1', q1⟩ := kind j _ _ g1
    obtain ⟨b2', q2⟩ := kind j' _ _ g2
    exact R.ne j j' _ _ _ _ q q1 q2 g3 g4
  · have np : a ≠ p := fun w => n (by subst w; exact ow)
    exact ⟨by rw [upd_ne np]; exact h, fun w => w⟩
  · by_cases q : a = p
    · subst q; exact ⟨_, upd_same⟩
    · exact ⟨o, by rw [upd_ne q]; exact h⟩
  · obtain ⟨b, q⟩ := kind j _ _ g1
    exact ⟨j, l', b, q, g2⟩
  · obtain ⟨b', q⟩ := hj
    by_cases ij : i = j
    · subst ij
      rw [h1] at q
      rcases q with q | q
      · cases q; exact ⟨_, .inl (List.getElem?_set_self hi)⟩
      · cases q
    · exact ⟨b', by rw [List.getElem?_set_ne ij]; exact q⟩
end
/-- a method that changes a list, met by g -/
def MutDoes (K : PySem.W.Frag) (r : V → List V → Hp → VK → Prop) (g : List T → List T → Option (List T × T)) : Prop :=
  ∀ (p : Addr) (xs vs : List V) (ts us : List T) (ts' : List T) (w : T) (F H : Hp) (Q : VK), H p = some (.lst xs) → DpAll K F xs ts → DpAll K F vs us → g ts us = some (ts', w) →
    (∀ xs' v, DpAll K F xs' ts' → Dp K F v w → Q v (upd H p (.lst xs'))) → r (.ref p) vs H Q
def eMut (i : Nat) (g : List T → List T → Option (List T × T)) (ma : SemA) : SemE := fun e => match e[i]? with
  | some (.ow _ (.l _)) => (ma e).bind fun rs e1 => (match escs rs e1 with
    | some (us, e2) => (match e2[i]? with
      | some (.ow l (.l ts)) => (match g ts us with
        | some (ts', w) => .ok (.r w) (e2.set i (.ow l (.l ts')))
        | none => .bad)
      | _ => .bad)
    | none => .bad)
  | _ => .bad
section
variable {X : Cx} {W : WX} {a b c : Expr} {ma mb mc : SemE} {pos : Pos}
theorem mut_read {K : PySem.W.Frag} {i : Nat} {r : V → List V → Hp → VK → Prop} {g : List T → List T → Option (List T × T)} {m : SemA} (hr : MutDoes K r g) {σ : Sg} {H : Hp} {Q : VK} (h : tE K W (eMut i g m) σ H Q) :
    ∃ p, σ[i]? = some (some (.ref p)) ∧ (∃ xs, SqL K H p xs) ∧ tA K W m σ H fun vs H2 => r (.ref p) vs H2 Q := by
  obtain ⟨e, F, R, h⟩ := h
  simp only [eMut] at h
  cases q : e[i]? with
  | none => rw [q] at h; exact h.elim
  | some s =>
    rw [q] at h
    cases s with
    | un => exact h.elim
    | v _ => exact h.elim
    | fz _ => exact h.elim
    | ow l z =>
      cases z with
      | d _ => exact h.elim
      | l ts0 =>
        simp only at h
        obtain ⟨o, hs, p, ep, hf, xs0, hx0, d0⟩ := R.var q
        subst ep
        refine ⟨p, hs, ⟨xs0, SqL.of hx0⟩, ?_⟩
        refine tX_imp (tX_bind (rel := fun σ Hs F H xs rs => OdsR K σ Hs F H rs xs) R .refl h) fun vs H1 ⟨rs, e1, F1, R1, S1, O1, h1⟩ => ?_
        cases q1 : escs rs e1 with
        | none => simp only [q1] at h1; exact h1.elim
        | some te =>
          obtain ⟨us, e2⟩ := te
          simp only [q1] at h1
          obtain ⟨F2, R2, S2, d2, _⟩ := escs_ok R R1 S1 O1 q1
          cases q2 : e2[i]? with
          | none => rw [q2] at h1; exact h1.elim
          | some s2 =>
            rw [q2] at h1
            cases s2 with
            | un => exact h1.elim
            | v _ => exact h1.elim
            | fz _ => exact h1.elim
            | ow l2 z2 =>
              cases z2 with
              | d _ => exact h1.elim
              | l ts =>
                simp only at h1
                obtain ⟨p', ep, hf2, xs, hx, d⟩ := R2.at_ i _ _ q2 hs
                cases ep
                cases q3 : g ts us with
                | none => rw [q3] at h1; exact h1.elim
                | some tw =>
                  obtain ⟨ts', w⟩ := tw
                  rw [q3] at h1
                  refine hr p xs vs ts us ts' w F2 H1 Q hx d d2 q3 fun xs' v d' dw => ?_
                  obtain ⟨R3, S3⟩ := upd_own R2 q2 hs d'
                  exact h1 v F2 _ R3 (S2.trans S3) dw
theorem qmeth {i : Nat} {x name : Str} {p apos cpos : Pos} {id : String} {r : V → List V → Hp → VK → Prop} {g : List T → List T → Option (List T × T)} {m : SemA} {es : List Expr} (slot : Slot "list" name id) (hty : typeOf (.builtin id) = pure (.type "method_descriptor")) (hm : MtR X id r) (hr : MutDoes X.K r g)
    (hN : X.N[i]? = some x) (hv : Vis X.env.scope x) (ha : QA X W (a :: es) m) (hd : (x == ("__debug__" : Str)) = false := by decide) (hcd : (x == ("__classdict__" : Str)) = false := by decide)
    (hbase : attributeBase (.Name x p) name X.env (eval (.Name x p) X.env) = eval (.Name x p) X.env := by rfl)
    (hfew : ((backTo cpos (starEach (a :: es) X.env)).all (fun x => !x.1) && (backToKw cpos (keywordEach [] X.env)).all (fun x => x.1.isSome)
      && decide ((a :: es).length + ([] : List Keyword).length + (if ([] : List Keyword).isEmpty then 0 else 1) < 30)) = true := by rfl)
    (hline : (apos.endLine == cpos.line) = true := by rfl) (hs : starEach (a :: es) X.env = (false, eval a X.env) :: starEach es X.env := by rfl) (hplain : (backTo cpos (starEach es X.env)).any (·.1) = false := by rfl) :
    QE X W (.Call (.Attribute (.Name x p) name apos) (a :: es) [] cpos) (eMut i g m) :=
  pe_mono (pe_bm PySem.F.plainAttrs_list slot hty hm (pe_var hN hv hd hcd) ha hbase hfew hline hs hplain) fun σ H Q h => by
    obtain ⟨p, hs, hl, h⟩ := mut_read hr h
    exact ⟨_, hs, .inl ⟨rfl, hl⟩, h⟩
theorem qmeth0 {i : Nat} {x name : Str} {p apos cpos : Pos} {id : String} {r : V → List V → Hp → VK → Prop} {g : List T → List T → Option (List T × T)} (slot : Slot "list" name id) (hty : typeOf (.builtin id) = pure (.type "method_descriptor")) (hm : MtR X id r) (hr : MutDoes X.K r g)
    (hN : X.N[i]? = some x) (hv : Vis X.env.scope x) (hd : (x == ("__debug__" : Str)) = false := by decide) (hcd : (x == ("__classdict__" : Str)) = false := by decide)
    (hbase : attributeBase (.Name x p) name X.env (eval (.Name x p) X.env) = eval (.Name x p) X.env := by rfl) (hline : (apos.endLine == cpos.line) = true := by rfl) :
    QE X W (.Call (.Attribute (.Name x p) name apos) [] [] cpos) (eMut i g aNil) :=
  pe_mono (pe_bm0 PySem.F.plainAttrs_list slot hty hm (pe_var hN hv hd hcd) hbase hline) fun σ H Q h => by
    obtain ⟨p, hs, hl, h⟩ := mut_read hr h
    refine ⟨_, hs, .inl ⟨rfl, hl⟩, ?_⟩
    obtain ⟨e, F, R, h⟩ := h
    exact h [] F H R .refl .nil
/-! ### the methods -/
def gAppend (ts us : List T) : Option (List T × T) := match us with
  | [u] => if ts.length < sizeLine then some (ts ++ [u], .none) else none
  | _ => none
theorem does_append {K : PySem.W.Frag} : MutDoes K rAppend gAppend := by
  intro p xs vs ts us ts' w F H Q hx d dv hg q
  cases dv with
  | nil => cases hg
  | cons a dv =>
    cases dv with
    | cons _ _ => cases hg
    | nil =>
      simp only [gAppend] at hg
      split at hg
      · rename_i hl; cases hg
        exact ⟨p, xs, _, rfl, rfl, hx, by rw [dpAll_len d]; exact hl, q _ _ (dpAll_app d (.cons a .nil)) .non⟩
      · cases hg
def gInsert (ts us : List T) : Option (List T × T) := match us with
  | [.int i, u] => if ts.length < sizeLine ∧ 0 ≤ i ∧ i < 2 ^ 63 then some (ts.take i.toNat ++ [u] ++ ts.drop i.toNat, .none) else none
  | _ => none
theorem does_insert {K : PySem.W.Frag} : MutDoes K (fun x vs H Q => ∃ (l : Addr) (xs : List V) (i : Int) (y : V), x = .ref l ∧ vs = [.int i, y] ∧ H l = some (.lst xs) ∧ xs.length < sizeLine ∧ 0 ≤ i ∧ i < 2 ^ 63 ∧
    Q .non (upd H l (.lst (xs.take i.toNat ++ [y] ++ xs.drop i.toNat)))) gInsert := by
  intro p xs vs ts us ts' w F H Q hx d dv hg q
  cases dv with
  | nil => cases hg
  | cons a dv =>
    cases dv with
    | nil => cases a <;> cases hg
    | cons b dv =>
      cases dv with
      | cons _ _ => cases a <;> cases hg
      | nil =>
        cases a with
        | int i =>
          simp only [gInsert] at hg
          split at hg
          · rename_i hl; cases hg
            exact ⟨p, xs, i, _, rfl, rfl, hx, by rw [dpAll_len d]; exact hl.1, hl.2.1, hl.2.2, q _ _ (dpAll_app (dpAll_app (dpAll_take _ d) (.cons b .nil)) (dpAll_drop _ d)) .non⟩
          · cases hg
        | _ => cases hg
def gPop0 (ts us : List T) : Option (List T × T) := match us with
  | [] => (match ts[ts.length - 1]? with
    | some t => some (ts.dropLast, t)
    | none => none)
  | _ => none
theorem dpAll_dropLast {K : PySem.W.Frag} {F : Hp} {ts : List T} {vs : List V} (d : DpAll K F vs ts) : DpAll K F vs.dropLast ts.dropLast := by
  rw [List.dropLast_eq_take, List.dropLast_eq_take, dpAll_len d]
  exact dpAll_take _ d
theorem does_pop0 {K : PySem.W.Frag} : MutDoes K rPop gPop0 := by
  intro p xs vs ts us ts' w F H Q hx d dv hg q
  cases us with
  | cons _ _ => cases hg
  | nil =>
    cases dv
    simp only [gPop0] at hg
    cases e : ts[ts.length - 1]? with
    | none => rw [e] at hg; cases hg
    | some t =>
      rw [e] at hg; cases hg
      obtain ⟨v, hv, dv⟩ := dpAll_get d e
      exact ⟨p, xs, v, rfl, rfl, hx, by rw [dpAll_len d]; exact hv, q _ _ (dpAll_dropLast d) dv⟩
theorem dpAll_erase {K : PySem.W.Frag} {F : Hp} {ts : List T} {vs : List V} (k : Nat) (d : DpAll K F vs ts) : DpAll K F (vs.eraseIdx k) (ts.eraseIdx k) := by
  rw [List.eraseIdx_eq_take_drop_succ, List.eraseIdx_eq_take_drop_succ]
  exact dpAll_app (dpAll_take _ d) (dpAll_drop _ d)
def gPop (ts us : List T) : Option (List T × T) := match us with
  | [.int i] => if -(2 ^ 63) ≤ i ∧ i < 2 ^ 63 then (match seqIndex? i ts.length with
    | some k => (match ts[k]? with
      | some t => some (ts.eraseIdx k, t)
      | none => none)
    | none => none) else none
  | _ => none
theorem does_pop {K : PySem.W.Frag} : MutDoes K rPopAt gPop := by
  intro p xs vs ts us ts' w F H Q hx d dv hg q
  cases dv with
  | nil => cases hg
  | cons a dv =>
    cases dv with
    | cons _ _ => cases a <;> cases hg
    | nil =>
      cases a with
      | int i =>
        simp only [gPop] at hg
        split at hg
        · rename_i hl
          cases e : seqIndex? i ts.length with
          | none => rw [e] at hg; cases hg
          | some k =>
            simp only [e] at hg
            cases e2 : ts[k]? with
            | none => rw [e2] at hg; cases hg
            | some t =>
              rw [e2] at hg; cases hg
              obtain ⟨v, hv, dv⟩ := dpAll_get d e2
              exact ⟨p, xs, i, k, v, rfl, rfl, hx, hl.1, hl.2, by rw [dpAll_len d]; exact e, hv, q _ _ (dpAll_erase _ d) dv⟩
        · cases hg
      | _ => cases hg
def gReverse (ts us : List T) : Option (List T × T) := match us with
  | [] => some (ts.reverse, .none)
  | _ => none
theorem does_reverse {K : PySem.W.Frag} : MutDoes K rReverse gReverse := by
  intro p xs vs ts us ts' w F H Q hx d dv hg q
  cases us with
  | cons _ _ => cases hg
  | nil => cases dv; cases hg; exact ⟨p, xs, rfl, rfl, hx, q _ _ (dpAll_rev d) .non⟩
/-- xs[i] = v -/
def gSetIx (ts us : List T) : Option (List T × T) := match us with
  | [.int i, u] => (match ixN ts.length i with
    | some k => some (ts.set k u, .none)
    | none => none)
  | _ => none
/-! ### built-ins -/
theorem callr_or {f : Value} {r r' : List V → Hp → VK → Prop} (h : CallR X f r) (h' : CallR X f r') : CallR X f (fun x H Q => r x H Q ∨ r' x H Q) := by
  intro pins s σ H xs us Q I r q
  rcases q with q | q
  · exact h pins s σ H xs us Q I r q
  · exact h' pins s σ H xs us Q I r q
end
/-- of one value; of two -/
def g1 (f : T → Option Od) : List T → Option Od
  | [t] => f t
  | _ => none
def g2 (f : T → T → Option Od) : List T → Option Od
  | [t, u] => f t u
  | _ => none
theorem doesN1 {K : PySem.W.Frag} {r : List V → Hp → VK → Prop} {f : T → Option Od} (h : ∀ (x : V) (t : T) (w : Od) (F H : Hp) (Q : VK), (∀ a o, F a = some o → H a = some o) → DpO K F H x t → f t = some w → Back w ∧ (Fin K F H Q w → r [x] H Q)) : DoesN K r (g1 f) := by
  intro xs ts w F H Q ff d hg
  cases d with
  | nil => cases hg
  | cons a d =>
    cases d with
    | nil => exact h _ _ w F H Q ff a hg
    | cons _ _ => cases hg
theorem doesN2 {K : PySem.W.Frag} {r : List V → Hp → VK → Prop} {f : T → T → Option Od} (h : ∀ (x y : V) (t u : T) (w : Od) (F H : Hp) (Q : VK), (∀ a o, F a = some o → H a = some o) → DpO K F H x t → DpO K F H y u → f t u = some w → Back w ∧ (Fin K F H Q w → r [x, y] H Q)) : DoesN K r (g2 f) := by
  intro xs ts w F H Q ff d hg
  cases d with
  | nil => cases hg
  | cons a d =>
    cases d with
    | nil => cases hg
    | cons b d =>
      cases d with
      | nil => exact h _ _ _ _ w F H Q ff a b hg
      | cons _ _ => cases hg
def fLen : T → Option Od
  | .list ts => some (.r (.int ts.length))
  | .tuple ts => some (.r (.int ts.length))
  | _ => none
abbrev gLen := g1 fLen
def rLen2 (K : PySem.W.Frag) : List V → Hp → VK → Prop := fun xs H Q => ∃ p ys, xs = [.ref p] ∧ (SqL K H p ys ∨ SqT K H p ys) ∧ Q (.int ys.length) H
theorem does_len {K : PySem.W.Frag} : DoesN K (rLen2 K) gLen := doesN1 fun x t w F H Q ff d hg => by
  cases t with
  | list ts =>
    cases hg
    obtain ⟨p, ys, rfl, h, dd⟩ := d
    exact ⟨trivial, fun q => ⟨p, ys, rfl, .inl h, by rw [dpAll_len dd]; exact q.1 _ (.int _)⟩⟩
  | tuple ts =>
    cases hg
    cases d with
    | tup h dd => exact ⟨trivial, fun q => ⟨_, _, rfl, .inr (sqT_mono ff h), by rw [dpAll_len dd]; exact q.1 _ (.int _)⟩⟩
  | _ => cases hg
def fInt : T → Option Od
  | .int i => some (.r (.int i))
  | .bool k => some (.r (.int (if k then 1 else 0)))
  | _ => none
abbrev gInt := g1 fInt
theorem does_int {K : PySem.W.Frag} : DoesN K (fun xs H Q => (∃ i, xs = [.int i] ∧ Q (.int i) H) ∨ ∃ k, xs = [.bl k] ∧ Q (.int (if k then 1 else 0)) H) gInt := doesN1 fun x t w F H Q ff d hg => by
  cases t with
  | int i => cases hg; cases d; exact ⟨trivial, fun q => .inl ⟨i, rfl, q.1 _ (.int _)⟩⟩
  | bool i => cases hg; cases d; exact ⟨trivial, fun q => .inr ⟨i, rfl, q.1 _ (.int _)⟩⟩
  | _ => cases hg
def fAbs : T → Option Od
  | .int i => some (.r (.int (if i < 0 then -i else i)))
  | _ => none
abbrev gAbs := g1 fAbs
theorem does_abs {K : PySem.W.Frag} : DoesN K (fun xs H Q => ∃ i, xs = [.int i] ∧ Q (.int (if i < 0 then -i else i)) H) gAbs := doesN1 fun x t w F H Q ff d hg => by
  cases t with
  | int i => cases hg; cases d; exact ⟨trivial, fun q => ⟨i, rfl, q.1 _ (.int _)⟩⟩
  | _ => cases hg
def f2I (c : Int → Int → Bool) (g : Int → Int → T) : T → T → Option Od := gII c g
abbrev gMax2 := g2 (gII (fun _ _ => true) fun i j => .int (if j > i then j else i))
abbrev gMin2 := g2 (gII (fun _ _ => true) fun i j => .int (if j < i then j else i))
theorem does2I {K : PySem.W.Frag} {c : Int → Int → Bool} {g : Int → Int → Int} : DoesN K (fun xs H Q => ∃ i j, xs = [.int i, .int j] ∧ Q (.int (g i j)) H) (g2 (gII c fun i j => .int (g i j))) := doesN2 fun x y t u w F H Q ff d d' hg => by
  cases t with
  | int i =>
    cases u with
    | int j =>
      simp only [gII] at hg
      split at hg
      · cases hg; cases d; cases d'; exact ⟨trivial, fun q => ⟨i, j, rfl, q.1 _ (.int _)⟩⟩
      · cases hg
    | _ => cases hg
  | _ => cases hg
theorem does_max2 {K : PySem.W.Frag} : DoesN K (fun xs H Q => ∃ i j, xs = [.int i, .int j] ∧ Q (.int (if j > i then j else i)) H) gMax2 := does2I
theorem does_min2 {K : PySem.W.Frag} : DoesN K (fun xs H Q => ∃ i j, xs = [.int i, .int j] ∧ Q (.int (if j < i then j else i)) H) gMin2 := does2I
abbrev gDivmod := g2 (gII (fun _ j => decide (0 < j ∧ j < 1073741824)) fun i j => .tuple [.int (i / j), .int (i % j)])
theorem does_divmod {K : PySem.W.Frag} : DoesN K (fun xs H Q => ∃ i j, xs = [.int i, .int j] ∧ CDiv i j ∧ ∀ p, H p = none → Q (.ref p) (upd H p (.tup [.int (i / j), .int (i % j)]))) gDivmod := doesN2 fun x y t u w F H Q ff d d' hg => by
  cases t with
  | int i =>
    cases u with
    | int j =>
      simp only [gII] at hg
      split at hg
      · rename_i hl
        cases hg; cases d; cases d'
        exact ⟨trivial, fun q => ⟨i, j, rfl, of_decide_eq_true (p := 0 < j ∧ j < 1073741824) hl, fun p hp => q.2 _ p _ rfl hp (.cons (.int _) (.cons (.int _) .nil))⟩⟩
      · cases hg
    | _ => cases hg
  | _ => cases hg
def fTuple : T → Option Od
  | .list ts => some (.r (.tuple ts))
  | .tuple ts => some (.r (.tuple ts))
  | _ => none
abbrev gTuple := g1 fTuple
theorem does_tuple {K : PySem.W.Frag} : DoesN K (fun xs H Q => ∃ p ys, xs = [.ref p] ∧ ((SqL K H p ys ∧ ∀ l, H l = none → Q (.ref l) (upd H l (.tup ys))) ∨ (SqT K H p ys ∧ Q (.ref p) H))) gTuple := doesN1 fun x t w F H Q ff d hg => by
  cases t with
  | list ts =>
    cases hg
    obtain ⟨p, ys, rfl, h, dd⟩ := d
    exact ⟨trivial, fun q => ⟨p, ys, rfl, .inl ⟨h, fun l hl => q.2 _ l _ rfl hl dd⟩⟩⟩
  | tuple ts =>
    cases hg
    have a0 : Dp K F x (.tuple ts) := d
    cases d with
    | tup h dd => exact ⟨trivial, fun q => ⟨_, _, rfl, .inr ⟨sqT_mono ff h, q.1 _ a0⟩⟩⟩
  | _ => cases hg
def fList : T → Option Od
  | .list ts => some (.b (.l ts))
  | .tuple ts => some (.b (.l ts))
  | _ => none
abbrev gList := g1 fList
theorem does_list {K : PySem.W.Frag} : DoesN K (fun xs H Q => ∃ p ys, xs = [.ref p] ∧ (SqL K H p ys ∨ SqT K H p ys) ∧ ∀ l, H l = none → Q (.ref l) (upd H l (.lst ys))) gList := doesN1 fun x t w F H Q ff d hg => by
  cases t with
  | list ts =>
    cases hg
    obtain ⟨p, ys, rfl, h, dd⟩ := d
    exact ⟨trivial, fun q => ⟨p, ys, rfl, .inl h, fun l hl => q l _ hl dd⟩⟩
  | tuple ts =>
    cases hg
    cases d with
    | tup h dd => exact ⟨trivial, fun q => ⟨_, _, rfl, .inr (sqT_mono ff h), fun l hl => q l _ hl dd⟩⟩
  | _ => cases hg
/-- the truths of a list -/
def bools : List T → Option (List Bool)
  | [] => some []
  | .bool b :: ts => (bools ts).map (b :: ·)
  | _ => none
theorem bools_dp {K : PySem.W.Frag} {F : Hp} : ∀ {ts : List T} {xs : List V} {bs : List Bool}, DpAll K F xs ts → bools ts = some bs → xs = bs.map V.bl
  | [], _, _, d, h => by cases d; cases h; rfl
  | t :: ts, _, _, d, h => by
    cases d with
    | cons a d =>
      cases t with
      | bool b =>
        cases a
        simp only [bools] at h
        cases q : bools ts with
        | none => rw [q] at h; cases h
        | some bs => rw [q] at h; cases h; rw [bools_dp d q]; rfl
      | _ => cases h
def fAll (k : List Bool → Bool) : T → Option Od
  | .list ts => (bools ts).map fun bs => .r (.bool (k bs))
  | _ => none
abbrev gAll := g1 (fAll fun bs => bs.all id)
abbrev gAny := g1 (fAll fun bs => bs.any id)
theorem doesBs {K : PySem.W.Frag} {k : List Bool → Bool} : DoesN K (fun vs H Q => ∃ (a : Addr) (bs : List Bool), vs = [V.ref a] ∧ SqL K H a (bs.map V.bl) ∧ Q (.bl (k bs)) H) (g1 (fAll k)) := doesN1 fun x t w F H Q ff d hg => by
  cases t with
  | list ts =>
    simp only [fAll] at hg
    cases q : bools ts with
    | none => rw [q] at hg; cases hg
    | some bs =>
      rw [q] at hg; cases hg
      obtain ⟨p, ys, rfl, h, dd⟩ := d
      refine ⟨trivial, fun k => ⟨p, bs, rfl, ?_, k.1 _ (.bl _)⟩⟩
      rw [← bools_dp dd q]; exact h
  | _ => cases hg
theorem does_all {K : PySem.W.Frag} : DoesN K (rAll K) gAll := doesBs
theorem does_any {K : PySem.W.Frag} : DoesN K (rAny K) gAny := doesBs
end Ev

set_option Elab.async false
set_option linter.all false
set_option maxRecDepth 100000
namespace Ev
open PySem PySem.Spec PyProof.Rows L2
section
variable {K : PySem.W.Frag} {W : WX} {B : Bd} {e e1 e2 : En} {σ σ1 : Sg} {F H F1 H1 F2 H2 : Hp}
theorem BOk.up (k : BOk B e σ F H) : BOk { B with F := F } e σ F H :=
  ⟨fun _ _ h => h, fun a o h n => ⟨(k.keep a o h n).1, fun z => z⟩, k.dom, k.fresh, k.own, k.lent⟩
theorem BOk.down (k1 : BOk B e1 σ1 F1 H1) (k : BOk { B with F := F1 } e σ F H) : BOk B e σ F H where
  ff := fun a o h => k.ff _ _ (k1.ff _ _ h)
  keep := fun a o h n => ⟨(k.keep a o h n).1, fun z => (k.keep a o h n).2 ((k1.keep a o h n).2 z)⟩
  dom := k.dom
  fresh := k.fresh
  own := k.own
  lent := k.lent
/-! ### targets -/
/-- slots apart from ws stay -/
def Agree (ws : List Nat) (σ σ' : Sg) : Prop := σ'.length = σ.length ∧ ∀ j, j ∉ ws → σ'[j]? = σ[j]?
theorem Agree.refl {ws : List Nat} : Agree ws σ σ := ⟨rfl, fun _ _ => rfl⟩
theorem Agree.trans {ws : List Nat} {σ2 : Sg} (a : Agree ws σ σ1) (b : Agree ws σ1 σ2) : Agree ws σ σ2 := ⟨b.1.trans a.1, fun j h => (b.2 j h).trans (a.2 j h)⟩
abbrev SemG := T → En → Option En
def tG (K : PySem.W.Frag) (B : Bd) (ws : List Nat) (g : SemG) : TG := fun x σ H Q => ∃ e F t e', Rel K e σ F H ∧ BOk B e σ F H ∧ Dp K F x t ∧ g t e = some e' ∧ ∀ σ', Rel K e' σ' F H → BOk B e' σ' F H → Agree ws σ σ' → Q σ' H
theorem pg_mono {X : Cx} {tg : Expr} {t t' : TG} (h : PG X tg t) (m : ∀ x σ H Q, t' x σ H Q → t x σ H Q) : PG X tg t' := ⟨fun pins s σ H v u Q I r q => h.run pins s σ H v u Q I r (m v σ H Q q)⟩
abbrev QG (X : Cx) (B : Bd) (ws : List Nat) (tg : Expr) (g : SemG) : Prop := PG X tg (tG X.K B ws g)
def gN (i : Nat) : SemG := fun t e => if isLent e i then none else some (e.set i (.v t))
theorem qgn {X : Cx} {ws : List Nat} {i : Nat} {x : Str} {pos : Pos} (hN : X.N.Nodup) (hi : X.N[i]? = some x) (hx : Loc X.env.scope x) (hw : i ∈ ws) (hf : X.fn x = true ∨ X.env.scope.names.lookup x = some .local := by first | exact .inl rfl | exact .inr rfl | assumption) : QG X B ws (.Name x pos) (gN i) := by
  refine pg_mono (pg_name hN hi hx hf) fun x σ H Q h => ?_
  obtain ⟨e, F, t, e', R, k, d, hg, q⟩ := h
  simp only [gN] at hg
  cases l : isLent e i with
  | true => rw [l] at hg; cases hg
  | false =>
    rw [l] at hg; cases hg
    obtain ⟨a, b⟩ := set_v R k d (isLent_no l)
    exact q _ a b ⟨by simp, fun j hj => List.getElem?_set_ne fun (z : i = j) => hj (by rw [← z]; exact hw)⟩
abbrev SemGs := List T → En → Option En
def tGs (K : PySem.W.Frag) (B : Bd) (ws : List Nat) (g : SemGs) : TGs := fun xs σ H Q => ∃ e F ts e', Rel K e σ F H ∧ BOk B e σ F H ∧ DpAll K F xs ts ∧ g ts e = some e' ∧ ∀ σ', Rel K e' σ' F H → BOk B e' σ' F H → Agree ws σ σ' → Q σ' H
theorem pgs_mono {X : Cx} {tg : List Expr} {t t' : TGs} (h : PGs X tg t) (m : ∀ x σ H Q, t' x σ H Q → t x σ H Q) : PGs X tg t' := ⟨fun pins s σ H v u Q I r q => h.run pins s σ H v u Q I r (m v σ H Q q)⟩
abbrev QGs (X : Cx) (B : Bd) (ws : List Nat) (tg : List Expr) (g : SemGs) : Prop := PGs X tg (tGs X.K B ws g)
def gsNil : SemGs := fun ts e => match ts with
  | [] => some e
  | _ => none
def gsCons (g : SemG) (gs : SemGs) : SemGs := fun ts e => match ts with
  | t :: ts => (match g t e with
    | some e1 => gs ts e1
    | none => none)
  | [] => none
theorem qgsnil {X : Cx} {ws : List Nat} : QGs X B ws [] gsNil := by
  refine pgs_mono pgs_nil fun xs σ H Q h => ?_
  obtain ⟨e, F, ts, e', R, k, d, hg, q⟩ := h
  cases ts with
  | nil => cases d; cases hg; exact ⟨rfl, q _ R k .refl⟩
  | cons _ _ => cases hg
theorem qgscons {X : Cx} {ws : List Nat} {tg : Expr} {tgs : List Expr} {g : SemG} {gs : SemGs} (h1 : QG X B ws tg g) (h2 : QGs X B ws tgs gs)
    (hs : (assignEach (tg :: tgs) X.env).map (·.2) = assign tg X.env :: (assignEach tgs X.env).map (·.2) := by rfl) : QGs X B ws (tg :: tgs) (gsCons g gs) := by
  refine pgs_mono (pgs_cons h1 h2 hs) fun xs σ H Q h => ?_
  obtain ⟨e, F, ts, e', R, k, d, hg, q⟩ := h
  cases ts with
  | nil => cases hg
  | cons t ts =>
    cases d with
    | cons a b =>
      simp only [gsCons] at hg
      cases q1 : g t e with
      | none => rw [q1] at hg; cases hg
      | some e1 =>
        rw [q1] at hg
        exact ⟨_, _, rfl, e, F, t, e1, R, k, a, q1, fun σ' R' k' ag => ⟨e1, F, ts, e', R', k', b, hg, fun σ2 R2 k2 ag2 => q σ2 R2 k2 (ag.trans ag2)⟩⟩
def gT (n : Nat) (gs : SemGs) : SemG := fun t e => match t with
  | .tuple ts => if ts.length = n then gs ts e else none
  | _ => none
theorem qgt {X : Cx} {ws : List Nat} {es : List Expr} {k : Nat} {pos : Pos} {gs : SemGs} {n : Nat} (hc : X.calm = true) (h : QGs X B ws es gs)
    (hn : (assignEach es X.env).length = n := by rfl) (hst : (assignEach es X.env).findIdx? (·.1) = none := by rfl) : QG X B ws (.Tuple es k pos) (gT n gs) := by
  refine pg_mono (pg_tup hc h hn hst) fun x σ H Q h => ?_
  obtain ⟨e, F, t, e', R, k, d, hg, q⟩ := h
  cases t with
  | tuple ts =>
    simp only [gT] at hg
    split at hg
    · rename_i hl
      cases d with
      | tup hs dd => exact ⟨_, _, rfl, sqT_mono R.sub hs, by rw [dpAll_len dd]; exact hl, e, F, ts, e', R, k, dd, hg, q⟩
    · cases hg
  | _ => cases hg
/-- target = value -/
def sAsg (g : SemG) (m : SemE) : SemS := fun e => (m e).bind fun r e1 => match esc r e1 with
  | some (t, e2) => (match g t e2 with
    | some e3 => .ok .nx e3
    | none => .bad)
  | none => .bad
theorem qasg {X : Cx} {ws : List Nat} {tg a : Expr} {pos : Pos} {g : SemG} {ma : SemE} (he : QE X W a ma) (hg : QG X B ws tg g) (hs : swapsWithSole [tg] a pos.line X.env = pure false := by rfl) (hw : swappedStores [tg] a X.env = pure none := by rfl)
    (h1 : (assignEach [tg] X.env).map (·.2) = [assign tg X.env] := by rfl) : QS X W B (.Assign [tg] a pos) (sAsg g ma) := by
  refine ps_mono (ps_asg he hg hs hw h1) fun D σ H h => ?_
  obtain ⟨e, F, R, k, h⟩ := h
  refine tX_imp (tS_bind (rel := fun σ => OdR X.K σ) R k h) fun x H1 ⟨r, e1, F1, R1, S1, k1, O, h2⟩ => ?_
  cases q : esc r e1 with
  | none => simp only [q] at h2; exact h2.elim
  | some te =>
    obtain ⟨t, e2⟩ := te
    simp only [q] at h2
    obtain ⟨F2, R2, S2, d, _⟩ := esc_ok R R1 S1 O q
    cases q2 : g t e2 with
    | none => simp only [q2] at h2; exact h2.elim
    | some e3 =>
      simp only [q2] at h2
      exact ⟨e2, F2, t, e3, R2, k.step S2, d, q2, fun σ' R' k' _ => h2 σ' F2 _ R' k'⟩
/-! ### what a loop walks -/
def Wk (K : PySem.W.Frag) (F0 : Hp) (J : It) (ts : List T) : Prop := ∀ (i : Nat) (F H : Hp), (∀ a o, F0 a = some o → F a = some o) → (∀ a o, F a = some o → H a = some o) →
  (∀ t, ts[i]? = some t → J.go i H ∧ ∀ x H', J.yld i H x H' → (H' = H ∧ Dp K F x t) ∨ ∃ p vs ws, x = .ref p ∧ H p = none ∧ H' = upd H p (.tup vs) ∧ t = .tuple ws ∧ DpAll K F vs ws) ∧ (ts.length ≤ i → J.stop i H)
abbrev SemI := En → Out (List T)
theorem pi_mono {X : Cx} {tg it : Expr} {t t' : TI} (h : PI X tg it t) (m : ∀ σ H Q, t' σ H Q → t σ H Q) : PI X tg it t' := ⟨fun pins s σ H Q I q => h.run pins s σ H Q I (m σ H Q q)⟩
abbrev tI (K : PySem.W.Frag) (W : WX) (m : SemI) : TI := tX K W (fun _ _ F _ J ts => Wk K F J ts) m
abbrev QI (X : Cx) (W : WX) (tg it : Expr) (m : SemI) : Prop := PI X tg it (tI X.K W m)
theorem wk_list {F : Hp} {a : Addr} {xs : List V} {ts : List T} (h : SqL K F a xs) (d : DpAll K F xs ts) : Wk K F (Itl K a) ts := by
  intro i F' H ff fh
  have hF : SqL K F' a xs := sqL_mono ff h
  have hH : SqL K H a xs := sqL_mono fh hF
  refine ⟨fun t ht => ?_, fun hi => ⟨xs, hH, by rw [dpAll_len d]; exact hi⟩⟩
  obtain ⟨v, hv, dv⟩ := dpAll_get d ht
  refine ⟨⟨xs, v, hH, hv⟩, fun x H' ⟨eH, y⟩ => .inl ⟨eH, ?_⟩⟩
  have := y xs hH
  rw [hv] at this; cases this
  exact dp_mono ff _ _ dv
theorem wk_tup {F : Hp} {a : Addr} {xs : List V} {ts : List T} (h : SqT K F a xs) (d : DpAll K F xs ts) : Wk K F (Itt K a) ts := by
  intro i F' H ff fh
  have hF : SqT K F' a xs := sqT_mono ff h
  have hH : SqT K H a xs := sqT_mono fh hF
  refine ⟨fun t ht => ?_, fun hi => ⟨xs, hH, by rw [dpAll_len d]; exact hi⟩⟩
  obtain ⟨v, hv, dv⟩ := dpAll_get d ht
  refine ⟨⟨xs, v, hH, hv⟩, fun x H' ⟨eH, y⟩ => .inl ⟨eH, ?_⟩⟩
  have := y xs hH
  rw [hv] at this; cases this
  exact dp_mono ff _ _ dv
def iSeq (K : PySem.W.Frag) (tl : TE) : TI := fun σ H R => tl σ H fun x H1 => ∃ a, x = .ref a ∧ (((∃ xs, SqL K H1 a xs) ∧ R (Itl K a) H1) ∨ ((∃ xs, SqT K H1 a xs) ∧ R (Itt K a) H1))
theorem pi_seq {X : Cx} {tg l : Expr} {tl : TE} (hl : PE X l tl) : PI X tg l (iSeq X.K tl) := by
  refine ⟨fun pins s σ H R I h => ?_⟩
  refine thn (hl.run pins s σ H _ I h) fun v s1 ⟨x, H1, I1, r1, q1⟩ => ?_
  obtain ⟨a, e, q⟩ := q1
  subst e
  cases r1
  have fp : ∀ b ∈ [s1.heap.objs.size], FpOk X pins H1 b := fun b hb => by
    have e : b = s1.heap.objs.size := by simpa using hb
    subst e
    exact I1.fpOk (Nat.le_refl _) (I1.hok.fresh (Nat.le_refl _))
  rcases q with ⟨⟨xs, hq⟩, q⟩ | ⟨⟨xs, hq⟩, q⟩
  · obtain ⟨its, rv, p, hz⟩ := I1.list hq
    refine wpAny_pyIter_list p.isList ?_
    exact ⟨s1.heap.objs.size, [s1.heap.objs.size], _, _, H1, rfl, I1.kept (t' := s1.toks) fun b o e => Heap.get?_push_of_some _ e, turn_list a _, ⟨_, Heap.get?_push_size _ rfl, rfl, rfl⟩, fp, q⟩
  · obtain ⟨its, rv, p, hz⟩ := I1.tuple hq
    refine wpAny_pyIter_tuple (show s1.heap.IsTuple a its.toArray from p) ?_
    exact ⟨s1.heap.objs.size, [s1.heap.objs.size], _, _, H1, rfl, I1.kept (t' := s1.toks) fun b o e => Heap.get?_push_of_some _ e, turn_tuple a _, ⟨_, Heap.get?_push_size _ rfl, rfl, rfl⟩, fp, q⟩
/-- the items of a list, of a tuple -/
def iOf (m : SemE) : SemI := fun e => (m e).bind fun r e1 => match esc r e1 with
  | some (.list ts, e2) => .ok ts e2
  | some (.tuple ts, e2) => .ok ts e2
  | _ => .bad
theorem qiof {X : Cx} {tg a : Expr} {ma : SemE} (ha : QE X W a ma) : QI X W tg a (iOf ma) := by
  refine pi_mono (pi_seq ha) fun σ H Q h => ?_
  obtain ⟨e, F, R, h⟩ := h
  refine tX_imp (tX_bind (rel := fun σ => OdR X.K σ) R .refl h) fun x H1 ⟨r, e1, F1, R1, S1, O, h2⟩ => ?_
  cases q : esc r e1 with
  | none => simp only [q] at h2; exact h2.elim
  | some te =>
    obtain ⟨t, e2⟩ := te
    obtain ⟨F2, R2, S2, d, _⟩ := esc_ok R R1 S1 O q
    cases t with
    | list ts =>
      simp only [q] at h2
      cases d with
      | lst hs dd => exact ⟨_, rfl, .inl ⟨⟨_, sqL_mono R2.sub hs⟩, h2 _ F2 H1 R2 S2 (wk_list hs dd)⟩⟩
    | tuple ts =>
      simp only [q] at h2
      cases d with
      | tup hs dd => exact ⟨_, rfl, .inr ⟨⟨_, sqT_mono R2.sub hs⟩, h2 _ F2 H1 R2 S2 (wk_tup hs dd)⟩⟩
    | none => simp only [q] at h2; exact h2.elim
    | bool _ => simp only [q] at h2; exact h2.elim
    | str _ => simp only [q] at h2; exact h2.elim
    | int _ => simp only [q] at h2; exact h2.elim
    | dict _ => simp only [q] at h2; exact h2.elim
/-- lo, lo + 1, .. -/
def intsT (lo : Int) (n : Nat) : List T := (List.range n).map fun (k : Nat) => .int (lo + (k : Int))
theorem wk_range {F : Hp} {lo : Int} {n : Nat} : Wk K F (Itr lo n) (intsT lo n) := by
  intro i F' H ff fh
  refine ⟨fun t ht => ?_, fun hi => (show n ≤ i by simpa [intsT] using hi)⟩
  have hi : i < n := by have := (List.getElem?_eq_some_iff.mp ht).1; simpa [intsT] using this
  refine ⟨hi, fun x H' ⟨eH, ex⟩ => .inl ⟨eH, ?_⟩⟩
  subst ex
  simp [intsT, hi] at ht
  subst ht
  exact .int _
def iR1 (m : SemA) : SemI := fun e => (m e).bind fun rs e1 => match vals e1 rs with
  | some [.int j] => if -(2 ^ 62) ≤ j ∧ j < 2 ^ 62 then .ok (intsT 0 j.toNat) e1 else .bad
  | _ => .bad
def iR2 (m : SemA) : SemI := fun e => (m e).bind fun rs e1 => match vals e1 rs with
  | some [.int i, .int j] => if -(2 ^ 62) ≤ i ∧ i < 2 ^ 62 ∧ -(2 ^ 62) ≤ j ∧ j < 2 ^ 62 then .ok (intsT i (j - i).toNat) e1 else .bad
  | _ => .bad
theorem qir1 {X : Cx} {tg a : Expr} {m : SemA} {p pos : Pos} (hg : Gl X "range") (hm : X.mg "range" = none) (ha : QA X W [a] m) (hs : starEach [a] X.env = [(false, eval a X.env)] := by rfl) : QI X W tg (.Call (.Name "range" p) [a] [] pos) (iR1 m) := by
  refine pi_mono (pi_range1 hg hm ha hs) fun σ H Q h => ?_
  obtain ⟨e, F, R, h⟩ := h
  refine tX_imp (tX_bind (rel := fun σ Hs F H xs rs => OdsR X.K σ Hs F H rs xs) R .refl h) fun xs H1 ⟨rs, e1, F1, R1, S1, O, h2⟩ => ?_
  split at h2
  · rename_i j q
    have d := vals_ok R1 O q
    split at h2
    · rename_i hl
      cases d with
      | cons a d => cases d; cases a; exact ⟨j, rfl, hl.1, hl.2, h2 _ F1 H1 R1 S1 wk_range⟩
    · exact h2.elim
  · exact h2.elim
theorem qir2 {X : Cx} {tg a b : Expr} {m : SemA} {p pos : Pos} (hg : Gl X "range") (hm : X.mg "range" = none) (ha : QA X W [a, b] m) (hs : starEach [a, b] X.env = [(false, eval a X.env), (false, eval b X.env)] := by rfl) (hs2 : starEach [b] X.env = [(false, eval b X.env)] := by rfl) : QI X W tg (.Call (.Name "range" p) [a, b] [] pos) (iR2 m) := by
  refine pi_mono (pi_range2 hg hm ha hs hs2) fun σ H Q h => ?_
  obtain ⟨e, F, R, h⟩ := h
  refine tX_imp (tX_bind (rel := fun σ Hs F H xs rs => OdsR X.K σ Hs F H rs xs) R .refl h) fun xs H1 ⟨rs, e1, F1, R1, S1, O, h2⟩ => ?_
  split at h2
  · rename_i i j q
    have d := vals_ok R1 O q
    split at h2
    · rename_i hl
      cases d with
      | cons a d => cases d with
        | cons b d => cases d; cases a; cases b; exact ⟨i, j, rfl, hl, h2 _ F1 H1 R1 S1 wk_range⟩
    · exact h2.elim
  · exact h2.elim
/-- pairs -/
def pairs (ts us : List T) : List T := (ts.zip us).map fun p => .tuple [p.1, p.2]
theorem wk_zip {F : Hp} {a b : Addr} {xs ys : List V} {ts us : List T} (h : SqL K F a xs) (h' : SqL K F b ys) (d : DpAll K F xs ts) (d' : DpAll K F ys us) : Wk K F (Itz K a b) (pairs ts us) := by
  intro i F' H ff fh
  have hH : SqL K H a xs := sqL_mono fh (sqL_mono ff h)
  have hH' : SqL K H b ys := sqL_mono fh (sqL_mono ff h')
  refine ⟨fun t ht => ?_, fun hi => ⟨xs, ys, hH, hH', ?_⟩⟩
  · simp only [pairs, List.getElem?_map] at ht
    cases q : (ts.zip us)[i]? with
    | none => rw [q] at ht; cases ht
    | some tu =>
      rw [q] at ht
      cases ht
      obtain ⟨q1, q2⟩ := List.getElem?_zip_eq_some.mp q
      obtain ⟨v, hv, dv⟩ := dpAll_get d q1
      obtain ⟨w, hw, dw⟩ := dpAll_get d' q2
      refine ⟨⟨xs, ys, v, w, hH, hH', hv, hw⟩, fun x H' ⟨p, x1, y1, ex, hp, eH, y, y'⟩ => .inr ⟨p, [x1, y1], [tu.1, tu.2], ex, hp, eH, rfl, ?_⟩⟩
      have e1 := y xs hH
      have e2 := y' ys hH'
      rw [hv] at e1; cases e1
      rw [hw] at e2; cases e2
      exact .cons (dp_mono ff _ _ dv) (.cons (dp_mono ff _ _ dw) .nil)
  · simp only [pairs, List.length_map, List.length_zip] at hi
    rw [dpAll_len d, dpAll_len d']
    omega
def iZip (m : SemA) : SemI := fun e => (m e).bind fun rs e1 => match escs rs e1 with
  | some ([.list ts, .list us], e2) => .ok (pairs ts us) e2
  | _ => .bad
theorem qizip {X : Cx} {a b : Expr} {m : SemA} {p pos tpos : Pos} {elts : List Expr} {kk : Nat} (hg : Gl X "zip") (hm : X.mg "zip" = none) (ha : QA X W [a, b] m)
    (hs : starEach [a, b] X.env = (false, eval a X.env) :: starEach [b] X.env := by rfl) (hpl : (backTo pos (starEach [b] X.env)).any (·.1) = false := by rfl) :
    QI X W (.Tuple elts kk tpos) (.Call (.Name "zip" p) [a, b] [] pos) (iZip m) := by
  refine pi_mono (RZ.pi_zipA hg hm ha hs hpl) fun σ H Q h => ?_
  obtain ⟨e, F, R, h⟩ := h
  refine tX_imp (tX_bind (rel := fun σ Hs F H xs rs => OdsR X.K σ Hs F H rs xs) R .refl h) fun xs H1 ⟨rs, e1, F1, R1, S1, O, h2⟩ => ?_
  split at h2
  · rename_i ts us e2 q
    obtain ⟨F2, R2, S2, d, _⟩ := escs_ok R R1 S1 O q
    cases d with
    | cons a d => cases d with
      | cons b d =>
        cases d
        cases a with
        | lst h1 d1 => cases b with
          | lst h3 d3 => exact ⟨_, _, _, _, rfl, .inl ⟨sqL_mono R2.sub h1, sqL_mono R2.sub h3, h2 _ F2 H1 R2 S2 (wk_zip h1 h3 d1 d3)⟩⟩
  · exact h2.elim
/-- numbered -/
def enumT (ts : List T) : List T := ts.zipIdx.map fun p => .tuple [.int (p.2 : Nat), p.1]
theorem wk_enum {F : Hp} {a : Addr} {xs : List V} {ts : List T} (h : SqL K F a xs) (d : DpAll K F xs ts) : Wk K F (Ite K a) (enumT ts) := by
  intro i F' H ff fh
  have hH : SqL K H a xs := sqL_mono fh (sqL_mono ff h)
  refine ⟨fun t ht => ?_, fun hi => ⟨xs, hH, by rw [dpAll_len d]; simpa [enumT] using hi⟩⟩
  simp only [enumT, List.getElem?_map, List.getElem?_zipIdx] at ht
  cases q : ts[i]? with
  | none => rw [q] at ht; cases ht
  | some u =>
    rw [q] at ht
    simp only [Option.map_some, Option.some.injEq, Nat.zero_add] at ht
    subst ht
    obtain ⟨v, hv, dv⟩ := dpAll_get d q
    refine ⟨⟨xs, v, hH, hv⟩, fun x H' ⟨p, x1, ex, hp, eH, y⟩ => .inr ⟨p, [.int (i : Nat), x1], [.int (i : Nat), u], ex, hp, eH, rfl, ?_⟩⟩
    have e1 := y xs hH
    rw [hv] at e1; cases e1
    exact .cons (.int _) (.cons (dp_mono ff _ _ dv) .nil)
def iEnu (m : SemA) : SemI := fun e => (m e).bind fun rs e1 => match escs rs e1 with
  | some ([.list ts], e2) => .ok (enumT ts) e2
  | _ => .bad
theorem qienum {X : Cx} {a : Expr} {m : SemA} {p pos tpos : Pos} {elts : List Expr} {kk : Nat} (hg : Gl X "enumerate") (hm : X.mg "enumerate" = none) (ha : QA X W [a] m) (hs : starEach [a] X.env = [(false, eval a X.env)] := by rfl) :
    QI X W (.Tuple elts kk tpos) (.Call (.Name "enumerate" p) [a] [] pos) (iEnu m) := by
  refine pi_mono (pi_enum hg hm ha hs) fun σ H Q h => ?_
  obtain ⟨e, F, R, h⟩ := h
  refine tX_imp (tX_bind (rel := fun σ Hs F H xs rs => OdsR X.K σ Hs F H rs xs) R .refl h) fun xs H1 ⟨rs, e1, F1, R1, S1, O, h2⟩ => ?_
  split at h2
  · rename_i ts e2 q
    obtain ⟨F2, R2, S2, d, _⟩ := escs_ok R R1 S1 O q
    cases d with
    | cons a d =>
      cases d
      cases a with
      | lst h1 d1 => exact ⟨_, _, rfl, sqL_mono R2.sub h1, h2 _ F2 H1 R2 S2 (wk_enum h1 d1)⟩
  · exact h2.elim
/-! ### for -/
def forS (g : SemG) (b : SemS) : List T → SemS
  | [], e => .ok .nx e
  | t :: ts, e => match g t e with
    | some e1 => (match b e1 with
      | .ok .nx e2 => forS g b ts e2
      | .ok .ct e2 => forS g b ts e2
      | .ok .bk e2 => .ok .nx e2
      | .ok (.rt r) e2 => .ok (.rt r) e2
      | .exc c t e2 => .exc c t e2
      | .bad => .bad)
    | none => .bad
def sFor (mi : SemI) (g : SemG) (b : SemS) : SemS := fun e => (mi e).bind fun ts e1 => forS g b ts e1
theorem qss_any {X : Cx} {st : List Stmt} {m : SemS} (h : ∀ B, QSs X W B st m) : PSs X st (fun D σ H => ∃ B, tS X.K W B m D σ H) := ⟨fun pins s σ H D I ⟨B, q⟩ => (h B).run pins s σ H D I q⟩
theorem qg_any {X : Cx} {ws : List Nat} {tg : Expr} {g : SemG} (h : ∀ B, QG X B ws tg g) : PG X tg (fun x σ H Q => ∃ B, tG X.K B ws g x σ H Q) := ⟨fun pins s σ H v u Q I r ⟨B, q⟩ => (h B).run pins s σ H v u Q I r q⟩
def LoopN (K : PySem.W.Frag) (W : WX) (B : Bd) (F1 : Hp) (g : SemG) (b : SemS) (D : Ends) (ts : List T) (σ : Sg) (H : Hp) : Prop :=
  ∃ e F, Rel K e σ F H ∧ BOk { B with F := F1 } e σ F H ∧ OutS K W B (forS g b ts e) D
theorem qfor {X : Cx} {ws : List Nat} {tg it : Expr} {body : List Stmt} {mi : SemI} {g : SemG} {b : SemS} {pos : Pos} (hp : PassesOwn (model X.prog X.w) X.A X.env X.xe) (hc : X.calm = true) (hi : QI X W tg it mi) (hg : ∀ B, QG X B ws tg g) (hb : ∀ B, QSs X W B body b)
    (hs : ∀ x, foldedSetIterable it X.env x = pure x := by intro _; rfl) : QS X W B (.For tg it body [] pos) (sFor mi g b) := by
  refine ps_mono (ps_for hp hc hi (qg_any hg) (qss_any hb) hs) fun D σ H h => ?_
  obtain ⟨e, F, R, k, h⟩ := h
  refine tX_imp (tS_bind (rel := fun _ _ F _ J ts => Wk X.K F J ts) R k h) fun J H1 ⟨ts, e1, F1, R1, S1, k1, wk, h1⟩ => ?_
  refine ⟨fun i m σ' H' => m = ts.length - i ∧ i ≤ ts.length ∧ LoopN X.K W B F1 g b D (ts.drop i) σ' H', ⟨_, rfl, Nat.zero_le _, e1, F1, R1, k1.up, h1⟩, ?_⟩
  rintro i m σ' H' ⟨rfl, hi, e2, F2, R2, k2, h2⟩
  obtain ⟨go, stop⟩ := wk i F2 H' k2.ff R2.sub
  by_cases hlt : i < ts.length
  · have ht : ts[i]? = some ts[i] := List.getElem?_eq_getElem hlt
    rw [List.drop_eq_getElem_cons hlt] at h2
    obtain ⟨g1, y1⟩ := go _ ht
    refine .inr ⟨g1, LoopN X.K W B F1 g b D (ts.drop (i + 1)), fun σ3 H3 n => ⟨_, (by omega : ts.length - (i + 1) < ts.length - i), rfl, hlt, n⟩, fun x H3 y => ?_⟩
    simp only [forS] at h2
    cases q : g ts[i] e2 with
    | none => simp only [q] at h2; exact h2.elim
    | some e3 =>
      simp only [q] at h2
      have next : ∀ (F3 : Hp) (σ4 : Sg) (H4 : Hp), Rel X.K e3 σ4 F3 H4 → BOk { B with F := F1 } e3 σ4 F3 H4 → ∃ B', tS X.K W B' b { D with nx := LoopN X.K W B F1 g b D (ts.drop (i + 1)), ct := LoopN X.K W B F1 g b D (ts.drop (i + 1)), bk := D.nx } σ4 H4 := fun F3 σ4 H4 R4 k4 => by
        refine ⟨{ B with F := F1 }, e3, F3, R4, k4, ?_⟩
        cases w : b e3 with
        | bad => rw [w] at h2; exact h2
        | exc c t e5 => rw [w] at h2; exact fun σ5 F5 H5 cls d R5 k5 => h2 σ5 F5 H5 cls d R5 (k1.down k5)
        | ok f e5 =>
          rw [w] at h2
          cases f with
          | nx => exact fun σ5 F5 H5 R5 k5 => ⟨e5, F5, R5, k5, h2⟩
          | ct => exact fun σ5 F5 H5 R5 k5 => ⟨e5, F5, R5, k5, h2⟩
          | bk => exact fun σ5 F5 H5 R5 k5 => h2 σ5 F5 H5 R5 (k1.down k5)
          | rt r => exact fun x σ5 F5 H5 R5 k5 o => h2 x σ5 F5 H5 R5 (k1.down k5) o
      rcases y1 x H3 y with ⟨eH, d⟩ | ⟨p, vs, ws, ex, hp, eH, et, d⟩
      · subst eH
        exact ⟨_, e2, F2, _, e3, R2, k2, d, q, fun σ4 R4 k4 _ => next F2 σ4 _ R4 k4⟩
      · subst eH ex
        have R3 := laid_frz (o := .tup vs) R2 hp
        have S3 := laid_frz_step (o := .tup vs) R2 .refl hp
        have dd : Dp X.K (upd F2 p (.tup vs)) (.ref p) ts[i] := by
          rw [et]
          exact .tup (SqT.of upd_same) (dpAll_mono (fun a o h => by rw [upd_ne (ne_of_none h (sub_none R2 hp))]; exact h) d)
        exact ⟨_, e2, _, _, e3, R3, k2.step S3, dd, q, fun σ4 R4 k4 _ => next _ σ4 _ R4 k4⟩
  · have he : i = ts.length := by omega
    subst he
    rw [List.drop_length] at h2
    exact .inl ⟨stop (Nat.le_refl _), h2 _ F2 H' R2 (k1.down k2)⟩
/-! ### while -/
def whileN (c : SemT) (b : SemS) : Nat → SemS
  | 0, _ => .bad
  | n + 1, e => (c e).bind fun k e1 => if k then (match b e1 with
    | .ok .nx e2 => whileN c b n e2
    | .ok .ct e2 => whileN c b n e2
    | .ok .bk e2 => .ok .nx e2
    | .ok (.rt r) e2 => .ok (.rt r) e2
    | .exc c t e2 => .exc c t e2
    | .bad => .bad) else .ok .nx e1
open Classical in
noncomputable def sWhile (c : SemT) (b : SemS) : SemS := fun e => if h : ∃ n, whileN c b n e ≠ .bad then whileN c b (Classical.choose h) e else .bad
theorem whileN_mono {c : SemT} {b : SemS} : ∀ {n : Nat} {e : En} (m : Nat), whileN c b n e ≠ .bad → whileN c b (n + m) e = whileN c b n e
  | 0, _, _, h => absurd rfl h
  | n + 1, e, m, h => by
    rw [Nat.add_right_comm]
    simp only [whileN] at h ⊢
    cases q : c e with
    | bad => rfl
    | exc c' t e' => rfl
    | ok k e1 =>
      rw [q] at h
      simp only [Out.bind] at h ⊢
      cases k with
      | false => rfl
      | true =>
        simp only [if_true] at h ⊢
        cases w : b e1 with
        | bad => rfl
        | exc c' t e' => rfl
        | ok f e2 =>
          rw [w] at h
          cases f with
          | nx => exact whileN_mono m h
          | ct => exact whileN_mono m h
          | bk => rfl
          | rt r => rfl
theorem sWhile_eq {c : SemT} {b : SemS} {n : Nat} {e : En} {o : Out Fl} (h : whileN c b n e = o) (ho : o ≠ .bad) : sWhile c b e = o := by
  have hx : ∃ n, whileN c b n e ≠ .bad := ⟨n, by rw [h]; exact ho⟩
  unfold sWhile
  rw [dif_pos hx]
  have h1 := Classical.choose_spec hx
  have h2 := whileN_mono (Classical.choose hx) (show whileN c b n e ≠ .bad by rw [h]; exact ho)
  have h3 := whileN_mono n h1
  rw [Nat.add_comm] at h3
  rw [← h3, h2, h]
theorem qwhile {X : Cx} {c : Expr} {body : List Stmt} {mc : SemT} {b : SemS} {pos : Pos} (hp : PassesOwn (model X.prog X.w) X.A X.env X.xe) (hc : QT X W c mc) (hb : QSs X W B body b) : QS X W B (.While c body [] pos) (sWhile mc b) := by
  refine ps_mono (ps_while hp hc hb) fun D σ H h => ?_
  obtain ⟨e, F, R, k, h⟩ := h
  by_cases hx : ∃ n, whileN mc b n e ≠ .bad
  · unfold sWhile at h
    rw [dif_pos hx] at h
    refine ⟨fun m σ' H' => ∃ e F, Rel X.K e σ' F H' ∧ BOk B e σ' F H' ∧ OutS X.K W B (whileN mc b m e) D, ⟨_, e, F, R, k, h⟩, ?_⟩
    rintro m σ1 H1 ⟨e1, F1, R1, k1, h1⟩
    cases m with
    | zero => exact h1.elim
    | succ m =>
      refine tX_imp (tS_bind (m := mc) (rel := fun _ _ _ _ (x : Bool) r => x = r) R1 k1 h1) fun x H2 ⟨r, e2, F2, R2, S2, k2, O, h2⟩ => ?_
      subst O
      cases x with
      | false => exact h2 _ _ _ R2 k2
      | true =>
        refine ⟨fun σ' H' => ∃ e F, Rel X.K e σ' F H' ∧ BOk B e σ' F H' ∧ OutS X.K W B (whileN mc b m e) D, fun σ' H' n => ⟨m, Nat.lt_succ_self _, n⟩, e2, F2, R2, k2, ?_⟩
        simp only [if_true] at h2
        cases w : b e2 with
        | bad => rw [w] at h2; exact h2
        | exc c t e5 => rw [w] at h2; exact h2
        | ok f e5 =>
          rw [w] at h2
          cases f with
          | nx => exact fun σ5 F5 H5 R5 k5 => ⟨e5, F5, R5, k5, h2⟩
          | ct => exact fun σ5 F5 H5 R5 k5 => ⟨e5, F5, R5, k5, h2⟩
          | bk => exact h2
          | rt r => exact h2
  · unfold sWhile at h
    rw [dif_neg hx] at h
    exact h.elim
end
end Ev

set_option Elab.async false
set_option linter.all false
set_option maxRecDepth 100000
namespace Ev
open PySem PySem.Spec PyProof.Rows L2
def GOk (ws : List Nat) (g : SemG) : Prop := ∀ t e e', g t e = some e' → e'.length = e.length ∧ ∀ j, e'[j]? = e[j]? ∨ (j ∈ ws ∧ ∃ t, e'[j]? = some (.v t))
def GsOk (ws : List Nat) (g : SemGs) : Prop := ∀ t e e', g t e = some e' → e'.length = e.length ∧ ∀ j, e'[j]? = e[j]? ∨ (j ∈ ws ∧ ∃ t, e'[j]? = some (.v t))
theorem gok_n {ws : List Nat} {i : Nat} (h : i ∈ ws) : GOk ws (gN i) := fun t e e' hg => by
  simp only [gN] at hg
  split at hg
  · cases hg
  · cases hg
    refine ⟨by simp, fun j => ?_⟩
    by_cases q : i = j
    · subst q
      by_cases hi : i < e.length
      · exact .inr ⟨h, t, List.getElem?_set_self hi⟩
      · left; rw [List.getElem?_eq_none (by simpa using hi), List.getElem?_eq_none (by simpa using hi)]
    · exact .inl (List.getElem?_set_ne q)
theorem gsok_nil {ws : List Nat} : GsOk ws gsNil := fun t e e' hg => by
  cases t with
  | nil => cases hg; exact ⟨rfl, fun j => .inl rfl⟩
  | cons _ _ => cases hg
theorem gsok_cons {ws : List Nat} {g : SemG} {gs : SemGs} (h1 : GOk ws g) (h2 : GsOk ws gs) : GsOk ws (gsCons g gs) := fun t e e' hg => by
  cases t with
  | nil => cases hg
  | cons t ts =>
    simp only [gsCons] at hg
    cases q : g t e with
    | none => rw [q] at hg; cases hg
    | some e1 =>
      rw [q] at hg
      obtain ⟨l1, a1⟩ := h1 t e e1 q
      obtain ⟨l2, a2⟩ := h2 ts e1 e' hg
      refine ⟨l2.trans l1, fun j => ?_⟩
      rcases a2 j with z | z
      · rcases a1 j with w | ⟨w, t', w2⟩
        · exact .inl (z.trans w)
        · exact .inr ⟨w, t', z.trans w2⟩
      · exact .inr z
theorem gok_t {ws : List Nat} {n : Nat} {gs : SemGs} (h : GsOk ws gs) : GOk ws (gT n gs) := fun t e e' hg => by
  cases t with
  | tuple ts =>
    simp only [gT] at hg
    split at hg
    · exact h ts e e' hg
    · cases hg
  | _ => cases hg
def wipeE (e : En) : List Nat → En
  | [] => e
  | v :: vs => (wipeE e vs).set v .un
theorem wipeE_len (e : En) : ∀ vs, (wipeE e vs).length = e.length
  | [] => rfl
  | v :: vs => by unfold wipeE; rw [List.length_set, wipeE_len e vs]
theorem wipeE_out {e : En} {j : Nat} : ∀ {vs : List Nat}, j ∉ vs → (wipeE e vs)[j]? = e[j]?
  | [], _ => rfl
  | v :: vs, h => by
    unfold wipeE
    rw [List.getElem?_set_ne (fun z => h (by rw [← z]; exact List.mem_cons_self)), wipeE_out fun z => h (List.mem_cons_of_mem _ z)]
theorem wipeE_in {e : En} {j : Nat} {s : Sl} : ∀ {vs : List Nat}, j ∈ vs → (wipeE e vs)[j]? = some s → s = .un
  | [], h, _ => by cases h
  | v :: vs, h, q => by
    unfold wipeE at q
    by_cases hv : v = j
    · subst hv
      have hl : v < (wipeE e vs).length := by have := (List.getElem?_eq_some_iff.mp q).1; simpa using this
      rw [List.getElem?_set_self hl] at q; cases q; rfl
    · rw [List.getElem?_set_ne hv] at q
      exact wipeE_in ((List.mem_cons.mp h).resolve_left fun z => hv z.symm) q
theorem wipe_out {σ : Sg} {j : Nat} : ∀ {vs : List Nat}, j ∉ vs → (wipe σ vs)[j]? = σ[j]?
  | [], _ => rfl
  | v :: vs, h => by
    unfold wipe
    rw [List.getElem?_set_ne (fun z => h (by rw [← z]; exact List.mem_cons_self)), wipe_out fun z => h (List.mem_cons_of_mem _ z)]
theorem wipe_in {σ : Sg} {j : Nat} {o : Option V} : ∀ {vs : List Nat}, j ∈ vs → (wipe σ vs)[j]? = some o → o = none
  | [], h, _ => by cases h
  | v :: vs, h, q => by
    unfold wipe at q
    by_cases hv : v = j
    · subst hv
      have hl : v < (wipe σ vs).length := by have := (List.getElem?_eq_some_iff.mp q).1; simpa using this
      rw [List.getElem?_set_self hl] at q; cases q; rfl
    · rw [List.getElem?_set_ne hv] at q
      exact wipe_in ((List.mem_cons.mp h).resolve_left fun z => hv z.symm) q
theorem wipe_agree {σ σ2 : Sg} {vs : List Nat} (a : Agree vs (wipe σ vs) σ2) : wipe σ2 vs = wipe σ vs := by
  have l1 : σ2.length = σ.length := a.1.trans (wipe_length σ vs)
  refine List.ext_getElem? fun j => ?_
  by_cases h : j ∈ vs
  · by_cases hj : j < σ.length
    · have h1 : j < (wipe σ2 vs).length := by rw [wipe_length, l1]; exact hj
      have h2 : j < (wipe σ vs).length := by rw [wipe_length]; exact hj
      have q1 := wipe_in h (List.getElem?_eq_getElem h1)
      have q2 := wipe_in h (List.getElem?_eq_getElem h2)
      rw [List.getElem?_eq_getElem h1, List.getElem?_eq_getElem h2, q1, q2]
    · rw [List.getElem?_eq_none (by rw [wipe_length, l1]; omega), List.getElem?_eq_none (by rw [wipe_length]; omega)]
  · rw [wipe_out h, a.2 j h]
def restE (e e2 : En) : List Nat → En
  | [] => e2
  | v :: vs => (restE e e2 vs).set v ((e[v]?).getD .un)
theorem restE_len (e e2 : En) : ∀ vs, (restE e e2 vs).length = e2.length
  | [] => rfl
  | v :: vs => by unfold restE; rw [List.length_set, restE_len e e2 vs]
theorem restE_out {e e2 : En} {j : Nat} : ∀ {vs : List Nat}, j ∉ vs → (restE e e2 vs)[j]? = e2[j]?
  | [], _ => rfl
  | v :: vs, h => by
    unfold restE
    rw [List.getElem?_set_ne (fun z => h (by rw [← z]; exact List.mem_cons_self)), restE_out fun z => h (List.mem_cons_of_mem _ z)]
theorem restE_in {e e2 : En} {j : Nat} (hl : e2.length = e.length) : ∀ {vs : List Nat}, j ∈ vs → (restE e e2 vs)[j]? = e[j]?
  | [], h => by cases h
  | v :: vs, h => by
    unfold restE
    by_cases hv : v = j
    · subst hv
      by_cases hj : v < e.length
      · rw [List.getElem?_set_self (by rw [restE_len, hl]; exact hj), List.getElem?_eq_getElem hj]; rfl
      · rw [List.getElem?_eq_none (by rw [List.length_set, restE_len, hl]; omega), List.getElem?_eq_none (by omega)]
    · rw [List.getElem?_set_ne hv]
      exact restE_in hl ((List.mem_cons.mp h).resolve_left fun z => hv z.symm)
section
variable {K : PySem.W.Frag} {W : WX} {B : Bd} {e e1 e2 : En} {σ σ1 : Sg} {F H F1 H1 F2 H2 : Hp}
theorem wipe_rel {vs : List Nat} (R : Rel K e σ F H) : Rel K (wipeE e vs) (wipe σ vs) F H := by
  have get : ∀ (j : Nat) (s : Sl), (wipeE e vs)[j]? = some s → s = .un ∨ (j ∉ vs ∧ e[j]? = some s) := fun j s h => by
    by_cases q : j ∈ vs
    · exact .inl (wipeE_in q h)
    · rw [wipeE_out q] at h; exact .inr ⟨q, h⟩
  refine ⟨R.sub, by rw [wipeE_len, wipe_length]; exact R.len, fun j s o h1 h2 => ?_, fun j j' l b l' b' p h1 h2 h3 h4 => ?_⟩
  · rcases get j s h1 with rfl | ⟨q, h⟩
    · trivial
    · rw [wipe_out q] at h2; exact R.at_ j s o h h2
  · rcases get j _ h1 with z | ⟨q, g1⟩
    · cases z
    · rcases get j' _ h2 with z | ⟨q', g2⟩
      · cases z
      · rw [wipe_out q] at h3; rw [wipe_out q'] at h4; exact R.ne j j' l b l' b' p g1 g2 h3 h4
theorem upd_at {D : Addr} {o o' : HO} (R : Rel K e σ F H) (hH : H D = some o) (hf : F D = none) (no : ¬ Own e σ D) : Rel K e σ F (upd H D o') := by
  refine ⟨fun a u h => ?_, R.len, fun i s u h1 h2 => ?_, R.ne⟩
  · have ne : a ≠ D := fun z => by subst z; rw [hf] at h; cases h
    rw [upd_ne ne]; exact R.sub _ _ h
  · have z := R.at_ i s u h1 h2
    cases s with
    | un => trivial
    | v t => exact z
    | fz b => exact z
    | ow l b =>
      obtain ⟨p, ep, hf', bx⟩ := z
      have np : p ≠ D := fun w => no ⟨i, l, b, h1, by rw [h2, ep, w]⟩
      exact ⟨p, ep, hf', bx_keep bx (fun _ _ h => h) fun o h => by rw [upd_ne np]; exact h⟩
theorem step_upd {D : Addr} {o' : HO} (S : Step e e1 σ F H F1 H1) (hD : H D = none) : Step e e1 σ F H F1 (upd H1 D o') := by
  have ne : ∀ a u, H a = some u → a ≠ D := fun a u h z => by subst z; rw [hD] at h; cases h
  exact ⟨S.ff, fun a u h n => ⟨by rw [upd_ne (ne a u h)]; exact (S.keep a u h n).1, (S.keep a u h n).2⟩, fun a u h => by rw [upd_ne (ne a u h)]; exact S.dom a u h, S.own, S.lt, S.sk⟩
/-- a bound that says nothing -/
def bd0 (e : En) (σ : Sg) : Bd := ⟨e, σ, fun _ => none, fun _ => none⟩
theorem bok0 {e : En} {σ : Sg} {F H : Hp} : BOk (bd0 e σ) e σ F H :=
  ⟨(fun _ _ h => nomatch h), (fun _ _ h => nomatch h), (fun _ _ h => nomatch h), (fun _ _ _ _ _ => rfl), (fun i b h => ⟨rfl, b, h⟩), (fun i b h => ⟨⟨b, .inl h⟩, rfl⟩)⟩
/-- behind a turn of a comprehension -/
theorem rest_rel {vs : List Nat} {e4 : En} {σ2 : Sg} {F4 H4 : Hp} (R : Rel K e σ F H) (h1 : e1.length = e.length) (a1 : ∀ j, e1[j]? = (wipeE e vs)[j]? ∨ (j ∈ vs ∧ ∃ t, e1[j]? = some (.v t))) (ag : Agree vs (wipe σ vs) σ2)
    (R4 : Rel K e4 σ2 F4 H4) (S : Step e1 e4 σ2 F H F4 H4) : Rel K (restE e e4 vs) σ F4 H4 ∧ Step e (restE e e4 vs) σ F H F4 H4 := by
  have sg : ∀ j, j ∉ vs → σ2[j]? = σ[j]? := fun j h => by rw [ag.2 j h, wipe_out h]
  have l2 : σ2.length = σ.length := ag.1.trans (wipe_length σ vs)
  have l4 : e4.length = e.length := by rw [R4.len, l2, ← R.len]
  have in1 : ∀ (j : Nat) (l : Bool) (b : Bx), e1[j]? = some (.ow l b) → j ∉ vs ∧ e[j]? = some (.ow l b) := fun j l b h => by
    by_cases q : j ∈ vs
    · rcases a1 j with z | ⟨_, t, z⟩
      · rw [h] at z; exact nomatch wipeE_in q z.symm
      · rw [h] at z; cases z
    · rcases a1 j with z | ⟨q', _⟩
      · rw [h, wipeE_out q] at z; exact ⟨q, z.symm⟩
      · exact absurd q' q
  have own1 : ∀ p, Own e1 σ2 p → Own e σ p := fun p ⟨j, l, b, q1, q2⟩ => by
    obtain ⟨n, q⟩ := in1 j l b q1
    exact ⟨j, l, b, q, by rw [← sg j n]; exact q2⟩
  have get : ∀ (j : Nat) (s : Sl), (restE e e4 vs)[j]? = some s → (j ∈ vs ∧ e[j]? = some s) ∨ (j ∉ vs ∧ e4[j]? = some s) := fun j s h => by
    by_cases q : j ∈ vs
    · rw [restE_in l4 q] at h; exact .inl ⟨q, h⟩
    · rw [restE_out q] at h; exact .inr ⟨q, h⟩
  have kind : SameKinds e (restE e e4 vs) := fun j l b h => by
    rcases get j _ h with ⟨_, q⟩ | ⟨n, q⟩
    · exact ⟨b, q⟩
    · obtain ⟨b', q'⟩ := S.sk j l b q
      exact ⟨b', (in1 j l b' q').2⟩
  refine ⟨⟨R4.sub, by rw [restE_len, l4]; exact R.len, fun j s o g1 g2 => ?_, fun j j' l b l' b' p g1 g2 g3 g4 => ?_⟩, ⟨S.ff, fun a o h n => S.keep a o h fun z => n (own1 a z), S.dom, fun p ⟨j, l, b, g1, g2⟩ => ?_, fun j hj => ?_, kind⟩⟩
  · rcases get j s g1 with ⟨q, g⟩ | ⟨q, g⟩
    · have w := R.at_ j s o g g2
      cases s with
      | un => trivial
      | v t => obtain ⟨y, ey, d⟩ := w; exact ⟨y, ey, dp_mono S.ff _ _ d⟩
      | fz b => obtain ⟨y, ey, d⟩ := w; exact ⟨y, ey, dp_mono S.ff _ _ d⟩
      | ow l b =>
        obtain ⟨p, ep, hf, bx⟩ := w
        subst ep
        obtain ⟨u, hu⟩ := bx_some bx
        have na : ¬ Own e1 σ2 p := fun ⟨j', l', b', q1, q2⟩ => by
          obtain ⟨n, q3⟩ := in1 j' l' b' q1
          have := R.ne j' j l' b' l b p q3 g (by rw [← sg j' n]; exact q2) g2
          subst this
          exact n q
        obtain ⟨k1, k2⟩ := S.keep p u hu na
        exact ⟨p, rfl, k2 hf, bx_keep bx S.ff fun o' h' => by rw [hu] at h'; cases h'; exact k1⟩
    · rw [← sg j q] at g2; exact R4.at_ j s o g g2
  · obtain ⟨b1, q1⟩ := kind j l b g1
    obtain ⟨b2, q2⟩ := kind j' l' b' g2
    exact R.ne j j' l b1 l' b2 p q1 q2 g3 g4
  · obtain ⟨b1, q1⟩ := kind j l b g1
    exact ⟨j, l, b1, q1, g2⟩
  · by_cases q : j ∈ vs
    · obtain ⟨b, w⟩ := hj
      exact ⟨b, by rw [restE_in l4 q]; exact w⟩
    · have : Lent e1 j := by
        obtain ⟨b, w⟩ := hj
        rcases a1 j with z | ⟨q', _⟩
        · exact ⟨b, by rw [z, wipeE_out q]; exact w⟩
        · exact absurd q' q
      obtain ⟨b, w⟩ := S.lt j this
      exact ⟨b, by rw [restE_out q]; exact w⟩
end
/-! ### comprehensions -/
/-- nothing raised -/
def Out.nx {α : Type} : Out α → Out α
  | .exc _ _ _ => .bad
  | o => o
def compS (g : SemG) (c : SemT) (m : SemE) (vs : List Nat) : List T → List T → SemE
  | [], acc, e => .ok (.b (.l acc)) e
  | t :: ts, acc, e => match g t (wipeE e vs) with
    | some e1 => (c e1).nx.bind fun k e2 => if k then (m e2).nx.bind fun r e3 => (match esc r e3 with
        | some (u, e4) => if acc.length < sizeLine then compS g c m vs ts (acc ++ [u]) (restE e e4 vs) else .bad
        | none => .bad)
      else compS g c m vs ts acc (restE e e2 vs)
    | none => .bad
def eComp (mi : SemI) (g : SemG) (c : SemT) (m : SemE) (vs : List Nat) : SemE := fun e => (mi e).bind fun ts e1 => compS g c m vs ts [] e1
abbrev W0 : WX := fun _ _ _ _ => False
theorem tX_nx {α β : Type} {K : PySem.W.Frag} {rel : Sg → Hp → Hp → Hp → β → α → Prop} {m : En → Out α} {e1 e2 : En} {r : α} {σ : Sg} {F1 H1 : Hp} {Q : β → Hp → Prop} (R1 : Rel K e1 σ F1 H1) (w : m e1 = .ok r e2)
    (hq : ∀ x F2 H2, Rel K e2 σ F2 H2 → Step e1 e2 σ F1 H1 F2 H2 → rel σ H1 F2 H2 x r → Q x H2) : tX K W0 rel m σ H1 Q := by
  refine ⟨e1, F1, R1, ?_⟩
  rw [w]
  exact fun x F' H' R' S' O => hq x F' H' R' S' O
/-- the reading of a comprehension's walk, from a state on -/
structure CompN (K : PySem.W.Frag) (W : WX) (F1 : Hp) (g : SemG) (c : SemT) (m : SemE) (vs : List Nat) (e0 : En) (F0 H0 : Hp) (σ : Sg) (D : Addr) (Q : VK) (ts : List T) (H : Hp) : Prop where
  ex : ∃ e F acc accV, Rel K e σ F H ∧ Step e0 e σ F0 H0 F H ∧ (∀ a o, F1 a = some o → F a = some o) ∧ F D = none ∧ H D = some (.lst accV) ∧ DpAll K F accV acc ∧ OutX K W (OdR K σ) (compS g c m vs ts acc e) e0 σ F0 H0 Q
theorem comp_read {K : PySem.W.Frag} {W : WX} {mi : SemI} {g : SemG} {c : SemT} {m : SemE} {vs : List Nat} {σ : Sg} {H : Hp} {Q : VK} (hk : GOk vs g) (h : tE K W (eComp mi g c m vs) σ H Q) :
    tLc (tI K W mi) (fun x σ H Q => ∃ B, tG K B vs g x σ H Q) (tT K W0 c) (tE K W0 m) vs σ H Q := by
  obtain ⟨e0, F0, R0, h⟩ := h
  refine tX_imp (tX_bind (rel := fun _ _ F _ J ts => Wk K F J ts) R0 .refl h) fun J H1 ⟨ts, e1, F1, R1, S1, wk, h1⟩ => ?_
  intro D hD
  have hD0 : H D = none := step_none S1 hD
  have hDF : F1 D = none := sub_none R1 hD
  have ff0 : ∀ a o, F1 a = some o → F1 a = some o := fun _ _ h => h
  refine ⟨fun i n H' => n = ts.length - i ∧ i ≤ ts.length ∧ CompN K W F1 g c m vs e0 F0 H σ D Q (ts.drop i) H', ⟨_, rfl, Nat.zero_le _, ⟨e1, F1, [], [], laid_own R1 hD, S1.trans (laid_own_step hD), ff0, hDF, upd_same, .nil, h1⟩⟩, ?_⟩
  rintro i n H' ⟨rfl, hi, ⟨e2, F2, acc, accV, R2, S2, ff2, hf, hH, d, h2⟩⟩
  obtain ⟨go, stop⟩ := wk i F2 H' ff2 R2.sub
  by_cases hlt : i < ts.length
  · have ht : ts[i]? = some ts[i] := List.getElem?_eq_getElem hlt
    rw [List.drop_eq_getElem_cons hlt] at h2
    obtain ⟨g1, y1⟩ := go _ ht
    refine .inr ⟨g1, CompN K W F1 g c m vs e0 F0 H σ D Q (ts.drop (i + 1)), fun H3 n => ⟨_, (by omega : ts.length - (i + 1) < ts.length - i), rfl, hlt, n⟩, fun x H3 y => ?_⟩
    simp only [compS] at h2
    cases q : g ts[i] (wipeE e2 vs) with
    | none => simp only [q] at h2; exact h2.elim
    | some e3 =>
      simp only [q] at h2
      obtain ⟨l3, a3⟩ := hk _ _ _ q
      have l3 : e3.length = e2.length := l3.trans (wipeE_len e2 vs)
      have D0 : ∀ {e F H3}, Step e0 e σ F0 H F H3 → ¬ Own e σ D := fun S => fresh_not_own R0 S hD0
      -- behind the target
      have next : ∀ (F3 : Hp) (H3 : Hp) (σ2 : Sg), Rel K e2 σ F3 H3 → Step e0 e2 σ F0 H F3 H3 → (∀ a o, F1 a = some o → F3 a = some o) → F3 D = none → H3 D = some (.lst accV) → DpAll K F3 accV acc → Rel K e3 σ2 F3 H3 → Agree vs (wipe σ vs) σ2 →
          wipe σ2 vs = wipe σ vs ∧ tT K W0 c σ2 H3 fun b H4 => if b = true then tE K W0 m σ2 H4 fun y H5 => ∃ acc, H5 D = some (.lst acc) ∧ acc.length < sizeLine ∧ CompN K W F1 g c m vs e0 F0 H σ D Q (ts.drop (i + 1)) (upd H5 D (.lst (acc ++ [y]))) else CompN K W F1 g c m vs e0 F0 H σ D Q (ts.drop (i + 1)) H4 := by
        intro F3 H3 σ2 R3 S3 ff3 hf3 hH3 d3 RB ag
        refine ⟨wipe_agree ag, ?_⟩
        have noD : ¬ Own e3 σ2 D := fun ⟨j, l, b, q1, q2⟩ => by
          have n : j ∉ vs ∧ e2[j]? = some (.ow l b) := by
            by_cases qv : j ∈ vs
            · rcases a3 j with z | ⟨_, t, z⟩
              · rw [q1] at z; exact absurd (wipeE_in qv z.symm) (by intro w; cases w)
              · rw [q1] at z; cases z
            · rcases a3 j with z | ⟨q', _⟩
              · rw [q1, wipeE_out qv] at z; exact ⟨qv, z.symm⟩
              · exact absurd q' qv
          exact D0 S3 ⟨j, l, b, n.2, by rw [← wipe_out n.1, ← ag.2 j n.1]; exact q2⟩
        cases wc : c e3 with
        | bad => rw [wc] at h2; exact h2.elim
        | exc _ _ _ => rw [wc] at h2; exact h2.elim
        | ok k e4 =>
        rw [wc] at h2
        have h4 : OutX K W (OdR K σ) (if k = true then (m e4).nx.bind fun r e5 => (match esc r e5 with
            | some (u, e6) => if acc.length < sizeLine then compS g c m vs (ts.drop (i + 1)) (acc ++ [u]) (restE e2 e6 vs) else .bad
            | none => .bad) else compS g c m vs (ts.drop (i + 1)) acc (restE e2 e4 vs)) e0 σ F0 H Q := h2
        refine tX_nx RB wc fun b F4 H4 R4 S4 eb => ?_
        subst eb
        obtain ⟨hD4, fD4⟩ := S4.keep D _ hH3 noD
        have fD4 := fD4 hf3
        cases b with
        | false =>
          obtain ⟨R', S'⟩ := rest_rel R3 l3 a3 ag R4 S4
          exact ⟨restE e2 e4 vs, F4, acc, accV, R', S3.trans S', fun a o h => S4.ff _ _ (ff3 _ _ h), fD4, hD4, dpAll_mono S4.ff d3, h4⟩
        | true =>
          simp only [if_true] at h4
          rw [if_pos rfl]
          cases wm : m e4 with
          | bad => rw [wm] at h4; exact h4.elim
          | exc _ _ _ => rw [wm] at h4; exact h4.elim
          | ok r e5 =>
          rw [wm] at h4
          have h5 : OutX K W (OdR K σ) (match esc r e5 with
            | some (u, e6) => if acc.length < sizeLine then compS g c m vs (ts.drop (i + 1)) (acc ++ [u]) (restE e2 e6 vs) else .bad
            | none => .bad) e0 σ F0 H Q := h4
          refine tX_nx R4 wm fun y F5 H5 R5 S5 O5 => ?_
          obtain ⟨hD5, fD5⟩ := S5.keep D _ hD4 (fun z => noD (S4.own _ z))
          have fD5 := fD5 fD4
          cases w : esc r e5 with
          | none => simp only [w] at h5; exact h5.elim
          | some te =>
            obtain ⟨u, e6⟩ := te
            simp only [w] at h5
            obtain ⟨F6, R6, S6, d6, _, only⟩ := esc_ok R4 R5 S5 O5 w
            by_cases hl : acc.length < sizeLine
            · rw [if_pos hl] at h5
              obtain ⟨R', S'⟩ := rest_rel R3 l3 a3 ag R6 (S4.trans S6)
              have dd : DpAll K F6 (accV ++ [y]) (acc ++ [u]) := dpAll_app (dpAll_mono (fun a o h => S6.ff _ _ (S4.ff _ _ h)) d3) (.cons d6 .nil)
              have fD6 : F6 D = none := (S6.keep D _ hD4 (fun z => noD (S4.own _ z))).2 fD4
              refine ⟨accV, hD5, by rw [dpAll_len d3]; exact hl, ⟨restE e2 e6 vs, F6, acc ++ [u], accV ++ [y], upd_at R' hD5 fD6 (D0 (S3.trans S')), ?_, fun a o h => S6.ff _ _ (S4.ff _ _ (ff3 _ _ h)), fD6, upd_same, dd, h5⟩⟩
              exact step_upd (S3.trans S') hD0
            · rw [if_neg hl] at h5; exact h5.elim
      have Rw := wipe_rel (vs := vs) R2
      rcases y1 x H3 y with ⟨eH, dx⟩ | ⟨p, xs, ws, ex, hp, eH, et, dx⟩
      · subst eH
        exact ⟨bd0 _ _, wipeE e2 vs, F2, _, e3, Rw, bok0, dx, q, fun σ2 R' _ ag => next F2 _ σ2 R2 S2 ff2 hf hH d R' ag⟩
      · subst eH ex
        have ff3 : ∀ a o, F2 a = some o → upd F2 p (.tup xs) a = some o := fun a o h => by rw [upd_ne (ne_of_none h (sub_none R2 hp))]; exact h
        have nD : D ≠ p := ne_of_none hH hp
        have R3 := laid_frz (o := .tup xs) R2 hp
        have S3 := laid_frz_step (o := .tup xs) R2 S2 hp
        have dd : Dp K (upd F2 p (.tup xs)) (.ref p) ts[i] := by
          rw [et]
          exact .tup (SqT.of upd_same) (dpAll_mono ff3 dx)
        exact ⟨bd0 _ _, wipeE e2 vs, _, _, e3, wipe_rel R3, bok0, dd, q, fun σ2 R' _ ag => next _ _ σ2 R3 S3 (fun a o h => ff3 _ _ (ff2 _ _ h)) (by rw [upd_ne nD]; exact hf) (by rw [upd_ne nD]; exact hH) (dpAll_mono ff3 d) R' ag⟩
  · have he : i = ts.length := by omega
    subst he
    rw [List.drop_length] at h2
    exact .inl ⟨stop (Nat.le_refl _), h2 _ F2 H' R2 S2 ⟨D, rfl, hD0, hf, accV, hH, d⟩⟩
end Ev

set_option Elab.async false
set_option linter.all false
set_option maxRecDepth 100000
namespace Ev
open PySem PySem.Spec PyProof.Rows L2
section
variable {X : Cx} {W : WX} {a b c : Expr} {ma mb mc : SemE} {pos : Pos}
abbrev tTrue : SemT := fun e => .ok true e
abbrev QTs (X : Cx) (W : WX) (ex : List Expr) (m : SemT) : Prop := PTs X ex (tT X.K W m)
theorem qtsnil : QTs X W [] tTrue := ⟨fun pins s σ H Q I ⟨e, F, R, h⟩ => pts_nil.run pins s σ H Q I (h true F H R .refl rfl)⟩
theorem qtsone {t : SemT} (h : QT X W c t) : QTs X W [c] t := pts_one h
theorem qcomp {elt tg iter : Expr} {ifs : List Expr} {scope : Scope} {own : List (Str × Nat)} {vs : List Nat} {mi : SemI} {g : SemG} {t : SemT} {m : SemE} (hc : X.calm = true) (hN : X.N.Nodup) (hi : QI X W tg iter mi) (ok : BlkOk X.N X.env.scope scope own) (hk : GOk vs g) (hvs : own.map (·.2) = vs)
    (hg : ∀ (s : Shared) (H : Hp) (C : Addr) (cl : List (Str × Addr)) (fp : List Addr) (B : Bd), QG (X.blk s H scope (compEnvC scope cl C X.env) fp) B vs tg g) (ht : ∀ (s : Shared) (H : Hp) (C : Addr) (cl : List (Str × Addr)) (fp : List Addr), QTs (X.blk s H scope (compEnvC scope cl C X.env) fp) W0 ifs t)
    (he : ∀ (s : Shared) (H : Hp) (C : Addr) (cl : List (Str × Addr)) (fp : List Addr), QE (X.blk s H scope (compEnvC scope cl C X.env) fp) W0 elt m) (hs : ∀ x, foldedSetIterable iter X.env x = pure x := by intro _; rfl) :
    QE X W (.ListComp elt [⟨tg, iter, ifs, 0⟩] scope pos) (eComp mi g t m vs) := by
  subst hvs
  exact pe_mono (pe_lc hc hN hi ok (fun s H C cl fp => qg_any (hg s H C cl fp)) ht he hs) fun σ H Q h => comp_read hk h
theorem qsetcomp {B : Bd} {i : Nat} {y : Str} {py : Pos} {elt tg iter : Expr} {ifs : List Expr} {scope : Scope} {own : List (Str × Nat)} {spos : Pos} {vs : List Nat} {mi : SemI} {g : SemG} {t : SemT} {m : SemE} (hc : X.calm = true) (hN : X.N.Nodup) (hy : X.N[i]? = some y) (hyl : X.env.scope.names.lookup y = some .local)
    (hsw : swapsWith (.ListComp elt [⟨tg, iter, ifs, 0⟩] scope pos) (some (.Name y py)) spos.line X.env = pure true) (hi : QI X W tg iter mi) (ok : BlkOk X.N X.env.scope scope own) (hk : GOk vs g) (hvs : own.map (·.2) = vs)
    (hg : ∀ (s : Shared) (H : Hp) (C : Addr) (cl : List (Str × Addr)) (fp : List Addr) (B : Bd), QG (X.blk s H scope (compEnvC scope cl C X.env) fp) B vs tg g) (ht : ∀ (s : Shared) (H : Hp) (C : Addr) (cl : List (Str × Addr)) (fp : List Addr), QTs (X.blk s H scope (compEnvC scope cl C X.env) fp) W0 ifs t)
    (he : ∀ (s : Shared) (H : Hp) (C : Addr) (cl : List (Str × Addr)) (fp : List Addr), QE (X.blk s H scope (compEnvC scope cl C X.env) fp) W0 elt m) (hs : ∀ x, foldedSetIterable iter X.env x = pure x := by intro _; rfl) :
    QS X W B (.Assign [.Name y py] (.ListComp elt [⟨tg, iter, ifs, 0⟩] scope pos) spos) (sSet i (eComp mi g t m vs)) := by
  subst hvs
  exact ps_mono (ps_setLc hc hN hy hyl hsw hi ok (fun s H C cl fp => qg_any (hg s H C cl fp)) ht he hs) fun D σ H h => comp_read hk (asg_read h)
end
/-! ### a def -/
def okArg : Sl → Bool
  | .v _ => true
  | .ow true _ => true
  | _ => false
def finE : List Sl → En → List Sl
  | .ow true z :: ss, s' :: es => s' :: finE ss es
  | s :: ss, _ :: es => s :: finE ss es
  | ss, [] => ss
  | [], _ => []
def runFn (n : Nat) (b : SemS) : FSem := fun ss => if ss.all okArg then (match b (ss ++ List.replicate (n - ss.length) .un) with
  | .ok .nx e' => .ok (.r .none) (finE ss e')
  | .ok (.rt r) e' => .ok r (finE ss e')
  | .exc c t e' => .exc c t (finE ss e')
  | _ => .bad) else .bad
theorem finE_len : ∀ (ss : List Sl) (es : En), (finE ss es).length = ss.length
  | [], [] => rfl
  | [], _ :: _ => rfl
  | .un :: ss, [] => rfl
  | .v _ :: ss, [] => rfl
  | .fz _ :: ss, [] => rfl
  | .ow true _ :: ss, [] => rfl
  | .ow false _ :: ss, [] => rfl
  | .un :: ss, _ :: es => by simp [finE, finE_len ss es]
  | .v _ :: ss, _ :: es => by simp [finE, finE_len ss es]
  | .fz _ :: ss, _ :: es => by simp [finE, finE_len ss es]
  | .ow true _ :: ss, _ :: es => by simp [finE, finE_len ss es]
  | .ow false _ :: ss, _ :: es => by simp [finE, finE_len ss es]
theorem finE_get : ∀ {ss : List Sl} {es : En} {j : Nat} {s : Sl}, ss[j]? = some s → ((∃ z, s = .ow true z) → j < es.length) → (∃ z, s = .ow true z ∧ (finE ss es)[j]? = es[j]?) ∨ ((∀ z, s ≠ .ow true z) ∧ (finE ss es)[j]? = some s)
  | [], _, _, _, h, _ => by simp at h
  | s0 :: ss, [], j, s, h, hl => by
    have e : finE (s0 :: ss) [] = s0 :: ss := by
      cases s0 with
      | ow l z => cases l <;> rfl
      | un => rfl
      | v _ => rfl
      | fz _ => rfl
    refine .inr ⟨fun z ez => ?_, by rw [e]; exact h⟩
    have := hl ⟨z, ez⟩
    simp at this
  | s :: ss, s' :: es, 0, _, h, _ => by
    simp at h; subst h
    cases s with
    | ow l z => cases l with
      | true => exact .inl ⟨z, rfl, rfl⟩
      | false => exact .inr ⟨fun z h => (by cases h), rfl⟩
    | un => exact .inr ⟨fun z h => (by cases h), rfl⟩
    | v _ => exact .inr ⟨fun z h => (by cases h), rfl⟩
    | fz _ => exact .inr ⟨fun z h => (by cases h), rfl⟩
  | s :: ss, s' :: es, j + 1, _, h, hl => by
    have ih := finE_get (ss := ss) (es := es) (j := j) (by simpa using h) (fun q => by have := hl q; simpa using this)
    have e : (finE (s :: ss) (s' :: es))[j + 1]? = (finE ss es)[j]? := by
      cases s with
      | ow l z => cases l <;> simp [finE]
      | un => simp [finE]
      | v _ => simp [finE]
      | fz _ => simp [finE]
    rw [e]
    simpa using ih
section
variable {K : PySem.W.Frag} {F H : Hp}
theorem start_rel {N : List Str} {vs : List V} {ss : List Sl} (R : Rel K ss (vs.map some) F H) : Rel K (ss ++ List.replicate (N.length - ss.length) .un) (start N vs) F H := by
  have hl : ss.length = vs.length := by have := R.len; simpa using this
  have get : ∀ (j : Nat) (s : Sl), (ss ++ List.replicate (N.length - ss.length) Sl.un)[j]? = some s → (j < ss.length ∧ ss[j]? = some s) ∨ s = .un := fun j s h => by
    by_cases q : j < ss.length
    · rw [List.getElem?_append_left q] at h; exact .inl ⟨q, h⟩
    · rw [List.getElem?_append_right (by omega)] at h
      have := List.mem_of_getElem? h
      exact .inr (List.eq_of_mem_replicate this)
  have sg : ∀ j, j < ss.length → (start N vs)[j]? = (vs.map some)[j]? := fun j h => by
    unfold L2.start
    rw [List.getElem?_append_left (by simp; omega)]
  refine ⟨R.sub, by unfold L2.start; simp [hl], fun j s o h1 h2 => ?_, fun j j' l b l' b' p h1 h2 h3 h4 => ?_⟩
  · rcases get j s h1 with ⟨q, h⟩ | rfl
    · rw [sg j q] at h2; exact R.at_ j s o h h2
    · trivial
  · rcases get j _ h1 with ⟨q, g1⟩ | z
    · rcases get j' _ h2 with ⟨q', g2⟩ | z
      · rw [sg j q] at h3; rw [sg j' q'] at h4; exact R.ne j j' l b l' b' p g1 g2 h3 h4
      · cases z
    · cases z
theorem fin_rel {N : List Str} {vs : List V} {ss : List Sl} {e' : En} {σ' : Sg} {F' H' : Hp} (R : Rel K ss (vs.map some) F H) (R' : Rel K e' σ' F' H') (k : BOk ⟨ss ++ List.replicate (N.length - ss.length) .un, start N vs, F, H⟩ e' σ' F' H')
    (ha : ss.all okArg = true) : Rel K (finE ss e') (vs.map some) F' H' ∧ Step ss (finE ss e') (vs.map some) F H F' H' := by
  have hl : ss.length = vs.length := by have := R.len; simpa using this
  have sg : ∀ j, j < ss.length → (start N vs)[j]? = (vs.map some)[j]? := fun j h => by
    unfold L2.start
    rw [List.getElem?_append_left (by simp; omega)]
  have e0 : ∀ j, j < ss.length → (ss ++ List.replicate (N.length - ss.length) Sl.un)[j]? = ss[j]? := fun j h => List.getElem?_append_left h
  have lentLt : ∀ (j : Nat) (z : Bx), ss[j]? = some (.ow true z) → j < e'.length := fun j z h => by
    have hj := (List.getElem?_eq_some_iff.mp h).1
    obtain ⟨⟨b, q⟩, _⟩ := k.lent j z (by show (ss ++ _)[j]? = _; rw [e0 j hj, h])
    rcases q with q | q
    · exact (List.getElem?_eq_some_iff.mp q).1
    · exact (List.getElem?_eq_some_iff.mp q).1
  have get : ∀ (j : Nat) (s : Sl), (finE ss e')[j]? = some s → ∃ s0, ss[j]? = some s0 ∧ j < ss.length ∧ ((∃ z, s0 = .ow true z ∧ e'[j]? = some s ∧ Lent e' j ∧ σ'[j]? = (vs.map some)[j]?) ∨ (s = s0 ∧ ∃ t, s = .v t)) := fun j s h => by
    have hj : j < ss.length := by have := (List.getElem?_eq_some_iff.mp h).1; rw [finE_len] at this; exact this
    have hs : ss[j]? = some ss[j] := List.getElem?_eq_getElem hj
    refine ⟨_, hs, hj, ?_⟩
    rcases finE_get (es := e') hs (fun ⟨z, q⟩ => lentLt j z (by rw [hs, q])) with ⟨z, q, w⟩ | ⟨q, w⟩
    · have hL := k.lent j z (by show (ss ++ _)[j]? = _; rw [e0 j hj, hs, q])
      exact .inl ⟨z, q, by rw [← w, h], hL.1, by rw [hL.2]; exact sg j hj⟩
    · rw [h] at w
      cases w
      have hm : okArg ss[j] = true := List.all_eq_true.mp ha _ (List.getElem_mem hj)
      cases w2 : ss[j] with
      | v t => exact .inr ⟨rfl, t, rfl⟩
      | un => rw [w2] at hm; cases hm
      | fz _ => rw [w2] at hm; cases hm
      | ow l z => cases l with
        | true => exact absurd w2 (q z)
        | false => rw [w2] at hm; cases hm
  have kind : SameKinds ss (finE ss e') := fun j l b h => by
    obtain ⟨s0, h0, hj, q⟩ := get j _ h
    rcases q with ⟨z, ez, he, ⟨b', lent⟩, _⟩ | ⟨_, t, et⟩
    · rw [he] at lent
      rcases lent with lent | lent
      · cases lent; exact ⟨z, by rw [h0, ez]⟩
      · cases lent
    · cases et
  have owB : ∀ a, Own (ss ++ List.replicate (N.length - ss.length) .un) (start N vs) a → Own ss (vs.map some) a := fun a ⟨j, l, b, h1, h2⟩ => by
    by_cases q : j < ss.length
    · rw [e0 j q] at h1; rw [sg j q] at h2; exact ⟨j, l, b, h1, h2⟩
    · rw [List.getElem?_append_right (by omega)] at h1
      have := List.eq_of_mem_replicate (List.mem_of_getElem? h1)
      cases this
  refine ⟨⟨R'.sub, by rw [finE_len, hl]; simp, fun j s o g1 g2 => ?_, fun j j' l b l' b' p g1 g2 g3 g4 => ?_⟩, ⟨k.ff, fun a o h n => k.keep a o h fun z => n (owB a z), k.dom, fun p ⟨j, l, b, g1, g2⟩ => ?_, fun j hj => ?_, kind⟩⟩
  · obtain ⟨s0, h0, hj, q⟩ := get j _ g1
    rcases q with ⟨z, ez, he, _, hs⟩ | ⟨es, t, et⟩
    · exact R'.at_ j s o he (by rw [hs]; exact g2)
    · have w := R.at_ j s o (by rw [es]; exact h0) g2
      subst et
      obtain ⟨y, ey, d⟩ := w
      exact ⟨y, ey, dp_mono k.ff _ _ d⟩
  · obtain ⟨s0, h0, hj, q⟩ := get j _ g1
    obtain ⟨s0', h0', hj', q'⟩ := get j' _ g2
    rcases q with ⟨z, ez, he, _, hs⟩ | ⟨es, t, et⟩
    · rcases q' with ⟨z', ez', he', _, hs'⟩ | ⟨es, t, et⟩
      · exact R'.ne j j' l b l' b' p he he' (by rw [hs]; exact g3) (by rw [hs']; exact g4)
      · cases et
    · cases et
  · obtain ⟨b', q⟩ := kind j l b g1
    exact ⟨j, l, b', q, g2⟩
  · obtain ⟨b, hb⟩ := hj
    rcases hb with hb | hb
    · have hjl : j < ss.length := (List.getElem?_eq_some_iff.mp hb).1
      have hL := k.lent j b (by show (ss ++ _)[j]? = _; rw [e0 j hjl, hb])
      rcases finE_get (es := e') hb (fun ⟨z, q⟩ => lentLt j z (by rw [hb, q])) with ⟨z, _, w⟩ | ⟨w, _⟩
      · obtain ⟨b', q⟩ := hL.1
        exact ⟨b', by rw [w]; exact q⟩
      · exact absurd rfl (w b)
    · have hjl : j < ss.length := (List.getElem?_eq_some_iff.mp hb).1
      have hm : okArg (.fz b) = true := List.all_eq_true.mp ha _ (List.mem_of_getElem? hb)
      cases hm
end
theorem fn_ok {P : Program} {w : World} {K : PySem.W.Frag} {mg : Str → Option Value} {base : Heap} {x qual : Str} {params : Arguments} {body : List Stmt} {scope : Scope} {f : Addr} {fd : FuncData} {N ps : List Str} {k : Nat} {b : SemS}
    (Fn : FunD K x qual params body scope [] [] f fd) (S : FnScope N ps scope)
    (hb : ∀ (cdv : Value) (A : Around) (outer : List Env) (s : Shared) (H : Hp) (E : XK), Room k (A.deeper (envOfC qual scope s.heap.objs.size f cdv)) →
      ∀ B, QSs (cxOf (L2N.CX P w) P w K mg base N qual scope f cdv A outer s H E) (fun cls d _ H => E cls d H) B body b) :
    FnOk P w K mg base (L2N.CX P w) (k + 1) f fd ps (spF K ps.length (runFn N.length b)) := by
  refine Fn.ok S (fun vs H Q E h => h.1) fun cdv A outer s H vs Q E hr ⟨hlen, ss, F, R, h⟩ => ?_
  have hl : ss.length = vs.length := by have := R.len; simpa using this
  have hN : ps.length ≤ N.length := by have := congrArg List.length S.pre; rw [List.length_take] at this; omega
  unfold runFn at h
  by_cases ha : ss.all okArg = true
  · rw [if_pos ha] at h
    refine ⟨_, hb cdv A outer s H E hr ⟨ss ++ List.replicate (N.length - ss.length) Sl.un, L2.start N vs, F, H⟩, ss ++ List.replicate (N.length - ss.length) Sl.un, F, start_rel (N := N) R, ?_, ?_⟩
    · refine ⟨fun _ _ h => h, fun a o h _ => ⟨h, fun z => z⟩, fun a o h => ⟨o, h⟩, fun i b p h1 _ => ?_, fun i b h => ⟨rfl, b, h⟩, fun i b h => ⟨⟨b, .inl h⟩, rfl⟩⟩
      by_cases q : i < ss.length
      · rw [List.getElem?_append_left q] at h1
        have := List.all_eq_true.mp ha _ (List.mem_of_getElem? h1)
        cases this
      · rw [List.getElem?_append_right (by omega)] at h1
        have := List.eq_of_mem_replicate (List.mem_of_getElem? h1)
        cases this
    · cases q : b (ss ++ List.replicate (N.length - ss.length) .un) with
      | bad => rw [q] at h; exact h
      | exc c t e' =>
        rw [q] at h
        intro σ' F' H' cls d R' k' ex
        obtain ⟨a1, a2⟩ := fin_rel R R' k' ha
        exact h F' H' cls d a1 a2 ex
      | ok f e' =>
        rw [q] at h
        cases f with
        | bk => exact h.elim
        | ct => exact h.elim
        | nx =>
          intro σ' F' H' R' k'
          obtain ⟨a1, a2⟩ := fin_rel R R' k' ha
          exact h _ F' H' a1 a2 .non
        | rt r =>
          intro x σ' F' H' R' k' o
          obtain ⟨a1, a2⟩ := fin_rel R R' k' ha
          refine h _ F' H' a1 a2 ?_
          cases r with
          | r t => exact o
          | b z => exact o
          | s i => cases o
  · rw [if_neg ha] at h; exact h.elim
end Ev

set_option Elab.async false
set_option linter.all false
set_option maxRecDepth 100000
namespace Ev
open PySem PySem.Spec PyProof.Rows L2
/-! ### a, b = x, y: names -/
/-- what names alone hold is let go -/
def presc : List Od → En → Option (List Od × En)
  | [], e => some ([], e)
  | .s i :: rs, e => match esc (.s i) e with
    | some (t, e1) => (match presc rs e1 with
      | some (rs', e2) => some (.r t :: rs', e2)
      | none => none)
    | none => none
  | r :: rs, e => match presc rs e with
    | some (rs', e2) => some (r :: rs', e2)
    | none => none
def noS : List Od → Prop
  | [] => True
  | .s _ :: _ => False
  | _ :: rs => noS rs
theorem presc_ok {K : PySem.W.Frag} {σ : Sg} {e0 : En} {F0 H0 H : Hp} (R0 : Rel K e0 σ F0 H0) : ∀ {rs rs' : List Od} {xs : List V} {e e' : En} {F : Hp}, Rel K e σ F H → Step e0 e σ F0 H0 F H → OdsR K σ H0 F H rs xs → presc rs e = some (rs', e') →
    ∃ F', Rel K e' σ F' H ∧ Step e0 e' σ F0 H0 F' H ∧ OdsR K σ H0 F' H rs' xs ∧ noS rs' ∧ (∀ a o, F a = some o → F' a = some o) ∧ (∀ (j : Nat) (z : Bx), rs'[j]? = some (.b z) → rs[j]? = some (.b z)) ∧ ∀ a, H0 a = none → F' a = F a
  | [], _, _, _, _, F, R, S, .nil, h => by cases h; exact ⟨F, R, S, .nil, trivial, fun _ _ h => h, fun j z h => h, fun _ _ => rfl⟩
  | .s i :: rs, _, _, e, _, F, R, S, .cons (x := x) (xs := xs) a b n, h => by
    unfold presc at h
    cases q : esc (.s i) e with
    | none => rw [q] at h; cases h
    | some te =>
      obtain ⟨t, e1⟩ := te
      simp only [q] at h
      cases q2 : presc rs e1 with
      | none => rw [q2] at h; cases h
      | some te2 =>
        obtain ⟨rs', e2⟩ := te2
        simp only [q2] at h
        cases h
        obtain ⟨F1, R1, S1, d1, ff1, only⟩ := esc_ok R0 R S a q
        have b1 : OdsR K σ H0 F1 H rs xs := ods_grow ff1 b fun p j z hj hx hn => by
          rcases only p with e | ⟨ex, e | e⟩
          · exact e
          · obtain ⟨z', e'⟩ := e; cases e'
          · exact absurd (S.own _ e) (fun w => by obtain ⟨_, o, q⟩ := R0.owned w; rw [hn] at q; cases q)
        obtain ⟨F2, R2, S2, d2, ns, ff2, bs, same⟩ := presc_ok R0 R1 S1 b1 q2
        refine ⟨F2, R2, S2, .cons (dp_mono ff2 _ _ d1) d2 (fun z p hr => by cases hr), ns, fun a o h => ff2 _ _ (ff1 _ _ h), fun j z h => ?_, fun a hn => ?_⟩
        · cases j with
          | zero => simp at h
          | succ j => simpa using bs j z (by simpa using h)
        · rw [same a hn]
          rcases only a with e | ⟨ex, e | e⟩
          · exact e
          · obtain ⟨z', e'⟩ := e; cases e'
          · exact absurd (S.own _ e) (fun w => by obtain ⟨_, o, q⟩ := R0.owned w; rw [hn] at q; cases q)
  | .r t :: rs, _, _, e, _, F, R, S, .cons (x := x) (xs := xs) a b n, h => by
    unfold presc at h
    cases q2 : presc rs e with
    | none => rw [q2] at h; cases h
    | some te2 =>
      obtain ⟨rs', e2⟩ := te2
      simp only [q2] at h
      cases h
      obtain ⟨F2, R2, S2, d2, ns, ff2, bs, same⟩ := presc_ok R0 R S b q2
      refine ⟨F2, R2, S2, .cons (dp_mono ff2 _ _ a) d2 (fun z p hr => by cases hr), ns, ff2, fun j z h => ?_, same⟩
      cases j with
      | zero => simp at h
      | succ j => simpa using bs j z (by simpa using h)
  | .b z0 :: rs, _, _, e, _, F, R, S, .cons (x := x) (xs := xs) a b n, h => by
    unfold presc at h
    cases q2 : presc rs e with
    | none => rw [q2] at h; cases h
    | some te2 =>
      obtain ⟨rs', e2⟩ := te2
      simp only [q2] at h
      cases h
      obtain ⟨F2, R2, S2, d2, ns, ff2, bs, same⟩ := presc_ok R0 R S b q2
      have a2 : OdR K σ H0 F2 H x (.b z0) := by
        obtain ⟨p, ep, hn, hf, bx⟩ := a
        exact ⟨p, ep, hn, by rw [same p hn]; exact hf, bx_keep bx ff2 fun _ h => h⟩
      refine ⟨F2, R2, S2, .cons a2 d2 (fun z p hr hx j z' hj => n z p hr hx j z' (bs j z' hj)), ns, ff2, fun j z h => ?_, same⟩
      cases j with
      | zero => simpa using h
      | succ j => simpa using bs j z (by simpa using h)
section
variable {K : PySem.W.Frag} {W : WX} {B : Bd} {e e1 : En} {σ : Sg} {F H H0 : Hp}
theorem put_ok {i : Nat} {r : Od} {x : V} {e' : En} (R : Rel K e σ F H) (k : BOk B e σ F H) (hB : ∀ p, H0 p = none → B.H p = none) (O : OdR K σ H0 F H x r) (ns : ∀ j, r ≠ .s j) (no : ∀ p z, r = .b z → x = .ref p → ¬ Own e σ p) (h : setO i r e = .ok .nx e') :
    Rel K e' (σ.set i (some x)) F H ∧ BOk B e' (σ.set i (some x)) F H ∧ ∀ q, Own e' (σ.set i (some x)) q → Own e σ q ∨ ∃ z, r = .b z ∧ x = .ref q := by
  unfold setO at h
  cases l : isLent e i with
  | true => rw [l] at h; cases h
  | false =>
    rw [l, if_neg (by decide)] at h
    have n := isLent_no l
    cases r with
    | s j => exact absurd rfl (ns j)
    | r t =>
      simp only [esc] at h
      cases h
      obtain ⟨a, b⟩ := set_v R k O n
      refine ⟨a, b, fun q ⟨j, l', b', q1, q2⟩ => .inl ?_⟩
      by_cases ij : i = j
      · subst ij
        have hi : i < e.length := by have := (List.getElem?_eq_some_iff.mp q1).1; simpa using this
        rw [List.getElem?_set_self hi] at q1; cases q1
      · rw [List.getElem?_set_ne ij] at q1 q2; exact ⟨j, l', b', q1, q2⟩
    | b z =>
      cases h
      obtain ⟨p, rfl, hn, hf, bx⟩ := O
      obtain ⟨a, b⟩ := set_b R k hf bx (hB p hn) (no p z rfl rfl) n
      refine ⟨a, b, fun q ⟨j, l', b', q1, q2⟩ => ?_⟩
      by_cases ij : i = j
      · subst ij
        have hi : i < e.length := by have := (List.getElem?_eq_some_iff.mp q1).1; simpa using this
        rw [List.getElem?_set_self (by rw [← R.len]; exact hi)] at q2
        cases q2
        exact .inr ⟨z, rfl, rfl⟩
      · rw [List.getElem?_set_ne ij] at q1 q2; exact .inl ⟨j, l', b', q1, q2⟩
def setOs : List Nat → List Od → En → Option En
  | [], [], e => some e
  | i :: is, r :: rs, e => match setO i r e with
    | .ok .nx e1 => setOs is rs e1
    | _ => none
  | _, _, _ => none
def setsσ : List Nat → List V → Sg → Sg
  | i :: is, x :: xs, σ => setsσ is xs (σ.set i (some x))
  | _, _, σ => σ
theorem sets_ok : ∀ {is : List Nat} {rs : List Od} {xs : List V} {e e' : En} {σ σ0 : Sg}, Rel K e σ F H → BOk B e σ F H → (∀ p, H0 p = none → B.H p = none) → OdsR K σ0 H0 F H rs xs → noS rs → (∀ p (j : Nat) z, rs[j]? = some (.b z) → xs[j]? = some (.ref p) → ¬ Own e σ p) → setOs is rs e = some e' →
    Rel K e' (setsσ is xs σ) F H ∧ BOk B e' (setsσ is xs σ) F H
  | [], [], _, _, _, _, _, R, k, _, .nil, _, _, h => by cases h; exact ⟨R, k⟩
  | [], _ :: _, _, _, _, _, _, _, _, _, _, _, _, h => by cases h
  | _ :: _, [], _, _, _, _, _, _, _, _, _, _, _, h => by cases h
  | i :: is, r :: rs, _, e, _, σ, σ0, R, k, hB, .cons (x := x) (xs := xs) a b n, ns, no, h => by
    unfold setOs at h
    cases q : setO i r e with
    | bad => rw [q] at h; cases h
    | exc _ _ _ => rw [q] at h; cases h
    | ok f e1 =>
      rw [q] at h
      cases f with
      | rt _ => cases h
      | bk => cases h
      | ct => cases h
      | nx =>
        have nsr : (∀ j, r ≠ .s j) ∧ noS rs := by
          cases r with
          | s j => exact ns.elim
          | r t => exact ⟨(fun j q => by cases q), ns⟩
          | b z => exact ⟨(fun j q => by cases q), ns⟩
        have a' : OdR K σ H0 F H x r := by
          cases r with
          | s j => exact ns.elim
          | r t => exact a
          | b z => exact a
        obtain ⟨R1, k1, ow⟩ := put_ok R k hB a' nsr.1 (fun p z er ex => no p 0 z (by rw [er]; rfl) (by rw [ex]; rfl)) q
        refine sets_ok (is := is) (rs := rs) (xs := xs) R1 k1 hB b nsr.2 (fun p j z hj hx hO => ?_) h
        rcases ow p hO with w | ⟨z', er, ex⟩
        · exact no p (j + 1) z (by simpa using hj) (by simpa using hx) w
        · exact n z' p er ex j z hj hx
end
section
variable {X : Cx} {W : WX} {B : Bd} {a b c : Expr} {ma mb mc : SemE} {pos : Pos}
/-- names = values, all at once -/
def sPar (is : List Nat) (m : SemA) : SemS := fun e => (m e).bind fun rs e1 => match presc rs e1 with
  | some (rs', e2) => (match setOs is rs' e2 with
    | some e3 => .ok .nx e3
    | none => .bad)
  | none => .bad
theorem par_read {is : List Nat} {m : SemA} {K : PySem.W.Frag} {D : Ends} {σ : Sg} {H : Hp} (h : tS K W B (sPar is m) D σ H) : tA K W m σ H fun xs H1 => xs.length = is.length ∧ D.nx (setsσ is xs σ) H1 ∧ ∀ p o, H1 p = none → D.nx (setsσ is xs σ) (upd H1 p o) := by
  obtain ⟨e, F, R, k, h⟩ := h
  refine tX_imp (tS_bind (rel := fun σ Hs F H xs rs => OdsR K σ Hs F H rs xs) R k h) fun xs H1 ⟨rs, e1, F1, R1, S1, k1, O, h1⟩ => ?_
  cases q : presc rs e1 with
  | none => simp only [q] at h1; exact h1.elim
  | some te =>
    obtain ⟨rs', e2⟩ := te
    simp only [q] at h1
    obtain ⟨F2, R2, S2, O2, ns, _, _, _⟩ := presc_ok R R1 S1 O q
    have k2 := k.step S2
    cases q2 : setOs is rs' e2 with
    | none => simp only [q2] at h1; exact h1.elim
    | some e3 =>
      simp only [q2] at h1
      have hB : ∀ p, H p = none → B.H p = none := fun p hn => by
        cases q : B.H p with
        | none => rfl
        | some o => obtain ⟨o', e'⟩ := k.dom _ _ q; rw [hn] at e'; cases e'
      have no : ∀ {F' H'}, OdsR K σ H F' H' rs' xs → ∀ p (j : Nat) z, rs'[j]? = some (.b z) → xs[j]? = some (.ref p) → ¬ Own e2 σ p := fun O2 p j z hj hx => by
        obtain ⟨p', hx', hn, _⟩ := ods_tmp O2 j z hj
        rw [hx] at hx'; cases hx'
        exact fresh_not_own R S2 hn
      have len : ∀ {is : List Nat} {rs : List Od} {e e' : En}, setOs is rs e = some e' → is.length = rs.length := by
        intro is
        induction is with
        | nil => intro rs e e' h; cases rs with
          | nil => rfl
          | cons _ _ => cases h
        | cons i is ih => intro rs e e' h; cases rs with
          | nil => cases h
          | cons r rs =>
            unfold setOs at h
            split at h
            · simp [ih h]
            · cases h
      refine ⟨by rw [len q2, ods_len O2], ?_, fun p o hp => ?_⟩
      · obtain ⟨R3, k3⟩ := sets_ok R2 k2 hB O2 ns (no O2) q2
        exact h1 _ _ _ R3 k3
      · have R2' := laid_own (o := o) R2 hp
        have k2' := k2.step (laid_own_step (e := e2) (σ := σ) (F := F2) (o := o) hp)
        have O2' : OdsR K σ H F2 (upd H1 p o) rs' xs := by
          have mono : ∀ {rs xs}, OdsR K σ H F2 H1 rs xs → OdsR K σ H F2 (upd H1 p o) rs xs := by
            intro rs xs O
            induction O with
            | nil => exact .nil
            | cons a b n ih =>
              refine .cons ?_ ih n
              rename_i r x _ _
              cases r with
              | r t => exact a
              | s i => exact a
              | b z =>
                obtain ⟨p', ep, hn, hf, bx⟩ := a
                exact ⟨p', ep, hn, hf, bx_keep bx (fun _ _ h => h) fun o' h' => by rw [upd_ne (ne_of_none h' hp)]; exact h'⟩
          exact mono O2
        obtain ⟨R3, k3⟩ := sets_ok R2' k2' hB O2' ns (no O2') q2
        exact h1 _ _ _ R3 k3
theorem qpar2 {i j : Nat} {x y : Str} {px py pt : Pos} {kt k2 pt2} {m : SemA} (hc : X.calm = true) (hN : X.N.Nodup) (hi : X.N[i]? = some x) (hj : X.N[j]? = some y) (hij : i ≠ j)
    (hx : X.env.scope.names.lookup x = some .local) (hy : X.env.scope.names.lookup y = some .local) (ha : QA X W [a, b] m)
    (hw : swappedStores [.Tuple [.Name x px, .Name y py] kt pt] (.Tuple [a, b] k2 pt2) X.env = pure (some [x, y]))
    (hs : swapsWithSole [.Tuple [.Name x px, .Name y py] kt pt] (.Tuple [a, b] k2 pt2) pos.line X.env = pure false := by rfl) :
    QS X W B (.Assign [.Tuple [.Name x px, .Name y py] kt pt] (.Tuple [a, b] k2 pt2) pos) (sPar [i, j] m) :=
  ps_mono (ps_par hc hN hi hj hij hx hy ha hw hs) fun D σ H h => tX_imp (par_read h) fun xs H1 ⟨hl, q, _⟩ => by
    match xs, hl, q with
    | [v, w], _, q => exact ⟨v, w, rfl, q⟩
/-- by the tuple -/
theorem qparT {tgs es : List Expr} {is : List Nat} {m : SemA} {kt k2 : Nat} {pt pt2 : Pos} {gs : TGs} (hc : X.calm = true) (ha : QA X W es m) (hg : PGs X tgs gs) (hgs : ∀ xs σ H Q, xs.length = is.length → Q (setsσ is xs σ) H → gs xs σ H Q) (hlen : is.length ≤ sizeLine)
    (hs : swapsWithSole [.Tuple tgs kt pt] (.Tuple es k2 pt2) pos.line X.env = pure false := by rfl) (hw : swappedStores [.Tuple tgs kt pt] (.Tuple es k2 pt2) X.env = pure none := by rfl)
    (h1 : (assignEach [.Tuple tgs kt pt] X.env).map (·.2) = [assign (.Tuple tgs kt pt) X.env] := by rfl) (hn : (assignEach tgs X.env).length = is.length := by rfl) (hst : (assignEach tgs X.env).findIdx? (·.1) = none := by rfl) :
    QS X W B (.Assign [.Tuple tgs kt pt] (.Tuple es k2 pt2) pos) (sPar is m) :=
  ps_mono (ps_asg (pe_tup ha) (pg_tup hc hg hn hst) hs hw h1) fun D σ H h => tX_imp (par_read h) fun xs H1 ⟨hl, _, q⟩ =>
    ⟨by rw [hl]; exact hlen, fun p hp => ⟨p, xs, rfl, SqT.of upd_same, hl, hgs _ _ _ _ hl (q p _ hp)⟩⟩
def gsNames : List Nat → TGs
  | [] => gNil
  | i :: is => gCons (gName i) (gsNames is)
theorem gsNames_ok : ∀ (is : List Nat) (xs : List V) (σ : Sg) (H : Hp) (Q : Sg → Hp → Prop), xs.length = is.length → Q (setsσ is xs σ) H → gsNames is xs σ H Q
  | [], [], σ, H, Q, _, h => ⟨rfl, h⟩
  | [], _ :: _, _, _, _, h, _ => by cases h
  | _ :: _, [], _, _, _, h, _ => by cases h
  | i :: is, x :: xs, σ, H, Q, hl, h => ⟨x, xs, rfl, gsNames_ok is xs _ H Q (by simpa using hl) h⟩
end
end Ev

set_option Elab.async false
set_option linter.all false
set_option maxRecDepth 100000
namespace Ev
open PySem PySem.Spec PyProof.Rows L2
section
variable {X : Cx} {W : WX} {B : Bd} {a b c : Expr} {ma mb mc : SemE} {pos : Pos}
/-! ### calls -/
theorem call0_read {n : Nat} {m : FSem} {K : PySem.W.Frag} {σ : Sg} {H : Hp} {Q : VK} (h : tE K W (eCall n m aNil) σ H Q) : spF K n m [] H Q (WE W σ) := by
  obtain ⟨e, F, R, h1⟩ := h
  have h1 : OutX K W (OdR K σ) (if ([] : List Od).length = n then eCallR m [] e else .bad) e σ F H Q := h1
  by_cases hl : ([] : List Od).length = n
  · rw [if_pos hl] at h1
    refine ⟨hl, ?_⟩
    have h1 : OutX K W (OdR K σ) (if (sIdx []).Nodup then (match m [] with
      | .ok (.s _) _ => .bad
      | .ok r ss' => .ok r (wb [] ss' e)
      | .exc c t ss' => .exc c t (wb [] ss' e)
      | .bad => .bad) else .bad) e σ F H Q := h1
    have nd0 : (sIdx []).Nodup := List.nodup_nil
    rw [if_pos nd0] at h1
    obtain ⟨RA, _⟩ := args_rel R R .refl (.nil : OdsR K σ H F H [] []) rfl List.nodup_nil
    refine ⟨[], F, RA, ?_⟩
    cases w : m [] with
    | bad => rw [w] at h1; exact h1
    | exc c t ss' =>
      rw [w] at h1
      exact fun F' H' cls d R' S' x => let ⟨a, b⟩ := back_rel R R .refl (.nil : OdsR K σ H F H [] []) rfl List.nodup_nil R' S'; h1 F' H' cls d a b x
    | ok r ss' =>
      rw [w] at h1
      intro x F' H' R' S' o
      obtain ⟨a, b⟩ := back_rel R R .refl (.nil : OdsR K σ H F H [] []) rfl List.nodup_nil R' S'
      cases r with
      | s i => exact h1.elim
      | r t => exact h1 x F' H' a b o
      | b z => exact h1 x F' H' a b o
  · rw [if_neg hl] at h1; exact h1.elim
def tCallS0 (sp : Sp) (E : Sg → XK) : TE := fun σ H Q => sp [] H Q (E σ)
theorem pe_callS0 {CX : CXT} {k : Nat} {f : Addr} {fd : FuncData} {ps : List Str} {sp : Sp} {E : Sg → XK} {x : Str} {p : Pos} (Fn : FnOk X.prog X.w X.K X.mg X.base CX k f fd ps sp) (hr : Room k X.A) (hg : Gl X x) (hm : X.mg x = some (.ref f)) (hk : PySem.W.keepIn X.K (.ref f) = true) (hb : Binds X.K fd ps [])
    (hx : ∀ σ, PassesAt CX X σ (E σ)) (hdb : (x == ("__debug__" : Str)) = false := by decide) : PE X (.Call (.Name x p) [] [] pos) (tCallS0 sp E) := by
  refine ⟨fun pins s σ H Q I h => ?_⟩
  refine wpAny_Call_Name_kw (ld_glob I hg hm ?_ hdb)
  exact PySem.W.callWith_K0 I.kIn hk (run_fnS (us := []) (vs := []) Fn hr hb (hx σ) I .nil h)
theorem qcall0 {CX : CXT} {k : Nat} {f : Addr} {fd : FuncData} {ps : List Str} {m : FSem} {x : Str} {p : Pos} {n : Nat} (Fn : FnOk X.prog X.w X.K X.mg X.base CX k f fd ps (spF X.K n m)) (hr : Room k X.A) (hg : Gl X x) (hm : X.mg x = some (.ref f)) (hk : PySem.W.keepIn X.K (.ref f) = true)
    (hb : Binds X.K fd ps []) (hx : ∀ σ, PassesAt CX X σ (WE W σ)) (hdb : (x == ("__debug__" : Str)) = false := by decide) : QE X W (.Call (.Name x p) [] [] pos) (eCall n m aNil) :=
  pe_mono (pe_callS0 (E := fun σ => WE W σ) Fn hr hg hm hk hb hx hdb) fun σ H Q h => call0_read h
/-! ### x.index(y) -/
def findT (ts : List T) (u : T) : Option Nat := ts.findIdx? fun z => PyData.eqv z u
def eIndex (mo : SemE) (ma : SemA) : SemE := fun e => (mo e).bind fun r e1 => match r.val e1 with
  | some (.list _) => (ma e1).bind fun rs e2 => (match r.val e2, vals e2 rs with
    | some (.list ts), some [u] => if SeqAt.shaped (.list ts) && SeqAt.shaped u then (match findT ts u with
      | some j => .ok (.r (.int (j : Nat))) e2
      | none => .bad) else .bad
    | _, _ => .bad)
  | _ => .bad
theorem qindex {o : Expr} {mo : SemE} {m : SemA} {apos cpos : Pos} {es : List Expr} (hu : X.A.units + 65 < cLine) (ho : QE X W o mo) (ha : QA X W (a :: es) m)
    (hbase : attributeBase o "index" X.env (eval o X.env) = eval o X.env := by rfl)
    (hfew : ((backTo cpos (starEach (a :: es) X.env)).all (fun x => !x.1) && (backToKw cpos (keywordEach [] X.env)).all (fun x => x.1.isSome)
      && decide ((a :: es).length + ([] : List Keyword).length + (if ([] : List Keyword).isEmpty then 0 else 1) < 30)) = true := by rfl)
    (hline : (apos.endLine == cpos.line) = true := by rfl) (hs : starEach (a :: es) X.env = (false, eval a X.env) :: starEach es X.env := by rfl) (hplain : (backTo cpos (starEach es X.env)).any (·.1) = false := by rfl) :
    QE X W (.Call (.Attribute o "index" apos) (a :: es) [] cpos) (eIndex mo m) :=
  pe_mono (pe_bm PySem.F.plainAttrs_list PySem.F.slot_list_index PySem.F.type_list_index (mt_indexD hu) ho ha hbase hfew hline hs hplain) fun σ H Q h => by
    obtain ⟨e, F, R, h⟩ := h
    refine tX_imp (tX_bind (rel := fun σ => OdR X.K σ) R .refl h) fun x H1 ⟨r, e1, F1, R1, S1, O1, h1⟩ => ?_
    cases q : r.val e1 with
    | none => simp only [q] at h1; exact h1.elim
    | some t =>
      have d := val_ok R1 O1 q
      cases t with
      | list ts0 =>
        simp only [q] at h1
        obtain ⟨p, xs, rfl, hs, _⟩ := d
        refine ⟨.inl ⟨rfl, xs, hs⟩, ?_⟩
        refine tX_imp (tX_bind (rel := fun σ Hs F H xs rs => OdsR X.K σ Hs F H rs xs) R1 S1 h1) fun vs H2 ⟨rs, e2, F2, R2, S2, O2, h2⟩ => ?_
        have O1' := od_stay O1 (fun p hp => fresh_not_own R S1 hp) S2
        split at h2
        · rename_i ts u q1 q2
          split at h2
          · rename_i hsh
            rw [Bool.and_eq_true] at hsh
            cases q3 : findT ts u with
            | none => simp only [q3] at h2; exact h2.elim
            | some j =>
              simp only [q3] at h2
              have d1 := (val_ok R2 O1' q1).dp R2.sub
              have d2 := vals_ok R2 O2 q2
              cases d2 with
              | cons du dn =>
                cases dn
                have fi := List.findIdx?_eq_some_iff_getElem.mp q3
                obtain ⟨hj, hz, hno⟩ := fi
                refine ⟨p, _, u, ts, j, ts[j], rfl, rfl, d1, du.dp R2.sub, hsh.1, hsh.2, List.getElem?_eq_getElem hj, hz, fun m z' hm hz' => ?_, h2 _ F2 H2 R2 (S1.trans S2) (.int _)⟩
                obtain ⟨hml, e⟩ := List.getElem?_eq_some_iff.mp hz'
                have := hno m hm
                rw [e] at this
                simpa using this
          · exact h2.elim
        · exact h2.elim
      | none => simp only [q] at h1; exact h1.elim
      | bool _ => simp only [q] at h1; exact h1.elim
      | str _ => simp only [q] at h1; exact h1.elim
      | int _ => simp only [q] at h1; exact h1.elim
      | tuple _ => simp only [q] at h1; exact h1.elim
      | dict _ => simp only [q] at h1; exact h1.elim
/-! ### x[i] = v of a list that a name alone holds -/
def sSetIx (i : Nat) (mi mv : SemE) : SemS := fun e => (mv e).bind fun r e1 => match e1[i]? with
  | some (.ow _ (.l _)) => (mi e1).bind fun ri e2 => (match ri.val e2, esc r e2 with
    | some (.int k), some (t, e3) => (match e3[i]? with
      | some (.ow l (.l ts)) => (match ixN ts.length k with
        | some j => .ok .nx (e3.set i (.ow l (.l (ts.set j t))))
        | none => .bad)
      | _ => .bad)
    | _, _ => .bad)
  | _ => .bad
theorem qsetix {i : Nat} {x : Str} {p p' : Pos} {ix v : Expr} {mi mv : SemE} (hN : X.N[i]? = some x) (hv : Vis X.env.scope x) (hi : QE X W ix mi) (hval : QE X W v mv) (hd : (x == ("__debug__" : Str)) = false := by decide) (hcd : (x == ("__classdict__" : Str)) = false := by decide)
    (ha : ∀ w, assign (.Subscript (.Name x p) ix p') X.env w = (do
      let ov ← holding [w] (eval (.Name x p) X.env)
      let iv ← holding [w, ov] (eval ix X.env)
      standAt p'
      holding [w, ov, iv] (setItem ov iv w)
      release [w, ov, iv] []) := by intro _; rfl)
    (hs : swapsWithSole [.Subscript (.Name x p) ix p'] v pos.line X.env = pure false := by rfl) (hw : swappedStores [.Subscript (.Name x p) ix p'] v X.env = pure none := by rfl)
    (h1 : (assignEach [.Subscript (.Name x p) ix p'] X.env).map (·.2) = [assign (.Subscript (.Name x p) ix p') X.env] := by rfl) : QS X W B (.Assign [.Subscript (.Name x p) ix p'] v pos) (sSetIx i mi mv) := by
  refine ps_mono (ps_asg hval (pg_sub (pe_var hN hv hd hcd) hi set_list ha) hs hw h1) fun D σ H h => ?_
  obtain ⟨e, F, R, k, h⟩ := h
  refine tX_imp (tS_bind (rel := fun σ => OdR X.K σ) R k h) fun y H1 ⟨r, e1, F1, R1, S1, k1, O1, h1⟩ => ?_
  split at h1
  rename_i l0 ts0 q0
  obtain ⟨o, hs0, p, ep, _⟩ := R1.var q0
  subst ep
  refine ⟨_, hs0, tX_imp (tS_bind (B := B) (m := mi) (rel := fun σ => OdR X.K σ) R1 k1 h1) fun iv H2 ⟨ri, e2, F2, R2, S2, k2, O2, h2⟩ => ?_⟩
  have O1' := od_stay O1 (fun p hp => fresh_not_own R S1 hp) S2
  split at h2
  · rename_i kk t e3 q1 q2
    have d := val_ok R2 O2 q1
    cases d
    obtain ⟨F3, R3, S3, d3, _⟩ := esc_ok R R2 (S1.trans S2) O1' q2
    split at h2
    · rename_i l ts q3
      cases q4 : ixN ts.length kk with
      | none => simp only [q4] at h2; exact h2.elim
      | some j =>
        simp only [q4] at h2
        obtain ⟨p', ep, hf, xs, hx, dd⟩ := R3.at_ i _ _ q3 hs0
        cases ep
        refine ⟨p, xs, kk, j, rfl, rfl, hx, by rw [dpAll_len dd]; exact q4, ?_⟩
        obtain ⟨R4, S4⟩ := upd_own R3 q3 hs0 (dpAll_set d3 j dd)
        exact h2 σ F3 _ R4 ((k.step S3).step S4)
    · exact h2.elim
  · exact h2.elim
  · exact h1.elim
end
end Ev

set_option Elab.async false
set_option linter.all false
set_option maxRecDepth 100000
namespace Ev
open PySem PySem.Spec PyProof.Rows L2
section
variable {X : Cx} {W : WX} {B : Bd} {a b c : Expr} {ma mb mc : SemE} {pos : Pos}
/-! ### f(k = v, ..): keywords alone -/
abbrev QK (X : Cx) (W : WX) (kws : List Keyword) (m : SemA) : Prop := PK X kws (tA X.K W m)
theorem pk_mono {kws : List Keyword} {t t' : TA} (h : PK X kws t) (m : ∀ σ H Q, t' σ H Q → t σ H Q) : PK X kws t' := ⟨fun pos pins s σ H Q I q => h.run pos pins s σ H Q I (m σ H Q q)⟩
theorem qk_nil : QK X W [] aNil := pk_mono pk_nil fun σ H Q ⟨e, F, R, h⟩ => h _ F H R .refl .nil
theorem qk_cons {kws : List Keyword} {mr : SemA} {nm : Option Str} {kpos : Pos} (ha : QE X W a ma) (hr : QK X W kws mr) : QK X W (⟨nm, a, kpos⟩ :: kws) (aCons ma mr) := by
  refine pk_mono (pk_cons ha hr) fun σ H Q h => ?_
  obtain ⟨e, F, R, h⟩ := h
  refine tX_imp (tX_bind R .refl h) fun x H1 ⟨r, e1, F1, R1, S1, O1, h1⟩ => ?_
  refine tX_imp (tX_bind (rel := fun σ Hs F H xs rs => OdsR X.K σ Hs F H rs xs) R1 S1 h1) fun xs H2 ⟨rs, e2, F2, R2, S2, O2, h2⟩ => ?_
  refine h2 _ F2 H2 R2 (S1.trans S2) (.cons (od_stay O1 (fun p hp => fresh_not_own R S1 hp) S2) (ods_back S1 O2) fun z p er ex j z' hj hx => ?_)
  subst er
  obtain ⟨p', ep, hn, hf, bx⟩ := O1
  rw [ex] at ep; cases ep
  obtain ⟨q, hq, hn2, _⟩ := ods_tmp O2 j z' hj
  rw [hx] at hq; cases hq
  obtain ⟨o, ho⟩ := bx_some bx
  rw [hn2] at ho; cases ho
def pick {α : Type} (perm : List Nat) (l : List α) : List α := perm.filterMap (l[·]?)
theorem pick_ods {K : PySem.W.Frag} {σ : Sg} {Hs F H : Hp} {rs : List Od} {xs : List V} (O : OdsR K σ Hs F H rs xs) : ∀ {perm : List Nat}, perm.Nodup → OdsR K σ Hs F H (pick perm rs) (pick perm xs)
  | [], _ => .nil
  | i :: perm, nd => by
    have ih := pick_ods O (List.nodup_cons.mp nd).2
    by_cases hi : i < rs.length
    · have h1 : rs[i]? = some rs[i] := List.getElem?_eq_getElem hi
      obtain ⟨x, hx, o⟩ := ods_get O h1
      have e1 : pick (i :: perm) rs = rs[i] :: pick perm rs := by unfold pick; rw [List.filterMap_cons, h1]
      have e2 : pick (i :: perm) xs = x :: pick perm xs := by unfold pick; rw [List.filterMap_cons, hx]
      rw [e1, e2]
      refine .cons o ih fun z p er ex j z' hj hxj => ?_
      subst ex
      -- the j-th of the picked ones stands at some place of perm
      have key : ∀ {perm : List Nat} {j : Nat}, (pick perm rs)[j]? = some (.b z') → (pick perm xs)[j]? = some (.ref p) → ∃ k ∈ perm, rs[k]? = some (.b z') ∧ xs[k]? = some (.ref p) := by
        intro perm
        induction perm with
        | nil => intro j h _; simp [pick] at h
        | cons k perm ih2 =>
          intro j h1 h2
          by_cases hk : k < rs.length
          · have g1 : rs[k]? = some rs[k] := List.getElem?_eq_getElem hk
            obtain ⟨y, hy, _⟩ := ods_get O g1
            have f1 : pick (k :: perm) rs = rs[k] :: pick perm rs := by unfold pick; rw [List.filterMap_cons, g1]
            have f2 : pick (k :: perm) xs = y :: pick perm xs := by unfold pick; rw [List.filterMap_cons, hy]
            rw [f1] at h1; rw [f2] at h2
            cases j with
            | zero => simp at h1 h2; exact ⟨k, List.mem_cons_self, by rw [g1, h1], by rw [hy, h2]⟩
            | succ j =>
              obtain ⟨k', m, q⟩ := ih2 (j := j) (by simpa using h1) (by simpa using h2)
              exact ⟨k', List.mem_cons_of_mem _ m, q⟩
          · have g1 : rs[k]? = none := List.getElem?_eq_none (by omega)
            have g2 : xs[k]? = none := List.getElem?_eq_none (by rw [← ods_len O]; omega)
            have f1 : pick (k :: perm) rs = pick perm rs := by unfold pick; rw [List.filterMap_cons, g1]
            have f2 : pick (k :: perm) xs = pick perm xs := by unfold pick; rw [List.filterMap_cons, g2]
            rw [f1] at h1; rw [f2] at h2
            obtain ⟨k', m, q⟩ := ih2 (j := j) h1 h2
            exact ⟨k', List.mem_cons_of_mem _ m, q⟩
      obtain ⟨k, hk, q1, q2⟩ := key hj hxj
      have := ods_ne O (h1.trans (by rw [er])) q1 hx q2
      subst this
      exact (List.nodup_cons.mp nd).1 hk
    · have g1 : rs[i]? = none := List.getElem?_eq_none (by omega)
      have g2 : xs[i]? = none := List.getElem?_eq_none (by rw [← ods_len O]; omega)
      have f1 : pick (i :: perm) rs = pick perm rs := by unfold pick; rw [List.filterMap_cons, g1]
      have f2 : pick (i :: perm) xs = pick perm xs := by unfold pick; rw [List.filterMap_cons, g2]
      rw [f1, f2]; exact ih
theorem pick_vals {xs : List V} {us : List Value} (r : Vals xs us) : ∀ (perm : List Nat), Vals (pick perm xs) (pick perm us)
  | [] => .nil
  | i :: perm => by
    have ih := pick_vals r perm
    cases q : xs[i]? with
    | none =>
      have f1 : pick (i :: perm) xs = pick perm xs := by unfold pick; rw [List.filterMap_cons, q]
      have f2 : pick (i :: perm) us = pick perm us := by unfold pick; rw [List.filterMap_cons, r.none_of q]
      rw [f1, f2]; exact ih
    | some x =>
      obtain ⟨u, hu, ru⟩ := r.get q
      have f1 : pick (i :: perm) xs = x :: pick perm xs := by unfold pick; rw [List.filterMap_cons, q]
      have f2 : pick (i :: perm) us = u :: pick perm us := by unfold pick; rw [List.filterMap_cons, hu]
      rw [f1, f2]; exact .cons ru ih
/-- how keywords alone are bound -/
def KwBinds (K : PySem.W.Frag) (fd : FuncData) (ps ks : List Str) (perm : List Nat) : Prop := ∀ (s : Shared) (ws : List Value), ws.length = ks.length → BindsTo s fd ⟨[], ks.zip ws⟩ (ps.zip (pick perm ws))
theorem kwBinds_of {K : PySem.W.Frag} {x qual : Str} {params : Arguments} {body : List Stmt} {scope : Scope} {kws : List (Str × V)} {f : Addr} {fd : FuncData} {ps ks : List Str} {perm : List Nat} (F : FunD K x qual params body scope [] kws f fd)
    (h : ∀ (kV doc pm : Value) (an : Option Addr) (cdv ct : Value) (ws : List Value), ws.length = ks.length → bindArgs (PySem.W.fnOf x qual params body scope .none kV doc pm an cdv ct) ⟨[], ks.zip ws⟩ = pure (ps.zip (pick perm ws))) : KwBinds K fd ps ks perm := fun s ws hl => by
  obtain ⟨oc, od, dV, kV, doc, pm, an, cdv, ct, osl, rfl, lk, hcd, hD, hK⟩ := F.ex
  rcases hD with ⟨_, rfl⟩ | ⟨e, _⟩
  · exact .of_eq (h kV doc pm an cdv ct ws hl)
  · exact absurd rfl e
def tCallKS (sp : Sp) (perm : List Nat) (n : Nat) (E : Sg → XK) (tk : TA) : TE := fun σ H Q => tk σ H fun zs H1 => zs.length = n ∧ sp (pick perm zs) H1 Q (E σ)
theorem pe_callKS {CX : CXT} {k : Nat} {f : Addr} {fd : FuncData} {ps ks : List Str} {sp : Sp} {E : Sg → XK} {x : Str} {p : Pos} {kws : List Keyword} {tk : TA} {perm : List Nat} (Fn : FnOk X.prog X.w X.K X.mg X.base CX k f fd ps sp) (hr : Room k X.A) (hg : Gl X x) (hm : X.mg x = some (.ref f)) (hk : PySem.W.keepIn X.K (.ref f) = true)
    (hb : KwBinds X.K fd ps ks perm) (hx : ∀ σ, PassesAt CX X σ (E σ)) (hkw : PK X kws tk) (hall : (backToKw pos (keywordEach kws X.env)).all (·.1.isSome) = true := by rfl) (hks : (backToKw pos (keywordEach kws X.env)).filterMap (·.1) = ks := by rfl)
    (hdb : (x == ("__debug__" : Str)) = false := by decide) (hpl : ((backTo pos (starEach [] X.env)).any (·.1) || (backToKw pos (keywordEach kws X.env)).any (·.1.isNone)) = false := by rfl) :
    PE X (.Call (.Name x p) [] kws pos) (tCallKS sp perm ks.length E tk) := by
  refine ⟨fun pins s σ H Q I h => ?_⟩
  refine wpAny_Call_Name_kw (ld_glob I hg hm ?_ hdb)
  refine PySem.W.callWith_KW0 (h₀ := X.base) I.ok.mod.kin hk hall ?_ hpl
  refine thn (hkw.run pos pins s σ H _ I h) fun ws s2 ⟨zs, H2, I2, rz, hl, q2⟩ => ⟨I2.kIn, ?_⟩
  rw [hks]
  have hl2 : ws.length = ks.length := by rw [← rz.length]; exact hl
  refine wpAny_call (codeAny_mono (Fn.run X.A X.stack s2 H2 ⟨[], ks.zip ws⟩ (pick perm ws) (pick perm zs) Q (E σ) hr I2.env0 (hb s2 ws hl2) (pick_vals rz perm) q2) fun r s' hq => ?_)
  cases r with
  | error e => exact hx σ pins H2 s2 e s' I2 hq
  | ok fl =>
    cases fl with
    | ret u => exact I2.after hq
    | next => exact False.elim hq
    | brk => exact False.elim hq
    | cont => exact False.elim hq
def eCallK (n : Nat) (perm : List Nat) (m : FSem) (mk : SemA) : SemE := fun e => (mk e).bind fun rs e1 => if (pick perm rs).length = n ∧ rs.length = n ∧ perm.Nodup then eCallR m (pick perm rs) e1 else .bad
theorem callK_read {n : Nat} {perm : List Nat} {m : FSem} {ma : SemA} {K : PySem.W.Frag} {σ : Sg} {H : Hp} {Q : VK} (h : tE K W (eCallK n perm m ma) σ H Q) : tA K W ma σ H fun vs H1 => vs.length = n ∧ spF K n m (pick perm vs) H1 Q (WE W σ) := by
  obtain ⟨e, F, R, h⟩ := h
  refine tX_imp (tX_bind (rel := fun σ Hs F H xs rs => OdsR K σ Hs F H rs xs) R .refl h) fun xs0 H1 ⟨rs0, e1, F1, R1, S1, O0, h1⟩ => ?_
  by_cases hl0 : (pick perm rs0).length = n ∧ rs0.length = n ∧ perm.Nodup
  · rw [if_pos hl0] at h1
    obtain ⟨hl, hl1, ndp⟩ := hl0
    have O1 := pick_ods O0 ndp
    refine ⟨by rw [← ods_len O0]; exact hl1, by rw [← ods_len O1]; exact hl, ?_⟩
    generalize pick perm rs0 = rs at *
    generalize pick perm xs0 = xs at *
    unfold eCallR at h1
    cases q : toSls e1 rs with
    | none => rw [q] at h1; exact h1.elim
    | some ss =>
      simp only [q] at h1
      by_cases nd : (sIdx rs).Nodup
      · rw [if_pos nd] at h1
        obtain ⟨RA, _⟩ := args_rel R R1 S1 O1 q nd
        refine ⟨ss, F1, RA, ?_⟩
        cases w : m ss with
        | bad => rw [w] at h1; exact h1
        | exc c t ss' =>
          rw [w] at h1
          exact fun F' H' cls d R' S' x => let ⟨a, b⟩ := back_rel R R1 S1 O1 q nd R' S'; h1 F' H' cls d a b x
        | ok r ss' =>
          rw [w] at h1
          intro x F' H' R' S' o
          obtain ⟨a, b⟩ := back_rel R R1 S1 O1 q nd R' S'
          cases r with
          | s i => exact h1.elim
          | r t => exact h1 x F' H' a b o
          | b z => obtain ⟨p, ep, hn, hf, bx⟩ := o; exact h1 x F' H' a b ⟨p, ep, step_none S1 hn, hf, bx⟩
      · rw [if_neg nd] at h1; exact h1.elim
  · rw [if_neg hl0] at h1; exact h1.elim
theorem qcallk {CX : CXT} {k : Nat} {f : Addr} {fd : FuncData} {ps ks : List Str} {m : FSem} {ma : SemA} {x : Str} {p : Pos} {kws : List Keyword} {perm : List Nat} (Fn : FnOk X.prog X.w X.K X.mg X.base CX k f fd ps (spF X.K ks.length m)) (hr : Room k X.A) (hg : Gl X x) (hm : X.mg x = some (.ref f)) (hk : PySem.W.keepIn X.K (.ref f) = true)
    (hb : KwBinds X.K fd ps ks perm) (hx : ∀ σ, PassesAt CX X σ (WE W σ)) (hkw : QK X W kws ma) (hall : (backToKw pos (keywordEach kws X.env)).all (·.1.isSome) = true := by rfl) (hks : (backToKw pos (keywordEach kws X.env)).filterMap (·.1) = ks := by rfl)
    (hdb : (x == ("__debug__" : Str)) = false := by decide) (hpl : ((backTo pos (starEach [] X.env)).any (·.1) || (backToKw pos (keywordEach kws X.env)).any (·.1.isNone)) = false := by rfl) :
    QE X W (.Call (.Name x p) [] kws pos) (eCallK ks.length perm m ma) :=
  pe_mono (pe_callKS (E := fun σ => WE W σ) Fn hr hg hm hk hb hx hkw hall hks hdb hpl) fun σ H Q h => callK_read h
/-! ### a < b < c -/
def eChain (f f' : T → T → Option Od) (ma mb mc : SemE) : SemE := fun e => (ma e).bind fun r e1 => (mb e1).bind fun r2 e2 => match r.val e2, r2.val e2 with
  | some (.int i), some (.int j) => (match f (.int i) (.int j) with
    | some (.r (.bool true)) => (mc e2).bind fun r3 e3 => (match r3.val e3 with
      | some (.int k) => (match f' (.int j) (.int k) with
        | some (.r (.bool c)) => .ok (.r (.bool c)) e3
        | _ => .bad)
      | _ => .bad)
    | some (.r (.bool false)) => .ok (.r (.bool false)) e2
    | _ => .bad)
  | _, _ => .bad
end
/-! ### the law's own end -/
theorem law_sp {K : PySem.W.Frag} {m : FSem} {a : Addr} {H : Hp} {ns : List Int} (hS : SqL K H a (ns.map V.int)) (h : ∃ e', m [.v (.list (ns.map PyData.int))] = .ok (.r (.bool true)) e') : spF K 1 m [.ref a] H (fun v _ => v = .bl true) fun _ _ _ => False := by
  obtain ⟨e', h⟩ := h
  have dp : DpAll K H (ns.map V.int) (ns.map PyData.int) := by
    clear hS h
    induction ns with
    | nil => exact .nil
    | cons n ns ih => exact .cons (.int n) ih
  refine ⟨rfl, [.v (.list (ns.map PyData.int))], H, ⟨fun _ _ h => h, rfl, fun i s o h1 h2 => ?_, fun i j l b l' b' p h1 => ?_⟩, ?_⟩
  · cases i with
    | zero => simp at h1 h2; subst h1 h2; exact ⟨_, rfl, .lst hS dp⟩
    | succ i => simp at h1
  · cases i with
    | zero => simp at h1
    | succ i => simp at h1
  · rw [h]
    intro x F' H' R' S' o
    cases o
    rfl
theorem law_CX {P : Program} {w : World} (H : Hp) (s : Shared) (e : Value) (s' : Shared) : L2N.CX P w [] H s (fun _ _ _ => False) e s' → False := fun h => by
  obtain ⟨_, _, _, _, _, _, _, _, _, _, _, _, z⟩ := h
  exact z.elim
theorem takesN0 {X : Cx} : L2N.Takes X (fun _ _ _ _ => False) := fun _ _ x => by
  obtain ⟨_, _, _, _, _, _, _, _, _, _, _, _, _, _, _, _, z⟩ := x
  exact z.elim
end Ev
namespace Ev
open PySem PySem.Spec PyProof.Rows L2
theorem room65 {k : Nat} {A : Around} (r : Room k A) : A.units + 65 < cLine := by have := r.un; omega
section
variable {X : Cx} {W : WX} {B : Bd} {a : Expr} {ma : SemE} {pos : Pos}
/-- name += e, ints -/
def sAug (i : Nat) (g : T → T → Option Od) (m : SemE) : SemS := fun e => match e[i]? with
  | some (.v t) => (m e).bind fun r e1 => (match r.val e1 with
    | some u => (match g t u with
      | some (.r (.int k)) => setO i (.r (.int k)) e1
      | _ => .bad)
    | none => .bad)
  | _ => .bad
theorem qaug_add {i : Nat} {x : Str} {pos' : Pos} (hN : X.N.Nodup) (hi : X.N[i]? = some x) (hx : Loc X.env.scope x) (he : QE X W a ma) (hf : X.fn x = true ∨ X.env.scope.names.lookup x = some .local := by first | exact .inl rfl | exact .inr rfl | assumption) :
    QS X W B (.AugAssign (.Name x pos') .Add a pos) (sAug i (gII (fun _ _ => true) fun i j => .int (i + j)) ma) := by
  refine ps_mono (ps_aug hN hi hx he ip_add hf) fun D σ H h => ?_
  obtain ⟨e, F, R, k, h⟩ := h
  simp only [sAug] at h
  split at h
  · rename_i t q
    obtain ⟨o, ho, x0, ex, d⟩ := R.var q
    subst ex
    refine ⟨x0, ho, tX_imp (tS_bind (m := ma) (rel := fun σ => OdR X.K σ) R k h) fun y H1 ⟨r, e1, F1, R1, S1, k1, O, h1⟩ => ?_⟩
    cases q1 : r.val e1 with
    | none => simp only [q1] at h1; exact h1.elim
    | some u =>
      simp only [q1] at h1
      cases t with
      | int i0 =>
        cases u with
        | int j0 =>
          have d1 := val_ok R1 O q1
          cases d; cases d1
          exact ⟨i0, j0, rfl, rfl, set_ok (r := .r (.int (i0 + j0))) R k R1 S1 (.int _) h1⟩
        | _ => exact h1.elim
      | _ => exact h1.elim
  · exact h.elim
end
end Ev

set_option Elab.async false
set_option linter.all false
set_option maxRecDepth 100000
namespace Ev
open PySem PySem.Spec PyProof.Rows L2
/-- each once -/
def dd {α : Type} [DecidableEq α] : List α → List α
  | [] => []
  | x :: xs => if x ∈ xs then dd xs else x :: dd xs
theorem mem_dd {α : Type} [DecidableEq α] {a : α} : ∀ {xs : List α}, a ∈ dd xs ↔ a ∈ xs
  | [] => Iff.rfl
  | x :: xs => by
    unfold dd
    split
    · rename_i h
      rw [mem_dd, List.mem_cons]
      exact ⟨.inr, fun q => q.elim (fun z => z ▸ h) id⟩
    · rw [List.mem_cons, List.mem_cons, mem_dd]
theorem nodup_dd {α : Type} [DecidableEq α] : ∀ (xs : List α), (dd xs).Nodup
  | [] => List.nodup_nil
  | x :: xs => by
    unfold dd
    split
    · exact nodup_dd xs
    · rename_i h
      exact List.nodup_cons.mpr ⟨fun z => h (mem_dd.mp z), nodup_dd xs⟩
theorem len_le_of_sub {α : Type} [DecidableEq α] : ∀ {xs ys : List α}, xs.Nodup → (∀ a ∈ xs, a ∈ ys) → xs.length ≤ ys.length
  | [], _, _, _ => Nat.zero_le _
  | x :: xs, ys, nd, h => by
    have hx : x ∈ ys := h x List.mem_cons_self
    have := len_le_of_sub (xs := xs) (ys := ys.erase x) (List.nodup_cons.mp nd).2 fun a ha => by
      have ne : a ≠ x := fun z => (List.nodup_cons.mp nd).1 (z ▸ ha)
      exact (List.mem_erase_of_ne ne).mpr (h a (List.mem_cons_of_mem _ ha))
    rw [List.length_erase_of_mem hx] at this
    have hp : 0 < ys.length := List.length_pos_of_mem hx
    simp only [List.length_cons]
    omega
theorem len_dd {α : Type} [DecidableEq α] {L xs : List α} (nd : L.Nodup) (h : ∀ a, a ∈ L ↔ a ∈ xs) : L.length = (dd xs).length :=
  Nat.le_antisymm (len_le_of_sub nd fun a ha => mem_dd.mpr ((h a).mp ha)) (len_le_of_sub (nodup_dd xs) fun a ha => (h a).mpr (mem_dd.mp ha))
section
variable {X : Cx} {W : WX} {a : Expr} {ma : SemE} {pos : Pos}
def tLenSetT (K : PySem.W.Frag) (ta : TE) : TE := fun σ H Q => ta σ H fun x H1 => ∃ (l : Addr) (ks : List (Addr × List Int)), x = .ref l ∧ SqL K H1 l (ks.map fun p => V.ref p.1) ∧ (∀ p ∈ ks, SqT K H1 p.1 (p.2.map V.int)) ∧ ks.length < 64 ∧ Q (.int ((dd (ks.map (·.2))).length : Nat)) H1
theorem pe_lenSetT {ta : TE} {p p2 q : Pos} (hc : X.calm = true) (hu : X.A.units + 64 < cLine) (hg : Gl X "len") (hm : X.mg "len" = none) (hg2 : Gl X "set") (hm2 : X.mg "set" = none) (ha : PE X a ta)
    (na : starEach [a] X.env = (false, eval a X.env) :: starEach [] X.env := by rfl) : PE X (.Call (.Name "len" p) [.Call (.Name "set" p2) [a] [] q] [] pos) (tLenSetT X.K ta) := by
  refine ⟨fun pins s σ H Q I h => ?_⟩
  refine Call_ (ld_blt I hg hm PySem.boot_len ?_)
  refine PyProof.Rows.callWith_builtin1 (PyProof.Rows.args_cons ?_ rfl) rfl rfl
  refine Call_ (ld_blt I hg2 hm2 PyProof.Rows.boot_set ?_)
  refine PyProof.Rows.callWith_type1 (PyProof.Rows.args_cons (thn (ha.run pins s σ H _ I h) fun v s1 ⟨x, H1, I1, r1, q1⟩ => PyProof.Rows.args_nil ?_) na) na rfl
  obtain ⟨l, ks, rfl, hl, hk, hf, q1⟩ := q1
  cases r1
  obtain ⟨its, rv, pl, hz⟩ := I1.list hl
  refine call_set_tups (P := X.prog) (w := X.w) ks (I1.ok.hd hc) pl.isList (by simpa using refs_of_vals rv) (fun p hp => I1.isT (hk p hp)) hf (by omega) fun h' tk L es ep t R g k => ?_
  refine PyProof.Rows.args_nil ?_
  have I2 : Inv X pins σ H1 { s1 with heap := h', toks := tk } := I1.kept (t' := tk) k
  obtain ⟨o, ho, hex, hd⟩ := R.ob
  have hsz := SetTR.size (s := { s1 with heap := h', toks := tk }) R
  have hle : es.size = (dd (ks.map (·.2))).length := by
    rw [hsz]
    have e1 : L.length = (L.map (·.2)).length := by simp
    rw [e1]
    refine len_dd R.nd fun a => ⟨fun ha => ?_, fun ha => ?_⟩
    · obtain ⟨p, hp, e⟩ := List.mem_map.mp ha
      exact List.mem_map.mpr ⟨p, List.mem_of_mem_take (g.sub p hp), e⟩
    · obtain ⟨p, hp, e⟩ := List.mem_map.mp ha
      rw [← e]
      exact g.all p (by rw [List.take_length]; exact hp)
  refine call_len_set ho hex hd (SetTR.fits (s := { s1 with heap := h', toks := tk }) R) (by have := R.few; rw [hsz]; omega) ⟨.int ((dd (ks.map (·.2))).length : Nat), H1, I2.tok _, ⟨_, by rw [hle]⟩, q1⟩
/-- the ints of a tuple; of all tuples of a list -/
def intsOf : List T → Option (List Int)
  | [] => some []
  | .int i :: ts => (intsOf ts).map (i :: ·)
  | _ => none
def tupsOf : List T → Option (List (List Int))
  | [] => some []
  | .tuple ts :: us => (match intsOf ts, tupsOf us with
    | some a, some b => some (a :: b)
    | _, _ => none)
  | _ => none
theorem intsOf_dp {K : PySem.W.Frag} {F : Hp} : ∀ {ts : List T} {xs : List V} {ns : List Int}, DpAll K F xs ts → intsOf ts = some ns → xs = ns.map V.int
  | [], _, _, d, h => by cases d; cases h; rfl
  | t :: ts, _, _, d, h => by
    cases d with
    | cons a d =>
      cases t with
      | int i =>
        cases a
        simp only [intsOf] at h
        cases q : intsOf ts with
        | none => rw [q] at h; cases h
        | some ns => rw [q] at h; cases h; rw [intsOf_dp d q]; rfl
      | _ => cases h
theorem tupsOf_dp {K : PySem.W.Frag} {F : Hp} : ∀ {ts : List T} {xs : List V} {ns : List (List Int)}, DpAll K F xs ts → tupsOf ts = some ns → ∃ ks : List (Addr × List Int), xs = ks.map (fun p => V.ref p.1) ∧ ks.map (·.2) = ns ∧ ∀ p ∈ ks, SqT K F p.1 (p.2.map V.int)
  | [], _, _, d, h => by cases d; cases h; exact ⟨[], rfl, rfl, fun p hp => by cases hp⟩
  | t :: ts, _, _, d, h => by
    cases d with
    | cons a d =>
      cases t with
      | tuple us =>
        simp only [tupsOf] at h
        cases q : intsOf us with
        | none => rw [q] at h; cases h
        | some ms =>
          cases q2 : tupsOf ts with
          | none => rw [q, q2] at h; cases h
          | some ns =>
            rw [q, q2] at h; cases h
            obtain ⟨ks, e1, e2, e3⟩ := tupsOf_dp d q2
            cases a with
            | tup hs dd =>
              rename_i p xs'
              refine ⟨(p, ms) :: ks, by rw [e1]; rfl, by rw [← e2]; rfl, fun p' hp => ?_⟩
              rcases List.mem_cons.mp hp with e | hp
              · subst e; rw [← intsOf_dp dd q]; exact hs
              · exact e3 p' hp
      | _ => cases h
def eLenSet (m : SemE) : SemE := fun e => (m e).bind fun r e1 => match r.val e1 with
  | some (.list ts) => (match tupsOf ts with
    | some ns => if ns.length < 64 then .ok (.r (.int ((dd ns).length : Nat))) e1 else .bad
    | none => .bad)
  | _ => .bad
theorem qlenset {p p2 q : Pos} (hc : X.calm = true) (hu : X.A.units + 64 < cLine) (hg : Gl X "len") (hm : X.mg "len" = none) (hg2 : Gl X "set") (hm2 : X.mg "set" = none) (ha : QE X W a ma)
    (na : starEach [a] X.env = (false, eval a X.env) :: starEach [] X.env := by rfl) : QE X W (.Call (.Name "len" p) [.Call (.Name "set" p2) [a] [] q] [] pos) (eLenSet ma) := by
  refine pe_mono (pe_lenSetT hc hu hg hm hg2 hm2 ha na) fun σ H Q h => ?_
  obtain ⟨e, F, R, h⟩ := h
  refine tX_imp (tX_bind (rel := fun σ => OdR X.K σ) R .refl h) fun x H1 ⟨r, e1, F1, R1, S1, O1, h1⟩ => ?_
  split at h1
  · rename_i ts q
    obtain ⟨l, xs, rfl, hs, d⟩ := val_ok R1 O1 q
    cases q2 : tupsOf ts with
    | none => simp only [q2] at h1; exact h1.elim
    | some ns =>
      simp only [q2] at h1
      split at h1
      · rename_i hl
        obtain ⟨ks, e1, e2, e3⟩ := tupsOf_dp d q2
        refine ⟨l, ks, rfl, by rw [← e1]; exact hs, fun p hp => sqT_mono R1.sub (e3 p hp), ?_, ?_⟩
        · have : ks.length = ns.length := by rw [← e2]; simp
          omega
        · rw [e2]; exact h1 _ F1 H1 R1 S1 (.int _)
      · exact h1.elim
  · exact h1.elim
end
end Ev
namespace Ev
open PySem PySem.Spec PyProof.Rows L2
/-! ### the law's end: any world -/
def CXE : CXT := fun outer H s E e s' => ∃ (P : Program) (w : World), L2N.CX P w outer H s E e s'
theorem fnok_cx {P : Program} {w : World} {K : PySem.W.Frag} {mg : Str → Option Value} {base : Heap} {k : Nat} {f : Addr} {fd : FuncData} {ps : List Str} {sp : Sp} (F : FnOk P w K mg base (L2N.CX P w) k f fd ps sp) : FnOk P w K mg base CXE k f fd ps sp :=
  ⟨F.len, fun A outer s H args us vs Q E hr he hb hv hs => codeAny_mono (F.run A outer s H args us vs Q E hr he hb hv hs) fun r s' h => by
    rcases r with e | (_ | _ | _ | _)
    all_goals first | exact h | exact ⟨P, w, h⟩⟩
theorem law_CXE (H : Hp) (s : Shared) (e : Value) (s' : Shared) : CXE [] H s (fun _ _ _ => False) e s' → False := fun ⟨_, _, z⟩ => law_CX H s e s' z
end Ev

set_option Elab.async false
set_option linter.all false
set_option maxRecDepth 100000
namespace L2
open PySem PySem.Spec PyProof.Rows
/-- a range beyond the machine's words, walked -/
theorem turn_long {P : Program} {w : World} {K : PySem.W.Frag} {tg : Expr} (it : Addr) (lo : Int) (n : Nat) : Turn P w K tg (Itr lo n) [it] it (fun i h => IsLongIter h it (lo + (i : Nat) * 1) ((n : Int) - (i : Nat)) 1) where
  mem := by simp
  obj := fun i h st b hb => by
    have e : b = it := by simpa using hb
    subst e
    exact ⟨_, st, fun v z => by
      have z' : Data.fields _ = Data.cell v := z
      cases z'⟩
  keep := fun i h h' st k => k it (by simp) _ st
  item := by
    intro X hP hw hK hc i pins s σ H E I hf st hg
    subst hP hw hK
    obtain ⟨f0, f1, f2, f3, f4, f5⟩ := hf it (by simp)
    have W := Walks.longrange (prog := X.prog) (w := X.w) (I.ok.hd hc) it lo 1 n
    refine W.item i s _ _ hg st fun v h' tk hv st' kk => ?_
    obtain ⟨t, rfl⟩ := hv
    have I1 : Inv X pins σ H { s with heap := h', toks := tk } := I.turned (fun b o hb e => kk b o (by simpa using hb) e) f0 f1 f3 f4 f5
    refine ⟨_, rfl, go_of (s := { s with heap := h', toks := tk }) (n := "longrange_iterator") st' rfl rfl (by decide) ⟨.int (lo + i), H, I1, ⟨t, ?_⟩, ⟨rfl, rfl⟩, st', fun b hb => (hf b hb).1⟩⟩
    rw [Int.mul_one]
  done := by
    intro X hP hw hK hc i pins s σ H E I hf st hg
    subst hP hw hK
    obtain ⟨f0, f1, f2, f3, f4, f5⟩ := hf it (by simp)
    exact wpAny_pyNext_long_end (I.ok.hd hc) st (by have : n ≤ i := hg; omega) fun h' eb => ⟨rfl, I.turned (t' := s.toks) (fun b o hb e => eb b o hb e) f0 f1 f3 f4 f5⟩
  self := fun _ _ _ _ _ st h => wpAny_pyIter_longiter st h
/-- a range object just made, walked, whatever its bounds -/
theorem range_itW {X : Cx} {tg : Expr} {pins : List (Addr × Obj)} {σ : St} {H : Hp} {s : Shared} {R : It → Hp → Prop} {E : Value → Shared → Prop} {lo hi : Int} {t u v : Tok} {tk : Nat} (I : Inv X pins σ H s)
    (q : R (Itr lo (hi - lo).toNat) H) : wpAny (model X.prog X.w) X.A (pyIter (.ref s.heap.objs.size)) (PIE X pins σ tg R) E { s with heap := s.heap.push { cls := .type "range", data := .fields #[.int lo t, .int hi u, .int 1 v] }, toks := tk } := by
  have I1 : Inv X pins σ H { s with heap := s.heap.push { cls := .type "range", data := .fields #[.int lo t, .int hi u, .int 1 v] }, toks := tk } := I.kept fun b o e => Heap.get?_push_of_some _ e
  have e1 : lo + ((0 : Nat) : Int) * 1 = lo := by simp
  have e2 : (((hi - lo).toNat : Nat) : Int) - ((0 : Nat) : Int) = Builtin.Range.rangeSize lo hi 1 := by rw [rangeSize_one]; split <;> omega
  have fp : ∀ b ∈ [(s.heap.push { cls := .type "range", data := .fields #[.int lo t, .int hi u, .int 1 v] }).objs.size], FpOk X pins H b := fun b hb => by
    have e : b = (s.heap.push { cls := .type "range", data := .fields #[.int lo t, .int hi u, .int 1 v] }).objs.size := by simpa using hb
    subst e
    exact I1.fpOk (Nat.le_refl _) (I1.hok.fresh (Nat.le_refl _))
  cases hs : Builtin.Range.small lo hi 1 with
  | true =>
    refine wpAny_pyIter_range (IsRange.new ..) hs ?_
    refine ⟨_, [_], _, _, H, rfl, I1.kept (t' := tk) fun b o e => Heap.get?_push_of_some _ e, turn_range _ lo (hi - lo).toNat, ?_, fp, q⟩
    show IsRangeIter _ _ (lo + ((0 : Nat) : Int) * 1) ((((hi - lo).toNat : Nat) : Int) - ((0 : Nat) : Int)) 1
    rw [e1, e2]
    exact Heap.get?_push_size _ rfl
  | false =>
    refine wpAny_pyIter_longrange (IsRange.new ..) hs ?_
    refine ⟨_, [_], _, _, H, rfl, I1.kept (t' := tk) fun b o e => Heap.get?_push_of_some _ e, turn_long _ lo (hi - lo).toNat, ?_, fp, q⟩
    show IsLongIter _ _ (lo + ((0 : Nat) : Int) * 1) ((((hi - lo).toNat : Nat) : Int) - ((0 : Nat) : Int)) 1
    rw [e1, e2]
    exact Heap.get?_push_size _ rfl
def iRng2W (ta : TA) : TI := fun σ H R => ta σ H fun vs H1 => ∃ i j : Int, vs = [.int i, .int j] ∧ R (Itr i (j - i).toNat) H1
theorem pi_range2W {X : Cx} {tg a b : Expr} {ta : TA} {p pos : Pos} (hg : Gl X "range") (hm : X.mg "range" = none) (ha : PA X [a, b] ta) (hs : starEach [a, b] X.env = [(false, eval a X.env), (false, eval b X.env)] := by rfl) (hs2 : starEach [b] X.env = [(false, eval b X.env)] := by rfl) :
    PI X tg (.Call (.Name "range" p) [a, b] [] pos) (iRng2W ta) := by
  refine ⟨fun pins s σ H R I h => ?_⟩
  refine Call_ (ld_blt I hg hm boot_range (PyProof.Rows.callWith_type1 (thn (ha.run pos pins s σ H _ I h) fun us s1 ⟨vs, H1, I1, r1, q1⟩ => ?_) (by rw [hs, hs2]) (by rw [hs2]; rfl)))
  obtain ⟨i, j, e, q⟩ := q1
  subst e
  cases r1 with
  | cons r rr =>
    cases rr with
    | cons r' rr =>
      cases rr
      obtain ⟨t, rfl⟩ := r
      obtain ⟨t', rfl⟩ := r'
      exact call_range_2 (range_itW I1 q)
end L2
namespace Ev
open PySem PySem.Spec PyProof.Rows L2
def iR2w (m : SemA) : SemI := fun e => (m e).bind fun rs e1 => match vals e1 rs with
  | some [.int i, .int j] => .ok (intsT i (j - i).toNat) e1
  | _ => .bad
theorem qir2w {X : Cx} {W : WX} {tg a b : Expr} {m : SemA} {p pos : Pos} (hg : Gl X "range") (hm : X.mg "range" = none) (ha : QA X W [a, b] m) (hs : starEach [a, b] X.env = [(false, eval a X.env), (false, eval b X.env)] := by rfl) (hs2 : starEach [b] X.env = [(false, eval b X.env)] := by rfl) : QI X W tg (.Call (.Name "range" p) [a, b] [] pos) (iR2w m) := by
  refine pi_mono (pi_range2W hg hm ha hs hs2) fun σ H Q h => ?_
  obtain ⟨e, F, R, h⟩ := h
  refine tX_imp (tX_bind (rel := fun σ Hs F H xs rs => OdsR X.K σ Hs F H rs xs) R .refl h) fun xs H1 ⟨rs, e1, F1, R1, S1, O, h2⟩ => ?_
  split at h2
  · rename_i i j q
    have d := vals_ok R1 O q
    cases d with
    | cons a d => cases d with
      | cons b d => cases d; cases a; cases b; exact ⟨i, j, rfl, h2 _ F1 H1 R1 S1 wk_range⟩
  · exact h2.elim
end Ev
namespace Ev
open PySem PySem.Spec PyProof.Rows L2
theorem qpar3 {X : Cx} {W : WX} {B : Bd} {a b c : Expr} {pos : Pos} {i j l : Nat} {x y z : Str} {px py pz pt : Pos} {kt k2 pt2} {m : SemA} (hc : X.calm = true) (hN : X.N.Nodup) (hi : X.N[i]? = some x) (hj : X.N[j]? = some y) (hl : X.N[l]? = some z) (hij : i ≠ j) (hil : i ≠ l) (hjl : j ≠ l)
    (hx : X.env.scope.names.lookup x = some .local) (hy : X.env.scope.names.lookup y = some .local) (hz : X.env.scope.names.lookup z = some .local) (ha : QA X W [a, b, c] m)
    (hw : swappedStores [.Tuple [.Name x px, .Name y py, .Name z pz] kt pt] (.Tuple [a, b, c] k2 pt2) X.env = pure (some [x, y, z]))
    (hs : swapsWithSole [.Tuple [.Name x px, .Name y py, .Name z pz] kt pt] (.Tuple [a, b, c] k2 pt2) pos.line X.env = pure false := by rfl) :
    QS X W B (.Assign [.Tuple [.Name x px, .Name y py, .Name z pz] kt pt] (.Tuple [a, b, c] k2 pt2) pos) (sPar [i, j, l] m) :=
  ps_mono (ps_par3 hc hN hi hj hl hij hil hjl hx hy hz ha hw hs) fun D σ H h => tX_imp (par_read h) fun xs H1 ⟨hl, q, _⟩ => by
    match xs, hl, q with
    | [v, w, u], _, q => exact ⟨v, w, u, rfl, q⟩
end Ev

set_option Elab.async false
set_option linter.all false
set_option maxRecDepth 100000
namespace Ev
open PySem PySem.Spec PyProof.Rows L2
section
variable {K : PySem.W.Frag} {W : WX} {e e1 : En} {σ : Sg} {F H : Hp}
/-- what a name alone holds is changed, whatever it is -/
theorem upd_ownB {i : Nat} {l : Bool} {z z' : Bx} {p : Addr} {o' : HO} (R : Rel K e σ F H) (h1 : e[i]? = some (.ow l z)) (h2 : σ[i]? = some (some (.ref p))) (d : BxAt K F (upd H p o') p z') :
    Rel K (e.set i (.ow l z')) σ F (upd H p o') ∧ Step e (e.set i (.ow l z')) σ F H F (upd H p o') := by
  have hi : i < e.length := (List.getElem?_eq_some_iff.mp h1).1
  have ow : Own e σ p := ⟨i, l, z, h1, h2⟩
  have hf := (R.owned ow).1
  have get : ∀ (j : Nat) (s : Sl), (e.set i (.ow l z'))[j]? = some s → (j = i ∧ s = .ow l z') ∨ (i ≠ j ∧ e[j]? = some s) := fun j s h => by
    by_cases q : i = j
    · subst q; rw [List.getElem?_set_self hi] at h; cases h; exact .inl ⟨rfl, rfl⟩
    · rw [List.getElem?_set_ne q] at h; exact .inr ⟨q, h⟩
  have kind : ∀ (j : Nat) (l' : Bool) (b' : Bx), (e.set i (.ow l z'))[j]? = some (.ow l' b') → ∃ b, e[j]? = some (.ow l' b) := fun j l' b' h => by
    rcases get j _ h with ⟨rfl, q⟩ | ⟨_, q⟩
    · cases q; exact ⟨z, h1⟩
    · exact ⟨b', q⟩
  refine ⟨⟨fun a o h => ?_, by simp [R.len], fun j s o g1 g2 => ?_, fun j j' l1 b1 l2 b2 q g1 g2 g3 g4 => ?_⟩, ⟨fun _ _ h => h, fun a o h n => ?_, fun a o h => ?_, fun a ⟨j, l', b', g1, g2⟩ => ?_, fun j hj => ?_, kind⟩⟩
  · rw [upd_ne (ne_of_none h hf)]; exact R.sub _ _ h
  · rcases get j s g1 with ⟨rfl, rfl⟩ | ⟨q, g⟩
    · rw [h2] at g2; cases g2; exact ⟨p, rfl, hf, d⟩
    · have w := R.at_ j s o g g2
      cases s with
      | un => trivial
      | v t => exact w
      | fz b => exact w
      | ow l' b =>
        obtain ⟨p', ep, hf', bx⟩ := w
        subst ep
        have np : p' ≠ p := fun w => by subst w; exact q (R.ne i j l z l' b p' h1 g h2 g2)
        exact ⟨p', rfl, hf', bx_keep bx (fun _ _ h => h) fun u h' => by rw [upd_ne np]; exact h'⟩
  · obtain ⟨b1', q1⟩ := kind j _ _ g1
    obtain ⟨b2', q2⟩ := kind j' _ _ g2
    exact R.ne j j' _ _ _ _ q q1 q2 g3 g4
  · have np : a ≠ p := fun w => n (by subst w; exact ow)
    exact ⟨by rw [upd_ne np]; exact h, fun w => w⟩
  · by_cases q : a = p
    · subst q; exact ⟨_, upd_same⟩
    · exact ⟨o, by rw [upd_ne q]; exact h⟩
  · obtain ⟨b, q⟩ := kind j _ _ g1
    exact ⟨j, l', b, q, g2⟩
  · obtain ⟨b', q⟩ := hj
    by_cases ij : i = j
    · subst ij
      rw [h1] at q
      rcases q with q | q
      · cases q; exact ⟨_, .inl (List.getElem?_set_self hi)⟩
      · cases q
    · exact ⟨b', by rw [List.getElem?_set_ne ij]; exact q⟩
end
/-! ### dicts of one's own: keys ints and texts -/
def keyEq : T → T → Bool
  | .int i, .int j => decide (i = j)
  | .str x, .str y => decide (x = y)
  | _, _ => false
def keyOf : T → Option Key
  | .int i => some (.inl i)
  | .str x => some (.inr x)
  | _ => none
def dLook (kvs : List (T × T)) (k : T) : Option T := (kvs.find? fun q => keyEq q.1 k).map (·.2)
def dPut (kvs : List (T × T)) (k v : T) : List (T × T) := if (kvs.any fun q => keyEq q.1 k) = true then kvs.map (fun q => if keyEq q.1 k = true then (q.1, v) else q) else kvs ++ [(k, v)]
theorem keyEq_ky (a b : Key) : keyEq (kyT a) (kyT b) = decide (a = b) := by
  cases a <;> cases b <;> simp [keyEq, kyT]
theorem key_dp {K : PySem.W.Frag} {F H : Hp} {t : T} {k : Key} {x : V} (h : keyOf t = some k) (d : DpO K F H x t) : x = kV k ∧ t = kyT k := by
  cases t with
  | int i => cases h; cases d; exact ⟨rfl, rfl⟩
  | str s => cases h; cases d; exact ⟨rfl, rfl⟩
  | _ => cases h
theorem kd_look {K : PySem.W.Frag} {F : Hp} {ks : List (Key × V)} {kvs : List (T × T)} (h : KdR K F ks kvs) (k : Key) : (valV ks k = none ∧ dLook kvs (kyT k) = none) ∨ ∃ v t, valV ks k = some v ∧ dLook kvs (kyT k) = some t ∧ Dp K F v t := by
  unfold KdR at h
  induction h with
  | nil => exact .inl ⟨rfl, rfl⟩
  | @cons a b as bs p _ ih =>
    have e : keyEq b.1 (kyT k) = decide (a.1 = k) := by rw [p.1, keyEq_ky]
    by_cases q : a.1 = k
    · refine .inr ⟨a.2, b.2, valV_pos q, ?_, p.2⟩
      unfold dLook
      rw [List.find?_cons_of_pos (by rw [e]; exact decide_eq_true q)]
      rfl
    · have e2 : dLook (b :: bs) (kyT k) = dLook bs (kyT k) := by
        unfold dLook
        rw [List.find?_cons_of_neg (by rw [e]; simpa using q)]
      rw [valV_neg q, e2]
      exact ih
theorem kd_any {K : PySem.W.Frag} {F : Hp} {ks : List (Key × V)} {kvs : List (T × T)} (h : KdR K F ks kvs) (k : Key) : (ks.any fun q => decide (q.1 = k)) = kvs.any fun q => keyEq q.1 (kyT k) := by
  unfold KdR at h
  induction h with
  | nil => rfl
  | @cons a b as bs p _ ih => rw [List.any_cons, List.any_cons, ih, p.1, keyEq_ky]
theorem kd_put {K : PySem.W.Frag} {F : Hp} {ks : List (Key × V)} {kvs : List (T × T)} (h : KdR K F ks kvs) (k : Key) {v : V} {t : T} (d : Dp K F v t) : KdR K F (putK ks k v) (dPut kvs (kyT k) t) := by
  have ha := kd_any h k
  unfold putK dPut
  rw [ha]
  by_cases q : (kvs.any fun q => keyEq q.1 (kyT k)) = true
  · rw [if_pos q, if_pos q]
    clear ha q
    unfold KdR at h ⊢
    induction h with
    | nil => exact .nil
    | @cons a b as bs p _ ih =>
      rw [List.map_cons, List.map_cons]
      refine .cons ?_ ih
      have e : keyEq b.1 (kyT k) = decide (a.1 = k) := by rw [p.1, keyEq_ky]
      by_cases q : a.1 = k
      · rw [if_pos q, if_pos (by rw [e]; exact decide_eq_true q)]; exact ⟨p.1, d⟩
      · rw [if_neg q, if_neg (by rw [e]; simpa using q)]; exact p
  · rw [if_neg q, if_neg q]
    clear ha q
    unfold KdR at h ⊢
    induction h with
    | nil => exact .cons ⟨rfl, d⟩ .nil
    | cons a _ ih => exact .cons a ih
theorem kd_len {K : PySem.W.Frag} {F : Hp} {ks : List (Key × V)} {kvs : List (T × T)} (h : KdR K F ks kvs) : ks.length = kvs.length := by
  unfold KdR at h
  induction h with
  | nil => rfl
  | cons _ _ ih => rw [List.length_cons, List.length_cons, ih]
section
variable {X : Cx} {W : WX} {B : Bd} {a b c : Expr} {ma mb mc : SemE} {pos : Pos}
/-- d[k] -/
def eDGet (i : Nat) (mk : SemE) : SemE := fun e => match e[i]? with
  | some (.ow _ (.d _)) => (mk e).bind fun r e1 => match r.val e1, e1[i]? with
    | some t, some (.ow _ (.d kvs)) => (match keyOf t, dLook kvs t with
      | some _, some u => .ok (.r u) e1
      | _, _ => .bad)
    | _, _ => .bad
  | _ => .bad
theorem qdget {i : Nat} {x : Str} {p : Pos} (hu : X.A.units + 1 < cLine) (hN : X.N[i]? = some x) (hv : Vis X.env.scope x) (hi : QE X W a ma) (hs : ∀ ov iv, subscripted a false ov iv = operate [ov, iv] (getItem ov iv) := by intros; rfl) (hd : (x == ("__debug__" : Str)) = false := by decide) (hcd : (x == ("__classdict__" : Str)) = false := by decide) :
    QE X W (.Subscript (.Name x p) a pos) (eDGet i ma) := by
  refine pe_mono (pe_dget hu (pe_var hN hv hd hcd) hi hs) fun σ H Q h => ?_
  obtain ⟨e, F, R, h⟩ := h
  unfold eDGet at h
  split at h
  · rename_i l0 kv0 q0
    obtain ⟨o, hs0, p0, ep, _⟩ := R.var q0
    subst ep
    refine ⟨_, hs0, tX_imp (tX_bind (rel := fun σ => OdR X.K σ) R .refl h) fun y H2 ⟨r, e1, F1, R1, S1, O1, h1⟩ => ?_⟩
    split at h1
    · rename_i t l kvs q1 q2
      obtain ⟨p1, ep, hf, ks, hx, kd⟩ := R1.at_ i _ _ q2 hs0
      cases ep
      split at h1
      · rename_i k u q3 q4
        obtain ⟨ey, et⟩ := key_dp q3 (val_ok R1 O1 q1)
        subst ey et
        rcases kd_look kd k with ⟨_, z⟩ | ⟨v, t, z1, z2, z3⟩
        · rw [z] at q4; cases q4
        · rw [z2] at q4; cases q4
          exact ⟨p0, v, rfl, by rw [← z1]; exact DGet.k hx, h1 v F1 H2 R1 S1 z3⟩
      · exact h1.elim
    · exact h1.elim
  · exact h.elim
/-- k in d, k not in d -/
def eDIn (neg : Bool) (i : Nat) (mk : SemE) : SemE := fun e => (mk e).bind fun r e1 => match r.val e1, e1[i]? with
  | some t, some (.ow _ (.d kvs)) => (match keyOf t with
    | some _ => .ok (.r (.bool (if neg then !(dLook kvs t).isSome else (dLook kvs t).isSome))) e1
    | _ => .bad)
  | _, _ => .bad
theorem din_read {i : Nat} {neg : Bool} {σ : Sg} {H : Hp} {Q : VK} {K : PySem.W.Frag} (h : tE K W (eDIn neg i ma) σ H Q) :
    tE K W ma σ H fun y H1 => ∃ v, σ[i]? = some (some v) ∧ ∃ a o, v = .ref a ∧ DGet H1 a y o ∧ Q (.bl (if neg then !o.isSome else o.isSome)) H1 := by
  obtain ⟨e, F, R, h⟩ := h
  refine tX_imp (tX_bind (rel := fun σ => OdR K σ) R .refl h) fun y H1 ⟨r, e1, F1, R1, S1, O1, h1⟩ => ?_
  split at h1
  · rename_i t l kvs q1 q2
    obtain ⟨o, hs0, p0, ep, hf, ks, hx, kd⟩ := R1.var q2
    subst ep
    split at h1
    · rename_i k q3
      obtain ⟨ey, et⟩ := key_dp q3 (val_ok R1 O1 q1)
      subst ey et
      refine ⟨_, hs0, p0, valV ks k, rfl, DGet.k hx, ?_⟩
      have e : (dLook kvs (kyT k)).isSome = (valV ks k).isSome := by
        rcases kd_look kd k with ⟨z1, z2⟩ | ⟨v, t, z1, z2, _⟩
        · rw [z1, z2]; rfl
        · rw [z1, z2]; rfl
      rw [e] at h1
      exact h1 _ F1 H1 R1 S1 (.bl _)
    · exact h1.elim
  · exact h1.elim
theorem qdin {i : Nat} {x : Str} {p : Pos} (hu : X.A.units + 1 < cLine) (hN : X.N[i]? = some x) (hv : Vis X.env.scope x) (hi : QE X W a ma) (hm : behindInMarks .In (.Name x p) = false := by rfl) (hd : (x == ("__debug__" : Str)) = false := by decide) (hcd : (x == ("__classdict__" : Str)) = false := by decide) :
    QE X W (.Compare a [.In] [.Name x p] pos) (eDIn false i ma) :=
  pe_mono (pe_cmp (pc_din hu hi (pe_var hN hv hd hcd)) hm) fun σ H Q h => tX_imp (din_read h) fun y H1 ⟨v, hs, a, o, ev, g, q⟩ => ⟨v, hs, a, o, ev, g, q⟩
theorem qdnotin {i : Nat} {x : Str} {p : Pos} (hu : X.A.units + 1 < cLine) (hN : X.N[i]? = some x) (hv : Vis X.env.scope x) (hi : QE X W a ma) (hm : behindInMarks .NotIn (.Name x p) = false := by rfl) (hd : (x == ("__debug__" : Str)) = false := by decide) (hcd : (x == ("__classdict__" : Str)) = false := by decide) :
    QE X W (.Compare a [.NotIn] [.Name x p] pos) (eDIn true i ma) :=
  pe_mono (pe_cmp (pc_dnotin hu hi (pe_var hN hv hd hcd)) hm) fun σ H Q h => tX_imp (din_read h) fun y H1 ⟨v, hs, a, o, ev, g, q⟩ => ⟨v, hs, a, o, ev, g, q⟩
theorem qtdin {i : Nat} {x : Str} {p : Pos} (hu : X.A.units + 1 < cLine) (hN : X.N[i]? = some x) (hv : Vis X.env.scope x) (hi : QE X W a ma) (hm : behindInMarks .In (.Name x p) = false := by rfl) (hd : (x == ("__debug__" : Str)) = false := by decide) (hcd : (x == ("__classdict__" : Str)) = false := by decide) :
    QT X W (.Compare a [.In] [.Name x p] pos) (tb (eDIn false i ma)) :=
  pt_mono (pt_cmp (pc_din hu hi (pe_var hN hv hd hcd)) hm) fun σ H Q h => tX_imp (din_read (tb_read h)) fun y H1 ⟨v, hs, a, o, ev, g, q⟩ => ⟨v, hs, a, o, ev, g, q⟩
theorem qtdnotin {i : Nat} {x : Str} {p : Pos} (hu : X.A.units + 1 < cLine) (hN : X.N[i]? = some x) (hv : Vis X.env.scope x) (hi : QE X W a ma) (hm : behindInMarks .NotIn (.Name x p) = false := by rfl) (hd : (x == ("__debug__" : Str)) = false := by decide) (hcd : (x == ("__classdict__" : Str)) = false := by decide) :
    QT X W (.Compare a [.NotIn] [.Name x p] pos) (tb (eDIn true i ma)) :=
  pt_mono (pt_cmp (pc_dnotin hu hi (pe_var hN hv hd hcd)) hm) fun σ H Q h => tX_imp (din_read (tb_read h)) fun y H1 ⟨v, hs, a, o, ev, g, q⟩ => ⟨v, hs, a, o, ev, g, q⟩
/-- d[k] = v -/
def sDPutV (i : Nat) (mk mv : SemE) : SemS := fun e => (mv e).bind fun r e1 => match e1[i]? with
  | some (.ow _ (.d _)) => (mk e1).bind fun rk e2 => (match rk.val e2, esc r e2 with
    | some t, some (u, e3) => (match keyOf t, e3[i]? with
      | some _, some (.ow l (.d kvs)) => if kvs.length < sizeLine then .ok .nx (e3.set i (.ow l (.d (dPut kvs t u)))) else .bad
      | _, _ => .bad)
    | _, _ => .bad)
  | _ => .bad
theorem qdput {i : Nat} {x : Str} {p p' : Pos} {ix v : Expr} {mi mv : SemE} (hu : X.A.units + 1 < cLine) (hN : X.N[i]? = some x) (hv : Vis X.env.scope x) (hi : QE X W ix mi) (hval : QE X W v mv) (hs : swapsWith v (some (.Subscript (.Name x p) ix p')) pos.line X.env = pure false := by rfl) (hd : (x == ("__debug__" : Str)) = false := by decide) (hcd : (x == ("__classdict__" : Str)) = false := by decide) :
    QS X W B (.Assign [.Subscript (.Name x p) ix p'] v pos) (sDPutV i mi mv) := by
  refine ps_mono (ps_dput hu (pe_var hN hv hd hcd) hi hval hs) fun D σ H h => ?_
  obtain ⟨e, F, R, k, h⟩ := h
  refine tX_imp (tS_bind (rel := fun σ => OdR X.K σ) R k h) fun y H1 ⟨r, e1, F1, R1, S1, k1, O1, h1⟩ => ?_
  split at h1
  · rename_i l0 kv0 q0
    obtain ⟨o, hs0, p0, ep, _⟩ := R1.var q0
    subst ep
    refine ⟨_, hs0, tX_imp (tS_bind (B := B) (m := mi) (rel := fun σ => OdR X.K σ) R1 k1 h1) fun iv H2 ⟨ri, e2, F2, R2, S2, k2, O2, h2⟩ => ?_⟩
    have O1' := od_stay O1 (fun p hp => fresh_not_own R S1 hp) S2
    split at h2
    · rename_i t u e3 q1 q2
      obtain ⟨F3, R3, S3, d3, _⟩ := esc_ok R R2 (S1.trans S2) O1' q2
      split at h2
      · rename_i kk l kvs q4 q5
        obtain ⟨ey, et⟩ := key_dp q4 (val_ok R2 O2 q1)
        subst ey et
        split at h2
        · rename_i hl
          obtain ⟨p1, ep, hf, ks, hx, kd⟩ := R3.at_ i _ _ q5 hs0
          cases ep
          refine ⟨p0, _, rfl, DPut.k hx (by rw [kd_len kd]; exact hl), ?_⟩
          obtain ⟨R4, S4⟩ := upd_ownB R3 q5 hs0 (o' := .dK (putK ks kk y)) (z' := .d (dPut kvs (kyT kk) u)) ⟨_, upd_same, kd_put kd kk d3⟩
          exact h2 σ F3 _ R4 ((k.step S3).step S4)
        · exact h2.elim
      · exact h2.elim
    · exact h2.elim
  · exact h1.elim
end
section
variable {K : PySem.W.Frag} {e e1 : En} {σ : Sg} {F H F1 H1 : Hp} {p : Addr} {o : HO}
/-- what nobody holds is changed -/
theorem upd_free (R : Rel K e σ F H) (hf : F p = none) (no : ¬ Own e σ p) : Rel K e σ F (upd H p o) := by
  refine ⟨fun a u h => ?_, R.len, fun i s u h1 h2 => ?_, R.ne⟩
  · have np : a ≠ p := fun z => by subst z; rw [hf] at h; cases h
    rw [upd_ne np]; exact R.sub _ _ h
  · have z := R.at_ i s u h1 h2
    cases s with
    | un => trivial
    | v t => exact z
    | fz b => exact z
    | ow l b =>
      obtain ⟨q, eq, hf', x⟩ := z
      have np : q ≠ p := fun z => no ⟨i, l, b, h1, by rw [h2, eq, z]⟩
      exact ⟨q, eq, hf', bx_keep x (fun _ _ h => h) fun o' h' => by rw [upd_ne np]; exact h'⟩
theorem upd_free_step (S : Step e e1 σ F H F1 H1) (hp : H p = none) (hq : H1 p ≠ none) : Step e e1 σ F H F1 (upd H1 p o) := by
  have ne : ∀ a u, H a = some u → a ≠ p := fun a u h z => by subst z; rw [hp] at h; cases h
  exact ⟨S.ff, fun a u h n => ⟨by rw [upd_ne (ne a u h)]; exact (S.keep a u h n).1, (S.keep a u h n).2⟩, fun a u h => by rw [upd_ne (ne a u h)]; exact S.dom a u h, S.own, S.lt, S.sk⟩
end
section
variable {X : Cx} {W : WX} {B : Bd} {a b c : Expr} {ma mb mc : SemE} {pos : Pos}
/-- {k: v} -/
def eDict1 (mk mv : SemE) : SemE := fun e => (mk e).bind fun rk e1 => (mv e1).bind fun rv e2 => match rk.val e2, rv with
  | some t, .r u => (match keyOf t with
    | some _ => .ok (.b (.d [(t, u)])) e2
    | none => .bad)
  | _, _ => .bad
theorem qdict1 (ha : QE X W a ma) (hb : QE X W b mb) : QE X W (.Dict [some a] [b] pos) (eDict1 ma mb) := by
  refine pe_mono (pe_disp (pps_cons ha hb pps_nil) rfl rfl (by simp) (by simp)) fun σ H Q h => ?_
  obtain ⟨e, F, R, h⟩ := h
  intro p hp
  have R0 := laid_own (o := .dK []) R hp
  have S0 : Step e e σ F H F (upd H p (.dK [])) := laid_own_step hp
  have no0 : ¬ Own e σ p := fun z => by obtain ⟨_, u, q⟩ := R.owned z; rw [hp] at q; cases q
  have f0 : F p = none := sub_none R hp
  refine tX_imp (tX_bind (rel := fun σ => OdR X.K σ) R0 S0 h) fun x H1 ⟨rk, e1, F1, R1, S1, O1, h1⟩ => ?_
  refine tX_imp (tX_bind (rel := fun σ => OdR X.K σ) R1 (S0.trans S1) h1) fun y H2 ⟨rv, e2, F2, R2, S2, O2, h2⟩ => ?_
  have O1' := od_stay O1 (fun p hp => fresh_not_own R0 S1 hp) S2
  have S12 := S1.trans S2
  obtain ⟨k2, g2⟩ := S12.keep p _ upd_same no0
  have f2 : F2 p = none := g2 f0
  have no2 : ¬ Own e2 σ p := fun z => no0 (S12.own _ z)
  split at h2
  · rename_i t u q1
    split at h2
    · rename_i k q3
      obtain ⟨ey, et⟩ := key_dp q3 (val_ok R2 O1' q1)
      subst ey et
      refine ⟨k2, [(k, y)], rfl, by simp, ?_⟩
      have em : mergeK [] [(k, y)] = [(k, y)] := rfl
      rw [em]
      refine h2 _ F2 _ (upd_free R2 f2 no2) (upd_free_step (S0.trans S12) hp (by rw [k2]; simp)) ⟨p, rfl, hp, f2, [(k, y)], upd_same, .cons ⟨rfl, ?_⟩ .nil⟩
      exact O2
    · exact h2.elim
  · exact h2.elim
end
theorem units1 {k : Nat} {A : Around} (r : Room k A) : A.units + 1 < cLine := by have := r.un; omega
end Ev

set_option linter.all false
set_option maxRecDepth 100000
namespace Pu
open PySem PySem.Spec Ev
inductive F2 {α β : Type} (P : α → β → Prop) : List α → List β → Prop
  | nil : F2 P [] []
  | cons {a b as bs} : P a b → F2 P as bs → F2 P (a :: as) (b :: bs)
theorem F2.len {α β : Type} {P : α → β → Prop} : ∀ {as : List α} {bs : List β}, F2 P as bs → as.length = bs.length
  | _, _, .nil => rfl
  | _, _, .cons _ h => by rw [List.length_cons, List.length_cons, h.len]
theorem F2.get {α β : Type} {P : α → β → Prop} : ∀ {as : List α} {bs : List β} {i : Nat} {a : α} {b : β}, F2 P as bs → as[i]? = some a → bs[i]? = some b → P a b
  | _, _, i, a, b, .nil, h, _ => by simp at h
  | _, _, 0, a, b, .cons p _, h, h' => by simp at h h'; rw [← h, ← h']; exact p
  | _, _, i + 1, a, b, .cons _ q, h, h' => q.get (by simpa using h) (by simpa using h')
theorem F2.right {α β : Type} {P : α → β → Prop} : ∀ {as : List α} {bs : List β}, F2 P as bs → ∀ b ∈ bs, ∃ a ∈ as, P a b
  | _, _, .nil, b, h => by simp at h
  | _, _, .cons p q, b, h => by
    rcases List.mem_cons.mp h with rfl | h
    · exact ⟨_, List.mem_cons_self, p⟩
    · obtain ⟨a, m, z⟩ := q.right b h; exact ⟨a, List.mem_cons_of_mem _ m, z⟩
/-! ### pure: what loops and comprehensions do -/
/-- a loop whose turns all go on -/
theorem for_inv {g : SemG} {b : SemS} (I : Nat → En → Prop) : ∀ (ts : List T) (k : Nat) (e : En), I k e →
    (∀ (j : Nat) (t : T) (e : En), ts[j]? = some t → I (k + j) e → ∃ e1, g t e = some e1 ∧ ∃ e2, (b e1 = .ok .nx e2 ∨ b e1 = .ok .ct e2) ∧ I (k + j + 1) e2) →
    ∃ e', forS g b ts e = .ok .nx e' ∧ I (k + ts.length) e'
  | [], k, e, h, _ => ⟨e, rfl, h⟩
  | t :: ts, k, e, h, s => by
    obtain ⟨e1, h1, e2, h2, h3⟩ := s 0 t e rfl h
    obtain ⟨e', h4, h5⟩ := for_inv I ts (k + 1) e2 h3 fun j t e q i => by
      have := s (j + 1) t e q (by rw [show k + (j + 1) = k + 1 + j by omega]; exact i)
      rw [show k + (j + 1) + 1 = k + 1 + j + 1 by omega] at this
      exact this
    refine ⟨e', ?_, by rw [List.length_cons, show k + (ts.length + 1) = k + 1 + ts.length by omega]; exact h5⟩
    rw [forS, h1]
    rcases h2 with h2 | h2 <;> (simp only [h2]; exact h4)
/-- a loop over what things of a type look like; what is done so far -/
theorem for_on {α : Type} {g : SemG} {b : SemS} (inn : α → T) (I : List α → En → Prop) (n : Nat) : ∀ (xs don : List α) (e : En), I don e → don.length + xs.length ≤ n →
    (∀ x ∈ xs, ∀ (don : List α) (e : En), don.length < n → I don e → ∃ e1, g (inn x) e = some e1 ∧ ∃ e2, (b e1 = .ok .nx e2 ∨ b e1 = .ok .ct e2) ∧ I (don ++ [x]) e2) →
    ∃ e', forS g b (xs.map inn) e = .ok .nx e' ∧ I (don ++ xs) e'
  | [], don, e, h, _, _ => ⟨e, rfl, by rw [List.append_nil]; exact h⟩
  | x :: xs, don, e, h, hl, s => by
    rw [List.length_cons] at hl
    obtain ⟨e1, h1, e2, h2, h3⟩ := s x List.mem_cons_self don e (by omega) h
    obtain ⟨e', h4, h5⟩ := for_on (g := g) (b := b) inn I n xs (don ++ [x]) e2 h3 (by rw [List.length_append, List.length_singleton]; omega) fun x hx => s x (List.mem_cons_of_mem _ hx)
    refine ⟨e', ?_, by rw [List.append_assoc] at h5; exact h5⟩
    rw [List.map_cons, forS, h1]
    rcases h2 with h2 | h2 <;> (simp only [h2]; exact h4)
/-- a loop that may end early by a return -/
theorem for_ret {g : SemG} {b : SemS} (I : Nat → En → Prop) (R : Od → En → Prop) : ∀ (ts : List T) (k : Nat) (e : En), I k e →
    (∀ (j : Nat) (t : T) (e : En), ts[j]? = some t → I (k + j) e → ∃ e1, g t e = some e1 ∧ ∃ e2, ((b e1 = .ok .nx e2 ∨ b e1 = .ok .ct e2) ∧ I (k + j + 1) e2) ∨ ∃ r, b e1 = .ok (.rt r) e2 ∧ R r e2) →
    ∃ e', (forS g b ts e = .ok .nx e' ∧ I (k + ts.length) e') ∨ ∃ r, forS g b ts e = .ok (.rt r) e' ∧ R r e'
  | [], k, e, h, _ => ⟨e, .inl ⟨rfl, h⟩⟩
  | t :: ts, k, e, h, s => by
    obtain ⟨e1, h1, e2, h2⟩ := s 0 t e rfl h
    rcases h2 with ⟨h2, h3⟩ | ⟨r, h2, h3⟩
    · obtain ⟨e', h4⟩ := for_ret I R ts (k + 1) e2 h3 fun j t e q i => by
        have := s (j + 1) t e q (by rw [show k + (j + 1) = k + 1 + j by omega]; exact i)
        rw [show k + (j + 1) + 1 = k + 1 + j + 1 by omega] at this
        exact this
      refine ⟨e', ?_⟩
      have q : forS g b (t :: ts) e = forS g b ts e2 := by
        rw [forS, h1]
        rcases h2 with h2 | h2 <;> simp only [h2]
      rw [q, List.length_cons, show k + (ts.length + 1) = k + 1 + ts.length by omega]
      exact h4
    · exact ⟨e2, .inr ⟨r, by rw [forS, h1]; simp only [h2], h3⟩⟩
/-- a comprehension: each element is wanted -/
theorem comp_inv {g : SemG} {c : SemT} {m : SemE} {vs : List Nat} (I : En → Prop) (P : T → T → Prop) : ∀ (ts acc : List T) (e : En), I e → acc.length + ts.length ≤ sizeLine →
    (∀ t ∈ ts, ∀ e, I e → ∃ e1, g t (wipeE e vs) = some e1 ∧ ∃ e2, c e1 = .ok true e2 ∧ ∃ r e3, m e2 = .ok r e3 ∧ ∃ u e4, esc r e3 = some (u, e4) ∧ P t u ∧ I (restE e e4 vs)) →
    ∃ us e', compS g c m vs ts acc e = .ok (.b (.l (acc ++ us))) e' ∧ I e' ∧ F2 P ts us
  | [], acc, e, h, _, _ => ⟨[], e, by rw [compS, List.append_nil], h, .nil⟩
  | t :: ts, acc, e, h, hl, s => by
    obtain ⟨e1, h1, e2, h2, r, e3, h3, u, e4, h4, p, i⟩ := s t List.mem_cons_self e h
    rw [List.length_cons] at hl
    obtain ⟨us, e', h5, h6, h7⟩ := comp_inv (g := g) (c := c) (m := m) (vs := vs) I P ts (acc ++ [u]) (restE e e4 vs) i (by rw [List.length_append, List.length_singleton]; omega) fun t ht => s t (List.mem_cons_of_mem _ ht)
    refine ⟨u :: us, e', ?_, h6, .cons p h7⟩
    rw [compS, h1]
    simp only [h2, h3, h4, Out.nx, Out.bind]
    rw [if_pos trivial, if_pos (by omega), h5, List.append_assoc]
    rfl
/-- a comprehension over what things of a type look like -/
theorem comp_on {α : Type} {g : SemG} {c : SemT} {m : SemE} {vs : List Nat} (inn out : α → T) : ∀ (xs : List α) (acc : List T) (e : En), acc.length + xs.length ≤ sizeLine →
    (∀ x ∈ xs, ∃ e1, g (inn x) (wipeE e vs) = some e1 ∧ ∃ e2, c e1 = .ok true e2 ∧ ∃ r e3, m e2 = .ok r e3 ∧ ∃ e4, esc r e3 = some (out x, e4) ∧ restE e e4 vs = e) →
    compS g c m vs (xs.map inn) acc e = .ok (.b (.l (acc ++ xs.map out))) e
  | [], acc, e, _, _ => by rw [List.map_nil, List.map_nil, compS, List.append_nil]
  | x :: xs, acc, e, hl, s => by
    obtain ⟨e1, h1, e2, h2, r, e3, h3, e4, h4, h5⟩ := s x List.mem_cons_self
    rw [List.length_cons] at hl
    rw [List.map_cons, compS, h1]
    simp only [h2, h3, h4, Out.nx, Out.bind]
    rw [if_pos trivial, if_pos (by omega), h5, comp_on inn out xs (acc ++ [out x]) e (by rw [List.length_append, List.length_singleton]; omega) fun t ht => s t (List.mem_cons_of_mem _ ht), List.map_cons, List.append_assoc]
    rfl
/-- the same, with a state that goes on -/
theorem comp_go {α : Type} {g : SemG} {c : SemT} {m : SemE} {vs : List Nat} (I : En → Prop) (P : α → T → Prop) (inn : α → T) : ∀ (xs : List α) (acc : List T) (e : En), I e → acc.length + xs.length ≤ sizeLine →
    (∀ x ∈ xs, ∀ e, I e → ∃ e1, g (inn x) (wipeE e vs) = some e1 ∧ ∃ e2, c e1 = .ok true e2 ∧ ∃ r e3, m e2 = .ok r e3 ∧ ∃ u e4, esc r e3 = some (u, e4) ∧ P x u ∧ I (restE e e4 vs)) →
    ∃ us e', compS g c m vs (xs.map inn) acc e = .ok (.b (.l (acc ++ us))) e' ∧ I e' ∧ F2 P xs us
  | [], acc, e, h, _, _ => ⟨[], e, by rw [List.map_nil, compS, List.append_nil], h, .nil⟩
  | x :: xs, acc, e, h, hl, s => by
    obtain ⟨e1, h1, e2, h2, r, e3, h3, u, e4, h4, p, i⟩ := s x List.mem_cons_self e h
    rw [List.length_cons] at hl
    obtain ⟨us, e', h5, h6, h7⟩ := comp_go (g := g) (c := c) (m := m) (vs := vs) I P inn xs (acc ++ [u]) (restE e e4 vs) i (by rw [List.length_append, List.length_singleton]; omega) fun t ht => s t (List.mem_cons_of_mem _ ht)
    refine ⟨u :: us, e', ?_, h6, .cons p h7⟩
    rw [List.map_cons, compS, h1]
    simp only [h2, h3, h4, Out.nx, Out.bind]
    rw [if_pos trivial, if_pos (by omega), h5, List.append_assoc]
    rfl
/-- a comprehension of a function -/
theorem comp_map {g : SemG} {c : SemT} {m : SemE} {vs : List Nat} (f : T → T) (ts acc : List T) (e : En) (hl : acc.length + ts.length ≤ sizeLine)
    (s : ∀ t ∈ ts, ∃ e1, g t (wipeE e vs) = some e1 ∧ ∃ e2, c e1 = .ok true e2 ∧ ∃ r e3, m e2 = .ok r e3 ∧ ∃ e4, esc r e3 = some (f t, e4) ∧ restE e e4 vs = e) :
    compS g c m vs ts acc e = .ok (.b (.l (acc ++ ts.map f))) e := by
  obtain ⟨us, e', h1, rfl, h3⟩ := comp_inv (g := g) (c := c) (m := m) (vs := vs) (fun x => x = e) (fun t u => u = f t) ts acc e rfl hl fun t ht e' h => by
    subst h
    obtain ⟨e1, h1, e2, h2, r, e3, h3, e4, h4, h5⟩ := s t ht
    exact ⟨e1, h1, e2, h2, r, e3, h3, _, e4, h4, rfl, h5⟩
  have : us = ts.map f := by
    clear h1 s hl
    induction h3 with
    | nil => rfl
    | cons h _ ih => rw [h, ih]; rfl
  rw [h1, this]
/-- a comprehension with ifs -/
theorem comp_filter {g : SemG} {c : SemT} {m : SemE} {vs : List Nat} (q : T → Bool) (f : T → T) : ∀ (ts acc : List T) (e : En), acc.length + ts.length ≤ sizeLine →
    (∀ t ∈ ts, ∃ e1, g t (wipeE e vs) = some e1 ∧ ∃ e2, c e1 = .ok (q t) e2 ∧ (q t = false → restE e e2 vs = e) ∧ (q t = true → ∃ r e3, m e2 = .ok r e3 ∧ ∃ e4, esc r e3 = some (f t, e4) ∧ restE e e4 vs = e)) →
    compS g c m vs ts acc e = .ok (.b (.l (acc ++ (ts.filter q).map f))) e
  | [], acc, e, _, _ => by rw [compS]; simp
  | t :: ts, acc, e, hl, s => by
    obtain ⟨e1, h1, e2, h2, h3, h4⟩ := s t List.mem_cons_self
    rw [List.length_cons] at hl
    cases hq : q t with
    | false =>
      rw [compS, h1]
      simp only [h2, Out.nx, Out.bind, hq, h3 hq]
      rw [if_neg (by decide), comp_filter q f ts acc e (by omega) fun t ht => s t (List.mem_cons_of_mem _ ht), List.filter_cons_of_neg (by rw [hq]; decide)]
    | true =>
      obtain ⟨r, e3, h5, e4, h6, h7⟩ := h4 hq
      rw [compS, h1]
      simp only [h2, Out.nx, Out.bind, hq, h5, h6]
      rw [if_pos trivial, if_pos (by omega), h7, comp_filter q f ts (acc ++ [f t]) e (by rw [List.length_append, List.length_singleton]; omega) fun t ht => s t (List.mem_cons_of_mem _ ht), List.filter_cons_of_pos hq, List.map_cons, List.append_assoc]
      rfl
/-! ### ranges -/
theorem iR1_nat {m : SemA} {e e1 : En} {rs : List Od} {n : Nat} (h : m e = .ok rs e1) (hv : vals e1 rs = some [.int (n : Int)]) (hn : n < 16777216) : iR1 m e = .ok ((List.range n).map fun (k : Nat) => .int (0 + (k : Int))) e1 := by
  have a : -(2 ^ 62) ≤ (n : Int) := by omega
  have b : (n : Int) < 2 ^ 62 := by omega
  unfold iR1
  rw [h]
  simp only [Out.bind, hv]
  rw [if_pos ⟨a, b⟩]
  rfl
theorem sFor_eq {mi : SemI} {g : SemG} {b : SemS} {e e1 : En} {ts : List T} (h : mi e = .ok ts e1) : sFor mi g b e = forS g b ts e1 := by
  unfold sFor
  rw [h]
  rfl
/-! ### numerals -/
theorem c0 : ((0 : Nat) : Int) = 0 := rfl
theorem c1 : ((1 : Nat) : Int) = 1 := rfl
theorem c2 : ((2 : Nat) : Int) = 2 := rfl
theorem c3 : ((3 : Nat) : Int) = 3 := rfl
theorem c4 : ((4 : Nat) : Int) = 4 := rfl
theorem c5 : ((5 : Nat) : Int) = 5 := rfl
theorem c6 : ((6 : Nat) : Int) = 6 := rfl
theorem c7 : ((7 : Nat) : Int) = 7 := rfl
theorem c8 : ((8 : Nat) : Int) = 8 := rfl
theorem c9 : ((9 : Nat) : Int) = 9 := rfl
theorem s1 : (1 ≤ sizeLine) = True := eq_true (by unfold sizeLine; omega)
theorem s2 : (2 ≤ sizeLine) = True := eq_true (by unfold sizeLine; omega)
theorem s3 : (3 ≤ sizeLine) = True := eq_true (by unfold sizeLine; omega)
theorem s4 : (4 ≤ sizeLine) = True := eq_true (by unfold sizeLine; omega)
theorem s5 : (5 ≤ sizeLine) = True := eq_true (by unfold sizeLine; omega)
theorem s6 : (6 ≤ sizeLine) = True := eq_true (by unfold sizeLine; omega)
theorem s7 : (7 ≤ sizeLine) = True := eq_true (by unfold sizeLine; omega)
theorem s8 : (8 ≤ sizeLine) = True := eq_true (by unfold sizeLine; omega)
theorem s9 : (9 ≤ sizeLine) = True := eq_true (by unfold sizeLine; omega)
/-! ### equality -/
theorem gEq_int (k : Bool → Bool) (i j : Int) : gEq k (.int i) (.int j) = some (.r (.bool (k (decide (i = j))))) := rfl
theorem finE_v : ∀ (ts : List T) (e : En), finE (ts.map Sl.v) e = ts.map Sl.v
  | [], [] => rfl
  | [], _ :: _ => rfl
  | t :: ts, [] => rfl
  | t :: ts, _ :: e => by rw [List.map_cons, finE, finE_v ts e]; intro z h; cases h
def lentS : Sl → Bool
  | .ow true _ => true
  | .fz _ => true
  | _ => false
theorem lentS_v (t : T) : lentS (.v t) = false := rfl
theorem lentS_un : lentS .un = false := rfl
theorem lentS_f (b : Bx) : lentS (.ow false b) = false := rfl
theorem lentS_t (b : Bx) : lentS (.ow true b) = true := rfl
theorem lentS_z (b : Bx) : lentS (.fz b) = true := rfl
def lentO : Option Sl → Bool
  | some s => lentS s
  | none => false
theorem isLent_eq (e : En) (i : Nat) : isLent e i = lentO e[i]? := by
  unfold isLent
  cases e[i]? with
  | none => rfl
  | some s => cases s with
    | ow l b => cases l <;> rfl
    | _ => rfl
theorem gAll_bools (bs : List Bool) : gAll [.list (bs.map .bool)] = some (.r (.bool (bs.all id))) := by
  have : bools (bs.map .bool) = some bs := by
    induction bs with
    | nil => rfl
    | cons b bs ih => rw [List.map_cons, bools, ih]; try rfl
  show Option.map _ (bools _) = _
  rw [this]
  rfl
end Pu

set_option linter.all false
namespace Mt
abbrev Pt := Int × Int × Nat
def part (ks : List (List Pt)) (k j : Nat) : Pt := (((ks[k]?).getD [])[j]?).getD (0, 0, 0)
structure Good (B : Nat) (ks : List (List Pt)) : Prop where
  hb : B = 2 ∨ B = 3
  pos : 0 < ks.length
  few : ks.length ≤ 20
  len : ∀ ps ∈ ks, ps.length = B * B
  rng : ∀ ps ∈ ks, ∀ p ∈ ps, (0 ≤ p.1 ∧ p.1 < (B : Int)) ∧ (0 ≤ p.2.1 ∧ p.2.1 < (B : Int)) ∧ p.2.2 < ks.length
  nod : ∀ ps ∈ ks, (ps.map fun p => (p.1, p.2.1)).Nodup
theorem Good.row {B : Nat} {ks : List (List Pt)} (g : Good B ks) {k : Nat} (hk : k < ks.length) : ∃ ps, ks[k]? = some ps ∧ ps ∈ ks ∧ ps.length = B * B :=
  ⟨ks[k], List.getElem?_eq_getElem hk, List.getElem_mem hk, g.len _ (List.getElem_mem hk)⟩
theorem Good.at_ {B : Nat} {ks : List (List Pt)} (g : Good B ks) {k j : Nat} (hk : k < ks.length) (hj : j < B * B) : ∃ ps, ks[k]? = some ps ∧ ps[j]? = some (part ks k j) ∧ part ks k j ∈ ps ∧ ps ∈ ks := by
  obtain ⟨ps, h1, h2, h3⟩ := g.row hk
  have h4 : ps[j]? = some (ps[j]'(by omega)) := List.getElem?_eq_getElem (by omega)
  have h5 : part ks k j = ps[j]'(by omega) := by unfold part; rw [h1, Option.getD_some, h4, Option.getD_some]
  exact ⟨ps, h1, by rw [h5]; exact h4, by rw [h5]; exact List.getElem_mem _, h2⟩
theorem Good.prng {B : Nat} {ks : List (List Pt)} (g : Good B ks) {k j : Nat} (hk : k < ks.length) (hj : j < B * B) : (0 ≤ (part ks k j).1 ∧ (part ks k j).1 < (B : Int)) ∧ (0 ≤ (part ks k j).2.1 ∧ (part ks k j).2.1 < (B : Int)) ∧ (part ks k j).2.2 < ks.length := by
  obtain ⟨ps, _, _, h3, h4⟩ := g.at_ hk hj
  exact g.rng ps h4 _ h3
/-- figures, the greatest first -/
def digs (N n : Nat) : Nat → List Nat
  | 0 => []
  | d + 1 => (n / N ^ d % N) :: digs N n d
theorem digs_len (N n : Nat) : ∀ d, (digs N n d).length = d
  | 0 => rfl
  | d + 1 => by rw [digs, List.length_cons, digs_len]
theorem digs_lt {N : Nat} (n : Nat) (h : 0 < N) : ∀ d, ∀ x ∈ digs N n d, x < N
  | 0, x, hx => by cases hx
  | d + 1, x, hx => by
    rw [digs] at hx
    rcases List.mem_cons.mp hx with rfl | hx
    · exact Nat.mod_lt _ h
    · exact digs_lt n h d x hx
theorem dig_add {N : Nat} (h : 0 < N) (j r d e : Nat) (he : e < d) : (j * N ^ d + r) / N ^ e % N = r / N ^ e % N := by
  have e1 : N ^ d = N ^ e * (N * N ^ (d - e - 1)) := by
    rw [← Nat.pow_succ', ← Nat.pow_add]
    congr 1
    omega
  have hp : 0 < N ^ e := Nat.pow_pos h
  rw [e1, show j * (N ^ e * (N * N ^ (d - e - 1))) + r = r + N ^ e * (N * (j * N ^ (d - e - 1))) by
    rw [Nat.add_comm]; congr 1; rw [Nat.mul_left_comm, Nat.mul_left_comm j N], Nat.add_mul_div_left _ _ hp, Nat.add_mul_mod_self_left]
theorem digs_add {N : Nat} (h : 0 < N) (j r d : Nat) : ∀ e, e ≤ d → digs N (j * N ^ d + r) e = digs N r e
  | 0, _ => rfl
  | e + 1, he => by rw [digs, digs, dig_add h j r d e (by omega), digs_add h j r d e (by omega)]
theorem digs_mod {N : Nat} (h : 0 < N) (n d : Nat) : digs N (n % N ^ d) d = digs N n d := by
  have := digs_add h (n / N ^ d) (n % N ^ d) d d (Nat.le_refl _)
  rw [← this]
  congr 1
  rw [Nat.mul_comm]
  exact Nat.div_add_mod n (N ^ d)
abbrev S3 := Nat × Int × Int
def stp (B : Nat) (ks : List (List Pt)) (s : S3) (j : Nat) : S3 := ((part ks s.1 j).2.2, s.2.1 * (B : Int) + (part ks s.1 j).1, s.2.2 * (B : Int) + (part ks s.1 j).2.1)
def run (B : Nat) (ks : List (List Pt)) (s : S3) (ds : List Nat) : S3 := ds.foldl (stp B ks) s
theorem run_cons (B : Nat) (ks : List (List Pt)) (s : S3) (j : Nat) (ds : List Nat) : run B ks s (j :: ds) = run B ks (stp B ks s j) ds := rfl
theorem run_app (B : Nat) (ks : List (List Pt)) (s : S3) (ds es : List Nat) : run B ks s (ds ++ es) = run B ks (run B ks s ds) es := List.foldl_append ..
theorem run_shift (B : Nat) (ks : List (List Pt)) : ∀ (ds : List Nat) (k : Nat) (x y u v : Int), run B ks (k, x + u, y + v) ds = ((run B ks (k, x, y) ds).1, (run B ks (k, x, y) ds).2.1 + u * (B : Int) ^ ds.length, (run B ks (k, x, y) ds).2.2 + v * (B : Int) ^ ds.length)
  | [], k, x, y, u, v => by simp [run]
  | j :: ds, k, x, y, u, v => by
    rw [run_cons, run_cons]
    have e : stp B ks (k, x + u, y + v) j = ((stp B ks (k, x, y) j).1, (stp B ks (k, x, y) j).2.1 + u * (B : Int), (stp B ks (k, x, y) j).2.2 + v * (B : Int)) := by
      simp only [stp, Prod.mk.injEq, true_and, Int.add_mul]
      constructor <;> omega
    rw [e, run_shift B ks ds, List.length_cons, Int.pow_succ, Int.mul_assoc, Int.mul_assoc, Int.mul_comm ((B : Int) ^ ds.length)]
theorem run_kind {B : Nat} {ks : List (List Pt)} (g : Good B ks) : ∀ (ds : List Nat) (s : S3), s.1 < ks.length → (∀ x ∈ ds, x < B * B) → (run B ks s ds).1 < ks.length
  | [], s, h, _ => h
  | j :: ds, s, h, hd => by
    rw [run_cons]
    exact run_kind g ds _ (g.prng h (hd j List.mem_cons_self)).2.2 fun x hx => hd x (List.mem_cons_of_mem _ hx)
/-- the cell of a number -/
def cellF (B : Nat) (ks : List (List Pt)) (k d n : Nat) : Int × Int := (run B ks (k, 0, 0) (digs (B * B) n d)).2
theorem cell_succ {B : Nat} {ks : List (List Pt)} (hB : 0 < B) (k d j r : Nat) (hj : j < B * B) (hr : r < (B * B) ^ d) :
    cellF B ks k (d + 1) (j * (B * B) ^ d + r) = ((part ks k j).1 * (B : Int) ^ d + (cellF B ks (part ks k j).2.2 d r).1, (part ks k j).2.1 * (B : Int) ^ d + (cellF B ks (part ks k j).2.2 d r).2) := by
  have hN : 0 < B * B := Nat.mul_pos hB hB
  have hq : (j * (B * B) ^ d + r) / (B * B) ^ d % (B * B) = j := by
    rw [Nat.mul_comm, Nat.mul_add_div (Nat.pow_pos hN), Nat.div_eq_of_lt hr, Nat.add_zero, Nat.mod_eq_of_lt hj]
  unfold cellF
  rw [digs, hq, run_cons, digs_add hN _ _ _ _ (Nat.le_refl _)]
  have e : stp B ks (k, 0, 0) j = ((part ks k j).2.2, 0 + (part ks k j).1, 0 + (part ks k j).2.1) := by simp [stp]
  rw [e, run_shift, digs_len]
  simp only [Int.add_comm]
theorem range_mul {α : Type} (f : Nat → α) (M : Nat) : ∀ m, (List.range (m * M)).map f = (List.range m).flatMap fun j => (List.range M).map fun r => f (j * M + r)
  | 0 => by simp
  | m + 1 => by
    rw [Nat.succ_mul, List.range_add, List.map_append, range_mul f M m, List.range_succ, List.flatMap_append, List.map_map]
    simp [List.flatMap_cons]
def lineOf (B : Nat) (ks : List (List Pt)) (d k : Nat) : List (Int × Int) := (List.range ((B * B) ^ d)).map (cellF B ks k d)
theorem line_len (B : Nat) (ks : List (List Pt)) (d k : Nat) : (lineOf B ks d k).length = (B * B) ^ d := by simp [lineOf]
def mv (B d : Nat) (p : Pt) (c : Int × Int) : Int × Int := (p.1 * (B : Int) ^ d + c.1, p.2.1 * (B : Int) ^ d + c.2)
theorem row_parts {B : Nat} {ks : List (List Pt)} (g : Good B ks) {k : Nat} {ps : List Pt} (h : ks[k]? = some ps) : ps = (List.range (B * B)).map (part ks k) := by
  have hk : k < ks.length := (List.getElem?_eq_some_iff.mp h).1
  have hl := g.len ps (List.mem_of_getElem? h)
  apply List.ext_getElem?
  intro j
  by_cases hj : j < B * B
  · obtain ⟨ps', h1, h2, _⟩ := g.at_ hk hj
    rw [h] at h1; cases h1
    rw [h2, List.getElem?_map, List.getElem?_range hj]; rfl
  · rw [List.getElem?_eq_none (by omega), List.getElem?_eq_none (by simp; omega)]
theorem line_succ {B : Nat} {ks : List (List Pt)} (g : Good B ks) (d : Nat) {k : Nat} {ps : List Pt} (h : ks[k]? = some ps) : lineOf B ks (d + 1) k = ps.flatMap fun p => (lineOf B ks d p.2.2).map (mv B d p) := by
  have hB : 0 < B := by rcases g.hb with h | h <;> omega
  rw [row_parts g h, List.flatMap_map]
  unfold lineOf
  rw [Nat.pow_succ, Nat.mul_comm, range_mul]
  have key : ∀ l : List Nat, (∀ j ∈ l, j < B * B) → (l.flatMap fun j => (List.range ((B * B) ^ d)).map fun r => cellF B ks k (d + 1) (j * (B * B) ^ d + r)) = l.flatMap fun j => ((List.range ((B * B) ^ d)).map (cellF B ks (part ks k j).2.2 d)).map (mv B d (part ks k j)) := by
    intro l hl
    induction l with
    | nil => rfl
    | cons j l ih =>
      rw [List.flatMap_cons, List.flatMap_cons, ih fun x hx => hl x (List.mem_cons_of_mem _ hx), List.map_map]
      congr 1
      refine List.map_congr_left fun r hr => ?_
      exact cell_succ hB k d j r (hl j List.mem_cons_self) (List.mem_range.mp hr)
  exact key _ fun j hj => List.mem_range.mp hj
theorem line_zero (B : Nat) (ks : List (List Pt)) (k : Nat) : lineOf B ks 0 k = [(0, 0)] := by simp [lineOf, cellF, digs, run]
/-- the digits still to come -/
theorem dig_get {N : Nat} (n : Nat) : ∀ d t, t < d → (digs N n d)[t]? = some (n / N ^ (d - t - 1) % N)
  | 0, t, h => by omega
  | d + 1, 0, _ => by rw [digs]; simp
  | d + 1, t + 1, h => by rw [digs, List.getElem?_cons_succ, dig_get n d t (by omega)]; congr 4; omega
theorem take_succ_digs {N : Nat} (n d t : Nat) (h : t < d) : (digs N n d).take (t + 1) = (digs N n d).take t ++ [n / N ^ (d - t - 1) % N] := by
  rw [List.take_succ, dig_get n d t h]; rfl
/-- what the law reckons: the rest by the size -/
theorem rest_div {N : Nat} (hN : 0 < N) (n d t : Nat) (h : t < d) : n % N ^ (d - t) / N ^ (d - t - 1) = n / N ^ (d - t - 1) % N := by
  have e : N ^ (d - t) = N ^ (d - t - 1) * N := by rw [← Nat.pow_succ]; congr 1; omega
  rw [e, Nat.mod_mul_right_div_self]
theorem rest_mod {N : Nat} (n d t : Nat) (h : t < d) : n % N ^ (d - t) % N ^ (d - t - 1) = n % N ^ (d - t - 1) := by
  have e : N ^ (d - t) = N ^ (d - t - 1) * N := by rw [← Nat.pow_succ]; congr 1; omega
  rw [e]; exact Nat.mod_mul_right_mod ..
end Mt

set_option linter.all false
namespace Mt
/-! ### from the cell back to the number -/
theorem digs_snoc {N : Nat} (h : 0 < N) (x r : Nat) (hr : r < N) : ∀ d, digs N (x * N + r) (d + 1) = digs N x d ++ [r]
  | 0 => by
    show [(x * N + r) / N ^ 0 % N] = [r]
    rw [Nat.pow_zero, Nat.div_one, Nat.mul_comm, Nat.mul_add_mod, Nat.mod_eq_of_lt hr]
  | d + 1 => by
    rw [digs, digs_snoc h x r hr d, digs, List.cons_append]
    congr 2
    rw [Nat.pow_succ', ← Nat.div_div_eq_div_mul, Nat.mul_comm x N, Nat.mul_add_div h, Nat.div_eq_of_lt hr, Nat.add_zero]
/-- a number of figures -/
def num (N : Nat) (ds : List Nat) : Nat := ds.foldl (fun a j => a * N + j) 0
theorem num_snoc (N : Nat) (ds : List Nat) (j : Nat) : num N (ds ++ [j]) = num N ds * N + j := by simp [num, List.foldl_append]
theorem digs_num {N : Nat} (h : 0 < N) : ∀ (n : Nat) (ds : List Nat), ds.length = n → (∀ x ∈ ds, x < N) → digs N (num N ds) n = ds
  | 0, ds, hl, _ => by rw [List.length_eq_zero_iff.mp hl]; rfl
  | n + 1, ds, hl, hd => by
    obtain ⟨es, j, rfl⟩ : ∃ es j, ds = es ++ [j] := ⟨ds.dropLast, ds.getLast (by intro z; rw [z] at hl; cases hl), (List.dropLast_concat_getLast _).symm⟩
    rw [List.length_append, List.length_singleton] at hl
    rw [num_snoc, digs_snoc h _ _ (hd j (by simp)), digs_num h n es (by omega) fun x hx => hd x (by simp [hx])]
theorem num_digs {N : Nat} (h : 0 < N) (n : Nat) : ∀ d, num N (digs N n d) = n % N ^ d := by
  have key : ∀ d a, (digs N n d).foldl (fun a j => a * N + j) a = a * N ^ d + n % N ^ d := by
    intro d
    induction d with
    | zero => intro a; simp [digs, Nat.mod_one]
    | succ d ih =>
      intro a
      rw [digs, List.foldl_cons, ih]
      have e : n % N ^ (d + 1) = N ^ d * (n / N ^ d % N) + n % N ^ d := by
        rw [Nat.pow_succ, Nat.mod_mul]; omega
      rw [e, Nat.pow_succ, Nat.add_mul, Nat.mul_comm (n / N ^ d % N), Nat.mul_assoc, Nat.mul_comm N, Nat.add_assoc]
  intro d
  have := key d 0
  rw [Nat.zero_mul, Nat.zero_add] at this
  exact this
/-- the parts on the way -/
def pth (ks : List (List Pt)) : Nat → List Nat → List Pt
  | _, [] => []
  | k, j :: ds => part ks k j :: pth ks (part ks k j).2.2 ds
theorem pth_len (ks : List (List Pt)) : ∀ (ds : List Nat) (k : Nat), (pth ks k ds).length = ds.length
  | [], _ => rfl
  | j :: ds, k => by rw [pth, List.length_cons, List.length_cons, pth_len ks ds]
theorem pth_rng {B : Nat} {ks : List (List Pt)} (g : Good B ks) : ∀ (ds : List Nat) (k : Nat), k < ks.length → (∀ x ∈ ds, x < B * B) → ∀ p ∈ pth ks k ds, (0 ≤ p.1 ∧ p.1 < (B : Int)) ∧ (0 ≤ p.2.1 ∧ p.2.1 < (B : Int))
  | [], _, _, _, p, hp => by cases hp
  | j :: ds, k, hk, hd, p, hp => by
    rw [pth] at hp
    have q := g.prng hk (hd j List.mem_cons_self)
    rcases List.mem_cons.mp hp with rfl | hp
    · exact ⟨q.1, q.2.1⟩
    · exact pth_rng g ds _ q.2.2 (fun x hx => hd x (List.mem_cons_of_mem _ hx)) p hp
theorem run_pth {B : Nat} {ks : List (List Pt)} (g : Good B ks) : ∀ (ds : List Nat) (k : Nat) (a b : Nat), k < ks.length → (∀ x ∈ ds, x < B * B) →
    (run B ks (k, (a : Int), (b : Int)) ds).2 = (((((pth ks k ds).map fun p => p.1.toNat).foldl (fun a j => a * B + j) a : Nat) : Int), ((((pth ks k ds).map fun p => p.2.1.toNat).foldl (fun a j => a * B + j) b : Nat) : Int))
  | [], k, a, b, _, _ => rfl
  | j :: ds, k, a, b, hk, hd => by
    have q := g.prng hk (hd j List.mem_cons_self)
    rw [run_cons]
    have e : stp B ks (k, (a : Int), (b : Int)) j = ((part ks k j).2.2, ((a * B + (part ks k j).1.toNat : Nat) : Int), ((b * B + (part ks k j).2.1.toNat : Nat) : Int)) := by
      show (_, _, _) = _
      have e1 : (((part ks k j).1.toNat : Nat) : Int) = (part ks k j).1 := Int.toNat_of_nonneg q.1.1
      have e2 : (((part ks k j).2.1.toNat : Nat) : Int) = (part ks k j).2.1 := Int.toNat_of_nonneg q.2.1.1
      rw [Int.natCast_add, Int.natCast_mul, Int.natCast_add, Int.natCast_mul, e1, e2]
    rw [e, run_pth g ds _ _ _ q.2.2 fun x hx => hd x (List.mem_cons_of_mem _ hx), pth, List.map_cons, List.map_cons, List.foldl_cons, List.foldl_cons]
/-- the places of a cell's figures are those of the parts on the way -/
theorem cell_digs {B : Nat} {ks : List (List Pt)} (g : Good B ks) {k : Nat} (hk : k < ks.length) (d n : Nat) :
    (0 ≤ (cellF B ks k d n).1 ∧ (cellF B ks k d n).1 < (B : Int) ^ d) ∧ (0 ≤ (cellF B ks k d n).2 ∧ (cellF B ks k d n).2 < (B : Int) ^ d) ∧
    digs B (cellF B ks k d n).1.toNat d = (pth ks k (digs (B * B) n d)).map (fun p => p.1.toNat) ∧ digs B (cellF B ks k d n).2.toNat d = (pth ks k (digs (B * B) n d)).map (fun p => p.2.1.toNat) := by
  have hB : 0 < B := by rcases g.hb with h | h <;> omega
  have hN : 0 < B * B := Nat.mul_pos hB hB
  have hd := digs_lt n hN d
  have e := run_pth g (digs (B * B) n d) k 0 0 hk hd
  have hp := pth_rng g (digs (B * B) n d) k hk hd
  have hl : (pth ks k (digs (B * B) n d)).length = d := by rw [pth_len, digs_len]
  have l1 : ∀ (es : List Nat), es.length = d → (∀ x ∈ es, x < B) → num B es < B ^ d := by
    intro es he hx
    have e1 := digs_num hB d es he hx
    have e2 := num_digs hB (num B es) d
    rw [e1] at e2
    rw [e2]
    exact Nat.mod_lt _ (Nat.pow_pos hB)
  have hx : ∀ x ∈ (pth ks k (digs (B * B) n d)).map (fun p => p.1.toNat), x < B := fun x hx => by
    obtain ⟨p, hm, rfl⟩ := List.mem_map.mp hx
    have := (hp p hm).1; omega
  have hy : ∀ x ∈ (pth ks k (digs (B * B) n d)).map (fun p => p.2.1.toNat), x < B := fun x hx => by
    obtain ⟨p, hm, rfl⟩ := List.mem_map.mp hx
    have := (hp p hm).2; omega
  have c1 : (cellF B ks k d n).1 = (num B ((pth ks k (digs (B * B) n d)).map fun p => p.1.toNat) : Nat) := congrArg Prod.fst e
  have c2 : (cellF B ks k d n).2 = (num B ((pth ks k (digs (B * B) n d)).map fun p => p.2.1.toNat) : Nat) := congrArg Prod.snd e
  have b1 := l1 _ (by rw [List.length_map, hl]) hx
  have b2 := l1 _ (by rw [List.length_map, hl]) hy
  rw [c1, c2]
  refine ⟨⟨by omega, by exact_mod_cast b1⟩, ⟨by omega, by exact_mod_cast b2⟩, ?_, ?_⟩
  · rw [Int.toNat_natCast]; exact digs_num hB d _ (by rw [List.length_map, hl]) hx
  · rw [Int.toNat_natCast]; exact digs_num hB d _ (by rw [List.length_map, hl]) hy
theorem pth_get (B : Nat) (ks : List (List Pt)) (x y : Int) : ∀ (ds : List Nat) (k t : Nat) (h : t < ds.length), (pth ks k ds)[t]? = some (part ks (run B ks (k, x, y) (ds.take t)).1 (ds[t]))
  | [], _, _, h => by simp at h
  | j :: ds, k, 0, _ => rfl
  | j :: ds, k, t + 1, h => by
    rw [pth, List.getElem?_cons_succ, List.take_succ_cons, run_cons]
    have := pth_get B ks (stp B ks (k, x, y) j).2.1 (stp B ks (k, x, y) j).2.2 ds (part ks k j).2.2 t (by simpa using h)
    rw [this]
    rfl
/-- the kinds on the way -/
def scanK (ks : List (List Pt)) (k : Nat) (ds : List Nat) : List Nat := (pth ks k ds).map fun p => p.2.2
theorem pth_snoc (B : Nat) (ks : List (List Pt)) (x y : Int) (j : Nat) : ∀ (ds : List Nat) (k : Nat), pth ks k (ds ++ [j]) = pth ks k ds ++ [part ks (run B ks (k, x, y) ds).1 j]
  | [], k => rfl
  | i :: ds, k => by
    rw [List.cons_append, pth, pth, run_cons, List.cons_append]
    have := pth_snoc B ks (stp B ks (k, x, y) i).2.1 (stp B ks (k, x, y) i).2.2 j ds (part ks k i).2.2
    rw [this]
    rfl
/-! ### a book begun elsewhere -/
/-- book ks2 is that of the kinds met of ks -/
structure Ren (ks ks2 : List (List Pt)) (met : List Nat) : Prop where
  len : ks2.length = met.length
  lt : ∀ k ∈ met, k < ks.length
  part : ∀ (i : Nat) (k : Nat), met[i]? = some k → ∀ j, (∃ ps, ks[k]? = some ps ∧ j < ps.length) → (Mt.part ks2 i j).1 = (Mt.part ks k j).1 ∧ (Mt.part ks2 i j).2.1 = (Mt.part ks k j).2.1 ∧ met[(Mt.part ks2 i j).2.2]? = some (Mt.part ks k j).2.2
theorem ren_run {B : Nat} {ks ks2 : List (List Pt)} {met : List Nat} (g : Good B ks) (r : Ren ks ks2 met) : ∀ (ds : List Nat) (i k : Nat) (x y : Int), met[i]? = some k → (∀ x ∈ ds, x < B * B) →
    (run B ks2 (i, x, y) ds).2 = (run B ks (k, x, y) ds).2 ∧ met[(run B ks2 (i, x, y) ds).1]? = some (run B ks (k, x, y) ds).1
  | [], i, k, x, y, h, _ => ⟨rfl, h⟩
  | j :: ds, i, k, x, y, h, hd => by
    obtain ⟨ps, h1, h2, h3⟩ := g.row (r.lt k (List.mem_of_getElem? h))
    obtain ⟨p1, p2, p3⟩ := r.part i k h j ⟨ps, h1, by rw [h3]; exact hd j List.mem_cons_self⟩
    rw [run_cons, run_cons]
    have e1 : stp B ks2 (i, x, y) j = ((Mt.part ks2 i j).2.2, x * (B : Int) + (Mt.part ks k j).1, y * (B : Int) + (Mt.part ks k j).2.1) := by
      show (_, _, _) = _
      rw [p1, p2]
    rw [e1]
    exact ren_run g r ds _ _ _ _ p3 fun x hx => hd x (List.mem_cons_of_mem _ hx)
theorem ren_cell {B : Nat} {ks ks2 : List (List Pt)} {met : List Nat} (g : Good B ks) (r : Ren ks ks2 met) {k : Nat} (h : met[0]? = some k) (d n : Nat) : cellF B ks2 0 d n = cellF B ks k d n := by
  have hN : 0 < B * B := by rcases g.hb with h | h <;> subst h <;> decide
  exact (ren_run g r (digs (B * B) n d) 0 k 0 0 h (digs_lt n hN d)).1
end Mt
namespace Mt
theorem num_lt {N : Nat} (h : 0 < N) (ds : List Nat) (hd : ∀ x ∈ ds, x < N) : num N ds < N ^ ds.length := by
  have e1 := digs_num h ds.length ds rfl hd
  have e2 := num_digs h (num N ds) ds.length
  rw [e1] at e2
  rw [e2]
  exact Nat.mod_lt _ (Nat.pow_pos h)
end Mt

set_option linter.all false
namespace Mt
/-! ### postures, and backward, at all depths -/
def qz1 (w : Int) (c : Int × Int) : Int × Int := (w - 1 - c.2, c.1)
def qz (w : Int) (way mir : Nat) (c : Int × Int) : Int × Int :=
  let d := (match way with | 0 => c | 1 => qz1 w c | 2 => qz1 w (qz1 w c) | _ => qz1 w (qz1 w (qz1 w c)))
  match mir with | 0 => d | _ => (d.2, d.1)
theorem qz_step (W B : Int) (way mir : Nat) (h : way < 4) (h2 : mir < 2) (x y px py : Int) :
    qz (W * B) way mir (x * B + px, y * B + py) = ((qz W way mir (x, y)).1 * B + (qz B way mir (px, py)).1, (qz W way mir (x, y)).2 * B + (qz B way mir (px, py)).2) := by
  have e : ∀ z : Int, (W - 1 - z) * B = W * B - B - z * B := fun z => by rw [Int.sub_mul, Int.sub_mul, Int.one_mul]
  have e2 : ∀ z : Int, (W - 1 - (W - 1 - z)) * B = z * B := fun z => by congr 1; omega
  have hw : way = 0 ∨ way = 1 ∨ way = 2 ∨ way = 3 := by omega
  have hm : mir = 0 ∨ mir = 1 := by omega
  have e3 : ∀ a z p : Int, W * B - 1 - (W * B - 1 - (z * B + p)) = (W - 1 - (W - 1 - z)) * B + (B - 1 - (B - 1 - p)) := fun a z p => by rw [e2]; omega
  rcases hw with rfl | rfl | rfl | rfl <;> rcases hm with rfl | rfl <;> simp only [qz, qz1] <;> (refine Prod.ext ?_ ?_) <;> simp only [e, e2] <;> omega
theorem qz_rng {w : Int} {way mir : Nat} {c : Int × Int} (hc : (0 ≤ c.1 ∧ c.1 < w) ∧ (0 ≤ c.2 ∧ c.2 < w)) (h : way < 4) (h2 : mir < 2) : (0 ≤ (qz w way mir c).1 ∧ (qz w way mir c).1 < w) ∧ (0 ≤ (qz w way mir c).2 ∧ (qz w way mir c).2 < w) := by
  have hw : way = 0 ∨ way = 1 ∨ way = 2 ∨ way = 3 := by omega
  have hm : mir = 0 ∨ mir = 1 := by omega
  rcases hw with rfl | rfl | rfl | rfl <;> rcases hm with rfl | rfl <;> simp only [qz, qz1] <;> omega
theorem qz_inj {w : Int} {way mir : Nat} {c d : Int × Int} (h : way < 4) (h2 : mir < 2) (e : qz w way mir c = qz w way mir d) : c = d := by
  obtain ⟨x, y⟩ := c
  obtain ⟨u, v⟩ := d
  have hw : way = 0 ∨ way = 1 ∨ way = 2 ∨ way = 3 := by omega
  have hm : mir = 0 ∨ mir = 1 := by omega
  rcases hw with rfl | rfl | rfl | rfl <;> rcases hm with rfl | rfl <;> simp only [qz, qz1, Prod.mk.injEq] at e ⊢ <;> omega
/-- a part in a posture -/
def tq (B : Nat) (way mir : Nat) (p : Pt) : Pt := ((qz (B : Int) way mir (p.1, p.2.1)).1, (qz (B : Int) way mir (p.1, p.2.1)).2, p.2.2)
def tqK (B : Nat) (way mir : Nat) (ks : List (List Pt)) : List (List Pt) := ks.map fun ps => ps.map (tq B way mir)
theorem part_tq {B : Nat} {ks : List (List Pt)} (g : Good B ks) (way mir : Nat) {k j : Nat} (hk : k < ks.length) (hj : j < B * B) : part (tqK B way mir ks) k j = tq B way mir (part ks k j) := by
  obtain ⟨ps, h1, h2, _⟩ := g.at_ hk hj
  generalize part ks k j = p at h2
  show ((((tqK B way mir ks)[k]?).getD [])[j]?).getD (0, 0, 0) = tq B way mir p
  unfold tqK
  rw [List.getElem?_map, h1]
  show ((ps.map (tq B way mir))[j]?).getD (0, 0, 0) = _
  rw [List.getElem?_map, h2]
  rfl
theorem good_tq {B : Nat} {ks : List (List Pt)} (g : Good B ks) {way mir : Nat} (h : way < 4) (h2 : mir < 2) : Good B (tqK B way mir ks) := by
  have hl : (tqK B way mir ks).length = ks.length := by unfold tqK; rw [List.length_map]
  refine ⟨g.hb, by rw [hl]; exact g.pos, by rw [hl]; exact g.few, fun rs hr => ?_, fun rs hr => ?_, fun rs hr => ?_⟩
  all_goals
    obtain ⟨ps, hp, rfl⟩ := List.mem_map.mp hr
  · rw [List.length_map]; exact g.len ps hp
  · intro q hq
    obtain ⟨p, hm, rfl⟩ := List.mem_map.mp hq
    obtain ⟨z1, z2, z3⟩ := g.rng ps hp p hm
    have := qz_rng (w := (B : Int)) (c := (p.1, p.2.1)) ⟨z1, z2⟩ h h2
    exact ⟨this.1, this.2, by rw [hl]; exact z3⟩
  · rw [List.map_map]
    have nd := g.nod ps hp
    have e : (ps.map ((fun p : Pt => (p.1, p.2.1)) ∘ tq B way mir)) = (ps.map fun p => (p.1, p.2.1)).map (qz (B : Int) way mir) := by rw [List.map_map]; rfl
    rw [e]
    exact List.Pairwise.map _ (fun a b hab z => hab (qz_inj h h2 z)) nd
theorem run_tq {B : Nat} {ks : List (List Pt)} (g : Good B ks) {way mir : Nat} (h : way < 4) (h2 : mir < 2) : ∀ (ds : List Nat) (k m : Nat) (x y : Int), k < ks.length → (∀ x ∈ ds, x < B * B) →
    run B (tqK B way mir ks) (k, (qz ((B : Int) ^ m) way mir (x, y)).1, (qz ((B : Int) ^ m) way mir (x, y)).2) ds = ((run B ks (k, x, y) ds).1, (qz ((B : Int) ^ (m + ds.length)) way mir (run B ks (k, x, y) ds).2).1, (qz ((B : Int) ^ (m + ds.length)) way mir (run B ks (k, x, y) ds).2).2)
  | [], k, m, x, y, _, _ => rfl
  | j :: ds, k, m, x, y, hk, hd => by
    have hj := hd j List.mem_cons_self
    have q := g.prng hk hj
    rw [run_cons, run_cons]
    have e : stp B (tqK B way mir ks) (k, (qz ((B : Int) ^ m) way mir (x, y)).1, (qz ((B : Int) ^ m) way mir (x, y)).2) j = ((part ks k j).2.2, (qz ((B : Int) ^ (m + 1)) way mir (x * (B : Int) + (part ks k j).1, y * (B : Int) + (part ks k j).2.1)).1, (qz ((B : Int) ^ (m + 1)) way mir (x * (B : Int) + (part ks k j).1, y * (B : Int) + (part ks k j).2.1)).2) := by
      unfold stp
      rw [part_tq g way mir hk hj, Int.pow_succ, qz_step _ _ way mir h h2]
      rfl
    rw [e, run_tq g h h2 ds _ (m + 1) _ _ q.2.2 fun x hx => hd x (List.mem_cons_of_mem _ hx), List.length_cons, show m + (ds.length + 1) = m + 1 + ds.length by omega]
    rfl
theorem qz_zero (way mir : Nat) (h : way < 4) (h2 : mir < 2) : qz ((1 : Int)) way mir (0, 0) = (0, 0) := by
  have hw : way = 0 ∨ way = 1 ∨ way = 2 ∨ way = 3 := by omega
  have hm : mir = 0 ∨ mir = 1 := by omega
  rcases hw with rfl | rfl | rfl | rfl <;> rcases hm with rfl | rfl <;> decide
theorem cell_tq {B : Nat} {ks : List (List Pt)} (g : Good B ks) {way mir : Nat} (h : way < 4) (h2 : mir < 2) {k : Nat} (hk : k < ks.length) (d n : Nat) : cellF B (tqK B way mir ks) k d n = qz ((B : Int) ^ d) way mir (cellF B ks k d n) := by
  have hN : 0 < B * B := by rcases g.hb with h | h <;> subst h <;> decide
  have := run_tq g h h2 (digs (B * B) n d) k 0 0 0 hk (digs_lt n hN d)
  rw [Int.pow_zero, qz_zero way mir h h2, digs_len, Nat.zero_add] at this
  exact congrArg Prod.snd this
/-! #### backward -/
theorem part_rev {B : Nat} {ks : List (List Pt)} (g : Good B ks) {k j : Nat} (hk : k < ks.length) (hj : j < B * B) : part (ks.map List.reverse) k (B * B - 1 - j) = part ks k j := by
  obtain ⟨ps, h1, h2, h3⟩ := g.row hk
  unfold part
  rw [List.getElem?_map, h1]
  show ((ps.reverse)[B * B - 1 - j]?).getD (0, 0, 0) = (ps[j]?).getD (0, 0, 0)
  rw [List.getElem?_reverse (by omega)]
  congr 2
  omega
theorem good_rev {B : Nat} {ks : List (List Pt)} (g : Good B ks) : Good B (ks.map List.reverse) := by
  have hl : (ks.map List.reverse).length = ks.length := List.length_map ..
  refine ⟨g.hb, by rw [hl]; exact g.pos, by rw [hl]; exact g.few, fun rs hr => ?_, fun rs hr => ?_, fun rs hr => ?_⟩
  all_goals
    obtain ⟨ps, hp, rfl⟩ := List.mem_map.mp hr
  · rw [List.length_reverse]; exact g.len ps hp
  · intro q hq
    rw [hl]
    exact g.rng ps hp q (List.mem_reverse.mp hq)
  · rw [List.map_reverse]
    exact List.pairwise_reverse.mpr ((g.nod ps hp).imp fun h => Ne.symm h)
theorem run_rev {B : Nat} {ks : List (List Pt)} (g : Good B ks) : ∀ (ds : List Nat) (s : S3), s.1 < ks.length → (∀ x ∈ ds, x < B * B) → run B (ks.map List.reverse) s (ds.map fun j => B * B - 1 - j) = run B ks s ds
  | [], _, _, _ => rfl
  | j :: ds, s, hk, hd => by
    have hj := hd j List.mem_cons_self
    rw [List.map_cons, run_cons, run_cons]
    have e : stp B (ks.map List.reverse) s (B * B - 1 - j) = stp B ks s j := by unfold stp; rw [part_rev g hk hj]
    rw [e]
    exact run_rev g ds _ (g.prng hk hj).2.2 fun x hx => hd x (List.mem_cons_of_mem _ hx)
theorem num_rev {N : Nat} (h : 0 < N) : ∀ (n : Nat) (ds : List Nat), ds.length = n → (∀ x ∈ ds, x < N) → num N (ds.map fun j => N - 1 - j) + num N ds + 1 = N ^ n
  | 0, ds, hl, _ => by rw [List.length_eq_zero_iff.mp hl]; rfl
  | n + 1, ds, hl, hd => by
    obtain ⟨es, j, rfl⟩ : ∃ es j, ds = es ++ [j] := ⟨ds.dropLast, ds.getLast (by intro z; rw [z] at hl; cases hl), (List.dropLast_concat_getLast _).symm⟩
    rw [List.length_append, List.length_singleton] at hl
    have ih := num_rev h n es (by omega) fun x hx => hd x (by simp [hx])
    have hj : j < N := hd j (by simp)
    rw [List.map_append, List.map_cons, List.map_nil, num_snoc, num_snoc, Nat.pow_succ, ← ih, Nat.add_mul, Nat.add_mul, Nat.one_mul]
    omega
theorem digs_rev {N : Nat} (h : 0 < N) (n d : Nat) (hn : n < N ^ d) : digs N (N ^ d - 1 - n) d = (digs N n d).map fun j => N - 1 - j := by
  have hl := digs_len N n d
  have hlt := digs_lt n h d
  have e1 := num_digs h n d
  rw [Nat.mod_eq_of_lt hn] at e1
  have e2 := num_rev h d (digs N n d) hl hlt
  rw [e1] at e2
  have e3 : N ^ d - 1 - n = num N ((digs N n d).map fun j => N - 1 - j) := by omega
  rw [e3]
  refine digs_num h d _ (by rw [List.length_map, hl]) fun x hx => ?_
  obtain ⟨j, _, rfl⟩ := List.mem_map.mp hx
  omega
theorem cell_rev {B : Nat} {ks : List (List Pt)} (g : Good B ks) {k : Nat} (hk : k < ks.length) (d n : Nat) (hn : n < (B * B) ^ d) : cellF B (ks.map List.reverse) k d ((B * B) ^ d - 1 - n) = cellF B ks k d n := by
  have hN : 0 < B * B := by rcases g.hb with h | h <;> subst h <;> decide
  unfold cellF
  rw [digs_rev hN n d hn, run_rev g _ _ hk (digs_lt n hN d)]
end Mt

set_option Elab.async false
set_option linter.all false
namespace Lw
open PySem PySem.Spec L2 Ev
noncomputable def b_is_whole : SemS := (sRet (eAnd (eIsi isInt (eVar 0)) (eNot (eIsi isBool (eVar 0)))))
noncomputable def m_is_whole : FSem := runFn 1 b_is_whole
noncomputable def b_is_count : SemS := (sRet (eAnd (eCall 1 m_is_whole (aCons (eVar 0) aNil)) (eOp2 gGe (eVar 0) (eK (.int 0)))))
noncomputable def m_is_count : FSem := runFn 1 b_is_count
noncomputable def b_is_index : SemS := (sRet (eAnd (eCall 1 m_is_count (aCons (eVar 0) aNil)) (eOp2 gLt (eVar 0) (eVar 1))))
noncomputable def m_is_index : FSem := runFn 2 b_is_index
noncomputable def y1_power : SemS := (sSet 2 (eOp2 gMul (eVar 2) (eVar 0)))
noncomputable def l1_power : SemS := (sFor (iR1 (aCons (eVar 1) aNil)) (gN 3) y1_power)
noncomputable def b_power : SemS := (sSeq (sSet 2 (eK (.int 1))) (sSeq l1_power (sRet (eVar 2))))
noncomputable def m_power : FSem := runFn 4 b_power
noncomputable def y1_digits_of : SemS := (sSeq (sAsg (gT 2 (gsCons (gN 0) (gsCons (gN 5) gsNil))) (eFn gDivmod (aCons (eVar 0) (aCons (eVar 1) aNil)))) (sDrop (eMut 3 gAppend (aCons (eVar 5) aNil))))
noncomputable def l1_digits_of : SemS := (sFor (iR1 (aCons (eVar 2) aNil)) (gN 4) y1_digits_of)
noncomputable def b_digits_of : SemS := (sSeq (sSet 3 (eLst aNil)) (sSeq l1_digits_of (sRet (eRev (eVar 3)))))
noncomputable def m_digits_of : FSem := runFn 6 b_digits_of
noncomputable def b__is_part : SemS := (sSeq (sIf (tOr (tNot (tb (eIsi isTuple (eVar 2)))) (tb (eOp2 (gEq not) (eFn gLen (aCons (eVar 2) aNil)) (eK (.int 3))))) (sRet (eK (.bool false))) sNil) (sSeq (sAsg (gT 3 (gsCons (gN 3) (gsCons (gN 4) (gsCons (gN 5) gsNil)))) (eVar 2)) (sRet (eAnd (eCall 2 m_is_index (aCons (eVar 3) (aCons (eVar 0) aNil))) (eAnd (eCall 2 m_is_index (aCons (eVar 4) (aCons (eVar 0) aNil))) (eCall 2 m_is_index (aCons (eVar 5) (aCons (eVar 1) aNil))))))))
noncomputable def m__is_part : FSem := runFn 6 b__is_part
noncomputable def x1_places_of : SemE := (eComp (iOf (eVar 0)) (gN 1) tTrue (eTup (aCons (eOp2 gIx (eVar 1) (eK (.int 0))) (aCons (eOp2 gIx (eVar 1) (eK (.int 1))) aNil))) [1])
noncomputable def b_places_of : SemS := (sRet x1_places_of)
noncomputable def m_places_of : FSem := runFn 2 b_places_of
noncomputable def x1__is_kind : SemE := (eComp (iOf (eVar 2)) (gN 3) tTrue (eCall 3 m__is_part (aCons (eVar 0) (aCons (eVar 1) (aCons (eVar 3) aNil)))) [3])
noncomputable def b__is_kind : SemS := (sSeq (sIf (tOr (tNot (tb (eIsi isTuple (eVar 2)))) (tb (eOp2 (gEq not) (eFn gLen (aCons (eVar 2) aNil)) (eOp2 gMul (eVar 0) (eVar 0))))) (sRet (eK (.bool false))) sNil) (sSeq (sIf (tNot (tb (eFn gAll (aCons x1__is_kind aNil)))) (sRet (eK (.bool false))) sNil) (sRet (eOp2 (gEq id) (eLenSet (eCall 1 m_places_of (aCons (eVar 2) aNil))) (eOp2 gMul (eVar 0) (eVar 0))))))
noncomputable def m__is_kind : FSem := runFn 4 b__is_kind
noncomputable def x1_is_book : SemE := (eComp (iOf (eVar 2)) (gN 3) tTrue (eCall 3 m__is_kind (aCons (eVar 1) (aCons (eFn gLen (aCons (eVar 2) aNil)) (aCons (eVar 3) aNil)))) [3])
noncomputable def b_is_book : SemS := (sSeq (sIf (tOr (tNot (tb (eIsi isTuple (eVar 0)))) (tb (eOp2 (gEq not) (eFn gLen (aCons (eVar 0) aNil)) (eK (.int 2))))) (sRet (eK (.bool false))) sNil) (sSeq (sAsg (gT 2 (gsCons (gN 1) (gsCons (gN 2) gsNil))) (eVar 0)) (sSeq (sIf (tOr (tNot (tb (eCall 1 m_is_whole (aCons (eVar 1) aNil)))) (tb (eOp2 (gIn not) (eVar 1) (eTup (aCons (eK (.int 2)) (aCons (eK (.int 3)) aNil)))))) (sRet (eK (.bool false))) sNil) (sSeq (sIf (tOr (tNot (tb (eIsi isTuple (eVar 2)))) (tb (eOp2 (gEq id) (eFn gLen (aCons (eVar 2) aNil)) (eK (.int 0))))) (sRet (eK (.bool false))) sNil) (sRet (eFn gAll (aCons x1_is_book aNil)))))))
noncomputable def m_is_book : FSem := runFn 4 b_is_book
noncomputable def b_check_book : SemS := (sIf (tNot (tb (eCall 1 m_is_book (aCons (eVar 0) aNil)))) sNever sNil)
noncomputable def m_check_book : FSem := runFn 1 b_check_book
noncomputable def b_is_posture : SemS := (sSeq (sIf (tOr (tNot (tb (eIsi isTuple (eVar 0)))) (tb (eOp2 (gEq not) (eFn gLen (aCons (eVar 0) aNil)) (eK (.int 2))))) (sRet (eK (.bool false))) sNil) (sSeq (sAsg (gT 2 (gsCons (gN 1) (gsCons (gN 2) gsNil))) (eVar 0)) (sRet (eAnd (eCall 2 m_is_index (aCons (eVar 1) (aCons (eK (.int 4)) aNil))) (eCall 2 m_is_index (aCons (eVar 2) (aCons (eK (.int 2)) aNil)))))))
noncomputable def m_is_posture : FSem := runFn 3 b_is_posture
noncomputable def b_check_posture : SemS := (sIf (tNot (tb (eCall 1 m_is_posture (aCons (eVar 0) aNil)))) sNever sNil)
noncomputable def m_check_posture : FSem := runFn 1 b_check_posture
noncomputable def y1_in_posture : SemS := (sPar [3, 4] (aCons (eOp2 gSub (eOp2 gSub (eVar 0) (eK (.int 1))) (eVar 4)) (aCons (eVar 3) aNil)))
noncomputable def l1_in_posture : SemS := (sFor (iR1 (aCons (eVar 5) aNil)) (gN 7) y1_in_posture)
noncomputable def b_in_posture : SemS := (sSeq (sAsg (gT 2 (gsCons (gN 3) (gsCons (gN 4) gsNil))) (eVar 2)) (sSeq (sAsg (gT 2 (gsCons (gN 5) (gsCons (gN 6) gsNil))) (eVar 1)) (sSeq l1_in_posture (sSeq (sIf (tb (eOp2 (gEq id) (eVar 6) (eK (.int 1)))) (sRet (eTup (aCons (eVar 4) (aCons (eVar 3) aNil)))) sNil) (sRet (eTup (aCons (eVar 3) (aCons (eVar 4) aNil))))))))
noncomputable def m_in_posture : FSem := runFn 8 b_in_posture
noncomputable def y1__turned_parts : SemS := (sSeq (sAsg (gT 2 (gsCons (gN 7) (gsCons (gN 8) gsNil))) (eCall 3 m_in_posture (aCons (eVar 0) (aCons (eVar 1) (aCons (eTup (aCons (eVar 4) (aCons (eVar 5) aNil))) aNil))))) (sDrop (eMut 3 gAppend (aCons (eTup (aCons (eVar 7) (aCons (eVar 8) (aCons (eVar 6) aNil)))) aNil))))
noncomputable def l1__turned_parts : SemS := (sFor (iOf (eVar 2)) (gT 3 (gsCons (gN 4) (gsCons (gN 5) (gsCons (gN 6) gsNil)))) y1__turned_parts)
noncomputable def b__turned_parts : SemS := (sSeq (sSet 3 (eLst aNil)) (sSeq l1__turned_parts (sRet (eFn gTuple (aCons (eVar 3) aNil)))))
noncomputable def m__turned_parts : FSem := runFn 9 b__turned_parts
noncomputable def x1_turned : SemE := (eComp (iOf (eVar 3)) (gN 4) tTrue (eCall 3 m__turned_parts (aCons (eVar 2) (aCons (eVar 1) (aCons (eVar 4) aNil)))) [4])
noncomputable def b_turned : SemS := (sSeq (sDrop (eCall 1 m_check_book (aCons (eVar 0) aNil))) (sSeq (sDrop (eCall 1 m_check_posture (aCons (eVar 1) aNil))) (sSeq (sAsg (gT 2 (gsCons (gN 2) (gsCons (gN 3) gsNil))) (eVar 0)) (sRet (eTup (aCons (eVar 2) (aCons (eFn gTuple (aCons x1_turned aNil)) aNil)))))))
noncomputable def m_turned : FSem := runFn 5 b_turned
noncomputable def x1_backward : SemE := (eComp (iOf (eVar 2)) (gN 3) tTrue (eRev (eVar 3)) [3])
noncomputable def b_backward : SemS := (sSeq (sDrop (eCall 1 m_check_book (aCons (eVar 0) aNil))) (sSeq (sAsg (gT 2 (gsCons (gN 1) (gsCons (gN 2) gsNil))) (eVar 0)) (sRet (eTup (aCons (eVar 1) (aCons (eFn gTuple (aCons x1_backward aNil)) aNil))))))
noncomputable def m_backward : FSem := runFn 4 b_backward
noncomputable def b_check_depth : SemS := (sIf (tNot (tb (eCall 1 m_is_count (aCons (eVar 0) aNil)))) sNever sNil)
noncomputable def m_check_depth : FSem := runFn 1 b_check_depth
noncomputable def b_how_many_cells : SemS := (sRet (eCall 2 m_power (aCons (eOp2 gMul (eOp2 gIx (eVar 0) (eK (.int 0))) (eOp2 gIx (eVar 0) (eK (.int 0)))) (aCons (eVar 1) aNil))))
noncomputable def m_how_many_cells : FSem := runFn 2 b_how_many_cells
noncomputable def y1_cell_in_kind : SemS := (sSeq (sAsg (gT 3 (gsCons (gN 9) (gsCons (gN 10) (gsCons (gN 1) gsNil)))) (eOp2 gIx (eOp2 gIx (eVar 5) (eVar 1)) (eVar 8))) (sSeq (sSet 6 (eOp2 gAdd (eOp2 gMul (eVar 6) (eVar 4)) (eVar 9))) (sSet 7 (eOp2 gAdd (eOp2 gMul (eVar 7) (eVar 4)) (eVar 10)))))
noncomputable def l1_cell_in_kind : SemS := (sFor (iOf (eCall 3 m_digits_of (aCons (eVar 3) (aCons (eOp2 gMul (eVar 4) (eVar 4)) (aCons (eVar 2) aNil))))) (gN 8) y1_cell_in_kind)
noncomputable def b_cell_in_kind : SemS := (sSeq (sAsg (gT 2 (gsCons (gN 4) (gsCons (gN 5) gsNil))) (eVar 0)) (sSeq (sSet 6 (eK (.int 0))) (sSeq (sSet 7 (eK (.int 0))) (sSeq l1_cell_in_kind (sRet (eTup (aCons (eVar 6) (aCons (eVar 7) aNil))))))))
noncomputable def m_cell_in_kind : FSem := runFn 11 b_cell_in_kind
noncomputable def x1_whole : SemE := (eComp (iR1 (aCons (eCall 2 m_how_many_cells (aCons (eVar 0) (aCons (eVar 1) aNil))) aNil)) (gN 2) tTrue (eCall 4 m_cell_in_kind (aCons (eVar 0) (aCons (eK (.int 0)) (aCons (eVar 1) (aCons (eVar 2) aNil))))) [2])
noncomputable def b_whole : SemS := (sSeq (sDrop (eCall 1 m_check_book (aCons (eVar 0) aNil))) (sSeq (sDrop (eCall 1 m_check_depth (aCons (eVar 1) aNil))) (sRet x1_whole)))
noncomputable def m_whole : FSem := runFn 3 b_whole
noncomputable def b__law_deck : SemS := (sSeq (sSet 2 (eK (.int 0))) (sSeq (sIf (tb (eOp2 gLt (eVar 1) (eFn gLen (aCons (eVar 0) aNil)))) (sSet 2 (eOp2 gIx (eVar 0) (eVar 1))) sNil) (sSeq (sSet 3 (eOp2 gMod (eFn gInt (aCons (eOp2 gAdd (eOp2 gAdd (eVar 2) (eOp2 gMul (eK (.int 7919)) (eVar 1))) (eK (.int 104729))) aNil)) (eK (.int 2305843009213693951)))) (sSeq (sSet 3 (eOp2 gMod (eFn gInt (aCons (eOp2 gAdd (eOp2 gAdd (eOp2 gMul (eOp2 gMul (eVar 3) (eVar 3)) (eVar 3)) (eOp2 gMul (eK (.int 31)) (eVar 1))) (eK (.int 7))) aNil)) (eK (.int 2305843009213693951)))) (sSeq (sIf (tb (eOp2 gLt (eVar 2) (eOp2 gPow (eK (.int 10)) (eK (.int 18))))) (sRet (eLst (aCons (eK (.int 0)) (aCons (eVar 3) aNil)))) sNil) (sRet (eLst (aCons (eOp2 gSub (eVar 2) (eOp2 gPow (eK (.int 10)) (eK (.int 18)))) (aCons (eVar 3) aNil)))))))))
noncomputable def m__law_deck : FSem := runFn 4 b__law_deck
noncomputable def b__law_take : SemS := (sSeq (sIf (tb (eOp2 gGt (eOp2 gIx (eVar 0) (eK (.int 0))) (eK (.int 0)))) (sSeq (sSet 2 (eOp2 gMod (eFn gInt (aCons (eOp2 gIx (eVar 0) (eK (.int 0))) aNil)) (eVar 1))) (sSeq (sSetIx 0 (eK (.int 0)) (eOp2 gDiv (eOp2 gIx (eVar 0) (eK (.int 0))) (eVar 1))) (sRet (eVar 2)))) sNil) (sSeq (sSetIx 0 (eK (.int 1)) (eOp2 gMod (eFn gInt (aCons (eOp2 gAdd (eOp2 gMul (eOp2 gIx (eVar 0) (eK (.int 1))) (eK (.int 6364136223846793005))) (eK (.int 1442695040888963407))) aNil)) (eOp2 gPow (eK (.int 2)) (eK (.int 64))))) (sRet (eOp2 gMod (eOp2 gDiv (eOp2 gIx (eVar 0) (eK (.int 1))) (eOp2 gPow (eK (.int 2)) (eK (.int 33)))) (eVar 1)))))
noncomputable def m__law_take : FSem := runFn 3 b__law_take
noncomputable def x1__law_same (rec_ : FSem) : SemE := (eComp (iR1 (aCons (eFn gLen (aCons (eVar 1) aNil)) aNil)) (gN 2) (tNot (tb (eCall 2 rec_ (aCons (eOp2 gIx (eVar 0) (eVar 2)) (aCons (eOp2 gIx (eVar 1) (eVar 2)) aNil))))) (eVar 2) [2])
noncomputable def m__law_same : Nat → FSem
  | 0 => fun _ => .bad
  | fuel + 1 => runFn 3 (sSeq (sIf (tb (eIsi isTL (eVar 1))) (sSeq (sIf (tOr (tb (eOp2 (gEq not) (eIsi isTuple (eVar 0)) (eIsi isTuple (eVar 1)))) (tb (eOp2 (gEq not) (eIsi isList (eVar 0)) (eIsi isList (eVar 1))))) (sRet (eK (.bool false))) sNil) (sSeq (sIf (tb (eOp2 (gEq not) (eFn gLen (aCons (eVar 0) aNil)) (eFn gLen (aCons (eVar 1) aNil)))) (sRet (eK (.bool false))) sNil) (sRet (eOp2 (gEq id) (x1__law_same (m__law_same fuel)) (eLst aNil))))) sNil) (sSeq (sIf (tb (eOp2 (gIsN id) (eVar 1) (eK .none))) (sRet (eOp2 (gIsN id) (eVar 0) (eK .none))) sNil) (sSeq (sIf (tb (eIsi isStr (eVar 1))) (sRet (eAnd (eIsi isStr (eVar 0)) (eOp2 (gEq id) (eVar 0) (eVar 1)))) sNil) (sSeq (sIf (tOr (tb (eIsi isBool (eVar 1))) (tb (eIsi isBool (eVar 0)))) (sRet (eAnd (eIsi isBool (eVar 1)) (eAnd (eIsi isBool (eVar 0)) (eOp2 (gEq id) (eVar 0) (eVar 1))))) sNil) (sRet (eAnd (eIsi isInt (eVar 0)) (eOp2 (gEq id) (eVar 0) (eVar 1))))))))
noncomputable def y1__law_posed : SemS := (sPar [3, 4] (aCons (eOp2 gSub (eOp2 gSub (eVar 0) (eK (.int 1))) (eVar 4)) (aCons (eVar 3) aNil)))
noncomputable def l1__law_posed : SemS := (sFor (iR1 (aCons (eOp2 gIx (eVar 2) (eK (.int 0))) aNil)) (gN 5) y1__law_posed)
noncomputable def b__law_posed : SemS := (sSeq (sAsg (gT 2 (gsCons (gN 3) (gsCons (gN 4) gsNil))) (eVar 1)) (sSeq l1__law_posed (sRet (eIf (tb (eOp2 (gEq id) (eOp2 gIx (eVar 2) (eK (.int 1))) (eK (.int 1)))) (eTup (aCons (eVar 4) (aCons (eVar 3) aNil))) (eTup (aCons (eVar 3) (aCons (eVar 4) aNil)))))))
noncomputable def m__law_posed : FSem := runFn 6 b__law_posed
noncomputable def x1__law_places : SemE := (eComp (iR1 (aCons (eVar 1) aNil)) (gN 5) tTrue (eTup (aCons (eVar 3) (aCons (eVar 5) aNil))) [5])
noncomputable def y1__law_places : SemS := (sSeq (sSet 4 x1__law_places) (sSet 2 (eOp2 gAdd (eVar 2) (eIf (tb (eOp2 (gEq id) (eOp2 gMod (eFn gInt (aCons (eVar 3) aNil)) (eK (.int 2))) (eK (.int 0)))) (eVar 4) (eRev (eVar 4))))))
noncomputable def l1__law_places : SemS := (sFor (iR1 (aCons (eVar 1) aNil)) (gN 3) y1__law_places)
noncomputable def y2__law_places : SemS := (sDrop (eMut 2 gInsert (aCons (eCall 2 m__law_take (aCons (eVar 0) (aCons (eOp2 gAdd (eFn gLen (aCons (eVar 2) aNil)) (eK (.int 1))) aNil))) (aCons (eTup (aCons (eVar 3) (aCons (eVar 5) aNil))) aNil))))
noncomputable def l2__law_places : SemS := (sFor (iR1 (aCons (eVar 1) aNil)) (gN 5) y2__law_places)
noncomputable def y3__law_places : SemS := l2__law_places
noncomputable def l3__law_places : SemS := (sFor (iR1 (aCons (eVar 1) aNil)) (gN 3) y3__law_places)
noncomputable def b__law_places : SemS := (sSeq (sSet 2 (eLst aNil)) (sSeq (sIf (tb (eOp2 (gEq id) (eCall 2 m__law_take (aCons (eVar 0) (aCons (eK (.int 3)) aNil))) (eK (.int 0)))) (sSeq l1__law_places (sRet (eVar 2))) sNil) (sSeq l3__law_places (sRet (eVar 2)))))
noncomputable def m__law_places : FSem := runFn 6 b__law_places
noncomputable def y1__law_all_poses : SemS := (sSet 0 (eOp2 gAdd (eVar 0) (eLst (aCons (eTup (aCons (eVar 1) (aCons (eK (.int 0)) aNil))) (aCons (eTup (aCons (eVar 1) (aCons (eK (.int 1)) aNil))) aNil)))))
noncomputable def l1__law_all_poses : SemS := (sFor (iR1 (aCons (eK (.int 4)) aNil)) (gN 1) y1__law_all_poses)
noncomputable def b__law_all_poses : SemS := (sSeq (sSet 0 (eLst aNil)) (sSeq l1__law_all_poses (sRet (eVar 0))))
noncomputable def m__law_all_poses : FSem := runFn 2 b__law_all_poses
noncomputable def x1__law_behind : SemE := (eComp (iOf (eLst (aCons (eTup (aCons (eK (.int 0)) (aCons (eK (.int 0)) aNil))) (aCons (eTup (aCons (eK (.int 1)) (aCons (eK (.int 0)) aNil))) (aCons (eTup (aCons (eK (.int 0)) (aCons (eK (.int 1)) aNil))) aNil))))) (gN 4) tTrue (eCall 3 m__law_posed (aCons (eK (.int 2)) (aCons (eCall 3 m__law_posed (aCons (eK (.int 2)) (aCons (eVar 4) (aCons (eVar 1) aNil)))) (aCons (eVar 0) aNil)))) [4])
noncomputable def x2__law_behind : SemE := (eComp (iOf (eLst (aCons (eTup (aCons (eK (.int 0)) (aCons (eK (.int 0)) aNil))) (aCons (eTup (aCons (eK (.int 1)) (aCons (eK (.int 0)) aNil))) (aCons (eTup (aCons (eK (.int 0)) (aCons (eK (.int 1)) aNil))) aNil))))) (gN 4) tTrue (eCall 3 m__law_posed (aCons (eK (.int 2)) (aCons (eVar 4) (aCons (eVar 3) aNil)))) [4])
noncomputable def y1__law_behind : SemS := (sIf (tb (eOp2 (gEq id) x2__law_behind (eVar 2))) (sRet (eVar 3)) sNil)
noncomputable def l1__law_behind : SemS := (sFor (iOf (eCall 0 m__law_all_poses aNil)) (gN 3) y1__law_behind)
noncomputable def b__law_behind : SemS := (sSeq (sSet 2 x1__law_behind) (sSeq l1__law_behind (sRet (eTup (aCons (eK (.int 0)) (aCons (eK (.int 0)) aNil))))))
noncomputable def m__law_behind : FSem := runFn 5 b__law_behind
noncomputable def x1__law_posed_page : SemE := (eComp (iOf (eVar 3)) (gN 8) tTrue (eOp2 gIx (eVar 2) (eCall 2 m__law_take (aCons (eVar 0) (aCons (eK (.int 8)) aNil)))) [8])
noncomputable def y1__law_posed_page : SemS := (sDrop (eMut 7 gAppend (aCons (eOp2 gAdd (eCall 3 m__law_posed (aCons (eVar 1) (aCons (eVar 8) (aCons (eVar 6) aNil)))) (eTup (aCons (eIndex (eVar 2) (aCons (eCall 2 m__law_behind (aCons (eVar 6) (aCons (eVar 9) aNil))) aNil)) aNil))) aNil)))
noncomputable def l1__law_posed_page : SemS := (sFor (iZip (aCons (eVar 3) (aCons (eVar 4) aNil))) (gT 2 (gsCons (gN 8) (gsCons (gN 9) gsNil))) y1__law_posed_page)
noncomputable def y2__law_posed_page : SemS := (sSeq (sSet 7 (eLst aNil)) (sSeq l1__law_posed_page (sDrop (eMut 5 gAppend (aCons (eFn gTuple (aCons (eVar 7) aNil)) aNil)))))
noncomputable def l2__law_posed_page : SemS := (sFor (iOf (eVar 2)) (gN 6) y2__law_posed_page)
noncomputable def b__law_posed_page : SemS := (sSeq (sPar [2, 3] (aCons (eCall 0 m__law_all_poses aNil) (aCons (eCall 2 m__law_places (aCons (eVar 0) (aCons (eVar 1) aNil))) aNil))) (sSeq (sSet 4 x1__law_posed_page) (sSeq (sSet 5 (eLst aNil)) (sSeq l2__law_posed_page (sRet (eTup (aCons (eVar 1) (aCons (eFn gTuple (aCons (eVar 5) aNil)) aNil))))))))
noncomputable def m__law_posed_page : FSem := runFn 10 b__law_posed_page
noncomputable def x1__law_page : SemE := (eComp (iR1 (aCons (eOp2 gIx (eLst (aCons (eVar 3) (aCons (eK (.int 2)) (aCons (eK (.int 1)) (aCons (eVar 3) aNil))))) (eOp2 gSub (eVar 2) (eK (.int 1)))) aNil)) (gN 8) tTrue (eCall 2 m__law_places (aCons (eVar 0) (aCons (eVar 1) aNil))) [8])
noncomputable def x2__law_page : SemE := (eComp (iOf (eVar 7)) (gT 2 (gsCons (gN 9) (gsCons (gN 10) gsNil))) tTrue (eTup (aCons (eVar 9) (aCons (eVar 10) (aCons (eCall 2 m__law_take (aCons (eVar 0) (aCons (eVar 3) aNil))) aNil)))) [9, 10])
noncomputable def y1__law_page : SemS := (sSeq (sSet 7 (eIf (tb (eOp2 gLt (eVar 2) (eK (.int 4)))) (eOp2 gIx (eVar 4) (eCall 2 m__law_take (aCons (eVar 0) (aCons (eFn gLen (aCons (eVar 4) aNil)) aNil)))) (eOp2 gIx (eVar 4) (eOp2 gDiv (eVar 6) (eK (.int 2)))))) (sDrop (eMut 5 gAppend (aCons (eFn gTuple (aCons x2__law_page aNil)) aNil))))
noncomputable def l1__law_page : SemS := (sFor (iR1 (aCons (eVar 3) aNil)) (gN 6) y1__law_page)
noncomputable def b__law_page : SemS := (sSeq (sPar [1, 2, 3] (aCons (eOp2 gAdd (eK (.int 2)) (eFn gInt (aCons (eOp2 (gEq id) (eCall 2 m__law_take (aCons (eVar 0) (aCons (eK (.int 3)) aNil))) (eK (.int 0))) aNil))) (aCons (eCall 2 m__law_take (aCons (eVar 0) (aCons (eK (.int 5)) aNil))) (aCons (eOp2 gAdd (eK (.int 1)) (eCall 2 m__law_take (aCons (eVar 0) (aCons (eK (.int 8)) aNil)))) aNil)))) (sSeq (sIf (tb (eOp2 (gEq id) (eVar 2) (eK (.int 0)))) (sRet (eCall 2 m__law_posed_page (aCons (eVar 0) (aCons (eVar 1) aNil)))) sNil) (sSeq (sPar [4, 5] (aCons x1__law_page (aCons (eLst aNil) aNil))) (sSeq l1__law_page (sRet (eTup (aCons (eVar 1) (aCons (eFn gTuple (aCons (eVar 5) aNil)) aNil))))))))
noncomputable def m__law_page : FSem := runFn 11 b__law_page
noncomputable def x1__law_threads : SemE := (eComp (iOf (eVar 3)) (gN 8) tTrue (eLst (aCons (eTup (aCons (eK (.int 0)) (aCons (eK (.int 0)) aNil))) aNil)) [8])
noncomputable def x2__law_threads : SemE := (eComp (iOf (eOp2 gIx (eVar 5) (eVar 12))) (gT 2 (gsCons (gN 13) (gsCons (gN 14) gsNil))) tTrue (eTup (aCons (eOp2 gAdd (eOp2 gMul (eVar 10) (eVar 4)) (eVar 13)) (aCons (eOp2 gAdd (eOp2 gMul (eVar 11) (eVar 4)) (eVar 14)) aNil))) [13, 14])
noncomputable def y1__law_threads : SemS := (sSet 9 (eOp2 gAdd (eVar 9) x2__law_threads))
noncomputable def l1__law_threads : SemS := (sFor (iOf (eVar 8)) (gT 3 (gsCons (gN 10) (gsCons (gN 11) (gsCons (gN 12) gsNil)))) y1__law_threads)
noncomputable def y2__law_threads : SemS := (sSeq (sSet 9 (eLst aNil)) (sSeq l1__law_threads (sDrop (eMut 7 gAppend (aCons (eVar 9) aNil)))))
noncomputable def l2__law_threads : SemS := (sFor (iOf (eVar 3)) (gN 8) y2__law_threads)
noncomputable def y3__law_threads : SemS := (sSeq (sSet 7 (eLst aNil)) (sSeq l2__law_threads (sPar [4, 5] (aCons (eOp2 gMul (eVar 4) (eVar 2)) (aCons (eVar 7) aNil)))))
noncomputable def l3__law_threads : SemS := (sFor (iR1 (aCons (eVar 1) aNil)) (gN 6) y3__law_threads)
noncomputable def b__law_threads : SemS := (sSeq (sAsg (gT 2 (gsCons (gN 2) (gsCons (gN 3) gsNil))) (eVar 0)) (sSeq (sPar [4, 5] (aCons (eK (.int 1)) (aCons x1__law_threads aNil))) (sSeq l3__law_threads (sRet (eVar 5)))))
noncomputable def m__law_threads : FSem := runFn 15 b__law_threads
noncomputable def x1__law_turned : SemE := (eComp (iOf (eVar 5)) (gT 3 (gsCons (gN 6) (gsCons (gN 7) (gsCons (gN 8) gsNil)))) tTrue (eOp2 gAdd (eCall 3 m__law_posed (aCons (eVar 2) (aCons (eTup (aCons (eVar 6) (aCons (eVar 7) aNil))) (aCons (eVar 1) aNil)))) (eTup (aCons (eVar 8) aNil))) [6, 7, 8])
noncomputable def y1__law_turned : SemS := (sDrop (eMut 4 gAppend (aCons (eFn gTuple (aCons x1__law_turned aNil)) aNil)))
noncomputable def l1__law_turned : SemS := (sFor (iOf (eVar 3)) (gN 5) y1__law_turned)
noncomputable def b__law_turned : SemS := (sSeq (sAsg (gT 2 (gsCons (gN 2) (gsCons (gN 3) gsNil))) (eVar 0)) (sSeq (sSet 4 (eLst aNil)) (sSeq l1__law_turned (sRet (eTup (aCons (eVar 2) (aCons (eFn gTuple (aCons (eVar 4) aNil)) aNil)))))))
noncomputable def m__law_turned : FSem := runFn 9 b__law_turned
noncomputable def x1__law_backward : SemE := (eComp (iR1 (aCons (eFn gLen (aCons (eVar 1) aNil)) aNil)) (gN 2) tTrue (eOp2 gIx (eVar 1) (eOp2 gSub (eOp2 gSub (eFn gLen (aCons (eVar 1) aNil)) (eK (.int 1))) (eVar 2))) [2])
noncomputable def x2__law_backward : SemE := (eComp (iOf (eOp2 gIx (eVar 0) (eK (.int 1)))) (gN 1) tTrue (eFn gTuple (aCons x1__law_backward aNil)) [1])
noncomputable def b__law_backward : SemS := (sRet (eTup (aCons (eOp2 gIx (eVar 0) (eK (.int 0))) (aCons (eFn gTuple (aCons x2__law_backward aNil)) aNil))))
noncomputable def m__law_backward : FSem := runFn 3 b__law_backward
noncomputable def y1__law_wide : SemS := (sSet 2 (eOp2 gMul (eVar 2) (eOp2 gIx (eVar 0) (eK (.int 0)))))
noncomputable def l1__law_wide : SemS := (sFor (iR1 (aCons (eVar 1) aNil)) (gN 3) y1__law_wide)
noncomputable def b__law_wide : SemS := (sSeq (sSet 2 (eK (.int 1))) (sSeq l1__law_wide (sRet (eVar 2))))
noncomputable def m__law_wide : FSem := runFn 4 b__law_wide
noncomputable def x1__law_pose_right : SemE := (eComp (iOf (eVar 8)) (gN 9) tTrue (eCall 3 m__law_posed (aCons (eVar 5) (aCons (eVar 9) (aCons (eVar 1) aNil)))) [9])
noncomputable def x2__law_pose_right : SemE := (eComp (iOf (eVar 3)) (gN 8) tTrue x1__law_pose_right [8])
noncomputable def b__law_pose_right : SemS := (sSeq (sPar [4, 5] (aCons (eCall 2 m__law_turned (aCons (eVar 0) (aCons (eVar 1) aNil))) (aCons (eCall 2 m__law_wide (aCons (eVar 0) (aCons (eVar 2) aNil))) aNil))) (sSeq (sIf (tNot (tb (eCall 2 (m__law_same 8) (aCons (eLst (aCons (eCall 2 m_turned (aCons (eVar 0) (aCons (eVar 1) aNil))) (aCons (eCallK 2 [1, 0] m_turned (aCons (eVar 1) (aCons (eVar 0) aNil))) (aCons (eCall 1 m_is_book (aCons (eVar 4) aNil)) aNil)))) (aCons (eLst (aCons (eVar 4) (aCons (eVar 4) (aCons (eK (.bool true)) aNil)))) aNil))))) (sRet (eK (.bool false))) sNil) (sSeq (sSet 6 x2__law_pose_right) (sSeq (sIf (tOr (tb (eOp2 (gEq not) (eCall 2 m__law_threads (aCons (eVar 4) (aCons (eVar 2) aNil))) (eVar 6))) (tNot (tb (eCall 2 (m__law_same 8) (aCons (eCall 2 m_whole (aCons (eVar 4) (aCons (eVar 2) aNil))) (aCons (eOp2 gIx (eVar 6) (eK (.int 0))) aNil)))))) (sRet (eK (.bool false))) sNil) (sSeq (sSet 7 (eCall 1 m__law_backward (aCons (eVar 4) aNil))) (sRet (eCall 2 (m__law_same 8) (aCons (eLst (aCons (eCall 2 m_turned (aCons (eCall 1 m_backward (aCons (eVar 0) aNil)) (aCons (eVar 1) aNil))) (aCons (eCall 1 m_backward (aCons (eCall 2 m_turned (aCons (eVar 0) (aCons (eVar 1) aNil))) aNil)) aNil))) (aCons (eLst (aCons (eVar 7) (aCons (eVar 7) aNil))) aNil)))))))))
noncomputable def m__law_pose_right : FSem := runFn 10 b__law_pose_right
noncomputable def y1__law_right : SemS := (sIf (tNot (tb (eCall 4 m__law_pose_right (aCons (eVar 1) (aCons (eVar 4) (aCons (eVar 2) (aCons (eVar 3) aNil))))))) (sRet (eK (.bool false))) sNil)
noncomputable def l1__law_right : SemS := (sFor (iOf (eCall 0 m__law_all_poses aNil)) (gN 4) y1__law_right)
noncomputable def x1__law_right : SemE := (eComp (iOf (eVar 3)) (gN 9) tTrue (eRev (eVar 9)) [9])
noncomputable def b__law_right : SemS := (sSeq (sSet 1 (eCall 1 m__law_page (aCons (eVar 0) aNil))) (sSeq (sSet 2 (eCall 2 m__law_take (aCons (eVar 0) (aCons (eIf (tb (eOp2 (gEq id) (eOp2 gIx (eVar 1) (eK (.int 0))) (eK (.int 2)))) (eK (.int 4)) (eK (.int 3))) aNil)))) (sSeq (sSet 3 (eCall 2 m__law_threads (aCons (eVar 1) (aCons (eVar 2) aNil)))) (sSeq l1__law_right (sSeq (sSet 5 (eCall 1 m__law_backward (aCons (eVar 1) aNil))) (sSeq (sSet 6 (eLst (aCons (eCall 1 m_backward (aCons (eVar 1) aNil)) (aCons (eCallK 1 [0] m_backward (aCons (eVar 1) aNil)) (aCons (eCall 1 m_is_book (aCons (eVar 5) aNil)) (aCons (eCall 1 m_backward (aCons (eVar 5) aNil)) (aCons (eCall 2 m_turned (aCons (eVar 1) (aCons (eTup (aCons (eK (.int 0)) (aCons (eK (.int 0)) aNil))) aNil))) aNil))))))) (sSeq (sIf (tNot (tb (eCall 2 (m__law_same 8) (aCons (eVar 6) (aCons (eLst (aCons (eVar 5) (aCons (eVar 5) (aCons (eK (.bool true)) (aCons (eVar 1) (aCons (eVar 1) aNil)))))) aNil))))) (sRet (eK (.bool false))) sNil) (sSeq (sIf (tOr (tb (eOp2 (gEq not) (eCall 2 m__law_threads (aCons (eVar 5) (aCons (eVar 2) aNil))) x1__law_right)) (tNot (tb (eCall 2 (m__law_same 8) (aCons (eCall 2 m_whole (aCons (eVar 5) (aCons (eVar 2) aNil))) (aCons (eRev (eOp2 gIx (eVar 3) (eK (.int 0)))) aNil)))))) (sRet (eK (.bool false))) sNil) (sSeq (sPar [4, 7] (aCons (eTup (aCons (eCall 2 m__law_take (aCons (eVar 0) (aCons (eK (.int 4)) aNil))) (aCons (eCall 2 m__law_take (aCons (eVar 0) (aCons (eK (.int 2)) aNil))) aNil))) (aCons (eTup (aCons (eCall 2 m__law_take (aCons (eVar 0) (aCons (eK (.int 4)) aNil))) (aCons (eCall 2 m__law_take (aCons (eVar 0) (aCons (eK (.int 2)) aNil))) aNil))) aNil))) (sSeq (sIf (tNot (tb (eCall 2 (m__law_same 8) (aCons (eCall 2 m_turned (aCons (eCall 2 m_turned (aCons (eVar 1) (aCons (eVar 7) aNil))) (aCons (eVar 4) aNil))) (aCons (eCall 2 m_turned (aCons (eVar 1) (aCons (eCall 2 m__law_behind (aCons (eVar 4) (aCons (eVar 7) aNil))) aNil))) aNil))))) (sRet (eK (.bool false))) sNil) (sSeq (sSet 8 (eCall 2 m_turned (aCons (eCall 2 m_turned (aCons (eCall 2 m_turned (aCons (eCall 2 m_turned (aCons (eVar 1) (aCons (eTup (aCons (eK (.int 1)) (aCons (eK (.int 0)) aNil))) aNil))) (aCons (eTup (aCons (eK (.int 1)) (aCons (eK (.int 0)) aNil))) aNil))) (aCons (eTup (aCons (eK (.int 1)) (aCons (eK (.int 0)) aNil))) aNil))) (aCons (eTup (aCons (eK (.int 1)) (aCons (eK (.int 0)) aNil))) aNil)))) (sRet (eCall 2 (m__law_same 8) (aCons (eLst (aCons (eVar 8) (aCons (eCall 2 m_turned (aCons (eCall 2 m_turned (aCons (eVar 1) (aCons (eTup (aCons (eK (.int 0)) (aCons (eK (.int 1)) aNil))) aNil))) (aCons (eTup (aCons (eK (.int 0)) (aCons (eK (.int 1)) aNil))) aNil))) aNil))) (aCons (eLst (aCons (eVar 1) (aCons (eVar 1) aNil))) aNil)))))))))))))))
noncomputable def m__law_right : FSem := runFn 10 b__law_right
noncomputable def y1_law : SemS := (sIf (tNot (tb (eCall 1 m__law_right (aCons (eCall 2 m__law_deck (aCons (eVar 0) (aCons (eVar 1) aNil))) aNil)))) (sRet (eK (.bool false))) sNil)
noncomputable def l1_law : SemS := (sFor (iR1 (aCons (eFn gMax2 (aCons (eK (.int 2)) (aCons (eFn gMin2 (aCons (eFn gLen (aCons (eVar 0) aNil)) (aCons (eK (.int 10)) aNil))) aNil))) aNil)) (gN 1) y1_law)
noncomputable def b_law : SemS := (sSeq l1_law (sRet (eK (.bool true))))
noncomputable def m_law : FSem := runFn 2 b_law
end Lw

set_option linter.all false
set_option maxRecDepth 100000
namespace Lw
open PySem PySem.Spec Ev Pu
def isW : T → Bool
  | .int _ => true
  | _ => false
def isC : T → Bool
  | .int i => decide (0 ≤ i)
  | _ => false
def isI (n : Int) : T → Bool
  | .int i => decide (0 ≤ i ∧ i < n)
  | _ => false
theorem is_whole_ok (t : T) : m_is_whole [.v t] = .ok (.r (.bool (isW t))) [.v t] := by
  cases t <;> rfl
theorem is_count_ok (t : T) : m_is_count [.v t] = .ok (.r (.bool (isC t))) [.v t] := by
  cases t with
  | int i => simp only [m_is_count, b_is_count, is_whole_ok, eMut, gAppend, gInsert, eRev, eIndex, eLenSet, gInt, gLen, gTuple, gList, gAbs, gMax2, gMin2, gDivmod, gEq_int, runFn, sSeq, sIf, sSet, sSetIx, sRet, sRetN, sNil, sDrop, sAsg, sFor, sPar, sNever, setO, retO, setOs, presc, eVar, eK, eTwo, v2, eFn, eDisp, eTup, eLst, eCall, eCallR, eCallK, pick, toSl, toSls, sIdx, wb, bk, esc, escs, vals, aNil, aCons, tb, Ev.tNot, Ev.tAnd, Ev.tOr, gGt, gLt, gGe, gLe, gSub, gMod, gDiv, gPow, gAdd, gMul, gInt, mulOk, g1, g2, fInt, fLen, fTuple, fList, fAbs, eAnd, eOr, eNot, eIf, eNeg, eIsi, gII, gIx, gIsN, gN, gT, gsNil, gsCons, isLent_eq, lentO, lentS_v, lentS_un, lentS_f, lentS_t, lentS_z, finE, okArg, Out.bind, Od.val, slVal, Bx.tr, Bx.t, isN, L2.ixN, L2.atI, isInt, isBool, isTuple, isList, isStr, isDict, isTL, Nat.zero_le, id_eq, eq_self, Pu.c0, Pu.c1, Pu.c2, Pu.c3, Pu.c4, Pu.c5, Pu.c6, Pu.c7, Pu.c8, Pu.c9, Pu.s1, Pu.s2, Pu.s3, Pu.s4, Pu.s5, Pu.s6, Pu.s7, Pu.s8, Pu.s9, Int.reduceEq, Nat.reduceMul, Int.ofNat_eq_natCast, wipeE, restE, exists_eq_left', Option.some.injEq, Out.ok.injEq, Prod.mk.injEq, Option.bind_some, Option.bind_none, Option.bind_eq_bind, List.getElem?_cons_zero, List.getElem?_cons_succ, List.getElem?_nil, List.set_cons_zero, List.set_cons_succ, List.set_nil, List.length_cons, List.length_nil, List.replicate_succ, List.replicate_zero, List.cons_append, List.nil_append, List.append_nil, List.all_cons, List.all_nil, Bool.and_true, Bool.true_and, Bool.and_false, Bool.false_and, if_true, if_false, ite_true, ite_false, List.nodup_cons, List.nodup_nil, List.not_mem_nil, List.mem_cons, not_false_eq_true, and_true, true_and, reduceIte, Nat.reduceAdd, Nat.reduceSub, Nat.reduceEqDiff, Nat.reduceLT, Nat.reduceLeDiff, Option.map_some, Option.map_none, Option.getD_some, reduceCtorEq, or_self, or_false, false_or, not_true_eq_false, decide_true, decide_false, Bool.not_true, Bool.not_false, Bool.false_eq_true, Nat.zero_add, Nat.add_zero, forall_const, Int.reduceLT, Int.reduceLE, Int.reduceNeg, Int.reduceToNat, Int.toNat_natCast, and_self, isW, isC]
  | _ => simp only [m_is_count, b_is_count, is_whole_ok, eMut, gAppend, gInsert, eRev, eIndex, eLenSet, gInt, gLen, gTuple, gList, gAbs, gMax2, gMin2, gDivmod, gEq_int, runFn, sSeq, sIf, sSet, sSetIx, sRet, sRetN, sNil, sDrop, sAsg, sFor, sPar, sNever, setO, retO, setOs, presc, eVar, eK, eTwo, v2, eFn, eDisp, eTup, eLst, eCall, eCallR, eCallK, pick, toSl, toSls, sIdx, wb, bk, esc, escs, vals, aNil, aCons, tb, Ev.tNot, Ev.tAnd, Ev.tOr, gGt, gLt, gGe, gLe, gSub, gMod, gDiv, gPow, gAdd, gMul, gInt, mulOk, g1, g2, fInt, fLen, fTuple, fList, fAbs, eAnd, eOr, eNot, eIf, eNeg, eIsi, gII, gIx, gIsN, gN, gT, gsNil, gsCons, isLent_eq, lentO, lentS_v, lentS_un, lentS_f, lentS_t, lentS_z, finE, okArg, Out.bind, Od.val, slVal, Bx.tr, Bx.t, isN, L2.ixN, L2.atI, isInt, isBool, isTuple, isList, isStr, isDict, isTL, Nat.zero_le, id_eq, eq_self, Pu.c0, Pu.c1, Pu.c2, Pu.c3, Pu.c4, Pu.c5, Pu.c6, Pu.c7, Pu.c8, Pu.c9, Pu.s1, Pu.s2, Pu.s3, Pu.s4, Pu.s5, Pu.s6, Pu.s7, Pu.s8, Pu.s9, Int.reduceEq, Nat.reduceMul, Int.ofNat_eq_natCast, wipeE, restE, exists_eq_left', Option.some.injEq, Out.ok.injEq, Prod.mk.injEq, Option.bind_some, Option.bind_none, Option.bind_eq_bind, List.getElem?_cons_zero, List.getElem?_cons_succ, List.getElem?_nil, List.set_cons_zero, List.set_cons_succ, List.set_nil, List.length_cons, List.length_nil, List.replicate_succ, List.replicate_zero, List.cons_append, List.nil_append, List.append_nil, List.all_cons, List.all_nil, Bool.and_true, Bool.true_and, Bool.and_false, Bool.false_and, if_true, if_false, ite_true, ite_false, List.nodup_cons, List.nodup_nil, List.not_mem_nil, List.mem_cons, not_false_eq_true, and_true, true_and, reduceIte, Nat.reduceAdd, Nat.reduceSub, Nat.reduceEqDiff, Nat.reduceLT, Nat.reduceLeDiff, Option.map_some, Option.map_none, Option.getD_some, reduceCtorEq, or_self, or_false, false_or, not_true_eq_false, decide_true, decide_false, Bool.not_true, Bool.not_false, Bool.false_eq_true, Nat.zero_add, Nat.add_zero, forall_const, Int.reduceLT, Int.reduceLE, Int.reduceNeg, Int.reduceToNat, Int.toNat_natCast, and_self, isW, isC]
theorem is_index_ok (t : T) (n : Int) : m_is_index [.v t, .v (.int n)] = .ok (.r (.bool (isI n t))) [.v t, .v (.int n)] := by
  cases t with
  | int i => 
    by_cases h : 0 ≤ i
    · simp only [m_is_index, b_is_index, is_count_ok, eMut, gAppend, gInsert, eRev, eIndex, eLenSet, gInt, gLen, gTuple, gList, gAbs, gMax2, gMin2, gDivmod, gEq_int, runFn, sSeq, sIf, sSet, sSetIx, sRet, sRetN, sNil, sDrop, sAsg, sFor, sPar, sNever, setO, retO, setOs, presc, eVar, eK, eTwo, v2, eFn, eDisp, eTup, eLst, eCall, eCallR, eCallK, pick, toSl, toSls, sIdx, wb, bk, esc, escs, vals, aNil, aCons, tb, Ev.tNot, Ev.tAnd, Ev.tOr, gGt, gLt, gGe, gLe, gSub, gMod, gDiv, gPow, gAdd, gMul, gInt, mulOk, g1, g2, fInt, fLen, fTuple, fList, fAbs, eAnd, eOr, eNot, eIf, eNeg, eIsi, gII, gIx, gIsN, gN, gT, gsNil, gsCons, isLent_eq, lentO, lentS_v, lentS_un, lentS_f, lentS_t, lentS_z, finE, okArg, Out.bind, Od.val, slVal, Bx.tr, Bx.t, isN, L2.ixN, L2.atI, isInt, isBool, isTuple, isList, isStr, isDict, isTL, Nat.zero_le, id_eq, eq_self, Pu.c0, Pu.c1, Pu.c2, Pu.c3, Pu.c4, Pu.c5, Pu.c6, Pu.c7, Pu.c8, Pu.c9, Pu.s1, Pu.s2, Pu.s3, Pu.s4, Pu.s5, Pu.s6, Pu.s7, Pu.s8, Pu.s9, Int.reduceEq, Nat.reduceMul, Int.ofNat_eq_natCast, wipeE, restE, exists_eq_left', Option.some.injEq, Out.ok.injEq, Prod.mk.injEq, Option.bind_some, Option.bind_none, Option.bind_eq_bind, List.getElem?_cons_zero, List.getElem?_cons_succ, List.getElem?_nil, List.set_cons_zero, List.set_cons_succ, List.set_nil, List.length_cons, List.length_nil, List.replicate_succ, List.replicate_zero, List.cons_append, List.nil_append, List.append_nil, List.all_cons, List.all_nil, Bool.and_true, Bool.true_and, Bool.and_false, Bool.false_and, if_true, if_false, ite_true, ite_false, List.nodup_cons, List.nodup_nil, List.not_mem_nil, List.mem_cons, not_false_eq_true, and_true, true_and, reduceIte, Nat.reduceAdd, Nat.reduceSub, Nat.reduceEqDiff, Nat.reduceLT, Nat.reduceLeDiff, Option.map_some, Option.map_none, Option.getD_some, reduceCtorEq, or_self, or_false, false_or, not_true_eq_false, decide_true, decide_false, Bool.not_true, Bool.not_false, Bool.false_eq_true, Nat.zero_add, Nat.add_zero, forall_const, Int.reduceLT, Int.reduceLE, Int.reduceNeg, Int.reduceToNat, Int.toNat_natCast, and_self, isC, isI, h]
    · simp only [m_is_index, b_is_index, is_count_ok, eMut, gAppend, gInsert, eRev, eIndex, eLenSet, gInt, gLen, gTuple, gList, gAbs, gMax2, gMin2, gDivmod, gEq_int, runFn, sSeq, sIf, sSet, sSetIx, sRet, sRetN, sNil, sDrop, sAsg, sFor, sPar, sNever, setO, retO, setOs, presc, eVar, eK, eTwo, v2, eFn, eDisp, eTup, eLst, eCall, eCallR, eCallK, pick, toSl, toSls, sIdx, wb, bk, esc, escs, vals, aNil, aCons, tb, Ev.tNot, Ev.tAnd, Ev.tOr, gGt, gLt, gGe, gLe, gSub, gMod, gDiv, gPow, gAdd, gMul, gInt, mulOk, g1, g2, fInt, fLen, fTuple, fList, fAbs, eAnd, eOr, eNot, eIf, eNeg, eIsi, gII, gIx, gIsN, gN, gT, gsNil, gsCons, isLent_eq, lentO, lentS_v, lentS_un, lentS_f, lentS_t, lentS_z, finE, okArg, Out.bind, Od.val, slVal, Bx.tr, Bx.t, isN, L2.ixN, L2.atI, isInt, isBool, isTuple, isList, isStr, isDict, isTL, Nat.zero_le, id_eq, eq_self, Pu.c0, Pu.c1, Pu.c2, Pu.c3, Pu.c4, Pu.c5, Pu.c6, Pu.c7, Pu.c8, Pu.c9, Pu.s1, Pu.s2, Pu.s3, Pu.s4, Pu.s5, Pu.s6, Pu.s7, Pu.s8, Pu.s9, Int.reduceEq, Nat.reduceMul, Int.ofNat_eq_natCast, wipeE, restE, exists_eq_left', Option.some.injEq, Out.ok.injEq, Prod.mk.injEq, Option.bind_some, Option.bind_none, Option.bind_eq_bind, List.getElem?_cons_zero, List.getElem?_cons_succ, List.getElem?_nil, List.set_cons_zero, List.set_cons_succ, List.set_nil, List.length_cons, List.length_nil, List.replicate_succ, List.replicate_zero, List.cons_append, List.nil_append, List.append_nil, List.all_cons, List.all_nil, Bool.and_true, Bool.true_and, Bool.and_false, Bool.false_and, if_true, if_false, ite_true, ite_false, List.nodup_cons, List.nodup_nil, List.not_mem_nil, List.mem_cons, not_false_eq_true, and_true, true_and, reduceIte, Nat.reduceAdd, Nat.reduceSub, Nat.reduceEqDiff, Nat.reduceLT, Nat.reduceLeDiff, Option.map_some, Option.map_none, Option.getD_some, reduceCtorEq, or_self, or_false, false_or, not_true_eq_false, decide_true, decide_false, Bool.not_true, Bool.not_false, Bool.false_eq_true, Nat.zero_add, Nat.add_zero, forall_const, Int.reduceLT, Int.reduceLE, Int.reduceNeg, Int.reduceToNat, Int.toNat_natCast, and_self, isC, isI, h, false_and]
  | _ => simp only [m_is_index, b_is_index, is_count_ok, eMut, gAppend, gInsert, eRev, eIndex, eLenSet, gInt, gLen, gTuple, gList, gAbs, gMax2, gMin2, gDivmod, gEq_int, runFn, sSeq, sIf, sSet, sSetIx, sRet, sRetN, sNil, sDrop, sAsg, sFor, sPar, sNever, setO, retO, setOs, presc, eVar, eK, eTwo, v2, eFn, eDisp, eTup, eLst, eCall, eCallR, eCallK, pick, toSl, toSls, sIdx, wb, bk, esc, escs, vals, aNil, aCons, tb, Ev.tNot, Ev.tAnd, Ev.tOr, gGt, gLt, gGe, gLe, gSub, gMod, gDiv, gPow, gAdd, gMul, gInt, mulOk, g1, g2, fInt, fLen, fTuple, fList, fAbs, eAnd, eOr, eNot, eIf, eNeg, eIsi, gII, gIx, gIsN, gN, gT, gsNil, gsCons, isLent_eq, lentO, lentS_v, lentS_un, lentS_f, lentS_t, lentS_z, finE, okArg, Out.bind, Od.val, slVal, Bx.tr, Bx.t, isN, L2.ixN, L2.atI, isInt, isBool, isTuple, isList, isStr, isDict, isTL, Nat.zero_le, id_eq, eq_self, Pu.c0, Pu.c1, Pu.c2, Pu.c3, Pu.c4, Pu.c5, Pu.c6, Pu.c7, Pu.c8, Pu.c9, Pu.s1, Pu.s2, Pu.s3, Pu.s4, Pu.s5, Pu.s6, Pu.s7, Pu.s8, Pu.s9, Int.reduceEq, Nat.reduceMul, Int.ofNat_eq_natCast, wipeE, restE, exists_eq_left', Option.some.injEq, Out.ok.injEq, Prod.mk.injEq, Option.bind_some, Option.bind_none, Option.bind_eq_bind, List.getElem?_cons_zero, List.getElem?_cons_succ, List.getElem?_nil, List.set_cons_zero, List.set_cons_succ, List.set_nil, List.length_cons, List.length_nil, List.replicate_succ, List.replicate_zero, List.cons_append, List.nil_append, List.append_nil, List.all_cons, List.all_nil, Bool.and_true, Bool.true_and, Bool.and_false, Bool.false_and, if_true, if_false, ite_true, ite_false, List.nodup_cons, List.nodup_nil, List.not_mem_nil, List.mem_cons, not_false_eq_true, and_true, true_and, reduceIte, Nat.reduceAdd, Nat.reduceSub, Nat.reduceEqDiff, Nat.reduceLT, Nat.reduceLeDiff, Option.map_some, Option.map_none, Option.getD_some, reduceCtorEq, or_self, or_false, false_or, not_true_eq_false, decide_true, decide_false, Bool.not_true, Bool.not_false, Bool.false_eq_true, Nat.zero_add, Nat.add_zero, forall_const, Int.reduceLT, Int.reduceLE, Int.reduceNeg, Int.reduceToNat, Int.toNat_natCast, and_self, isC, isI]
def isP (b n : Int) : T → Bool
  | .tuple [x, y, k] => isI b x && (isI b y && isI n k)
  | _ => false
theorem is_part_ok (b n : Int) (t : T) : m__is_part [.v (.int b), .v (.int n), .v t] = .ok (.r (.bool (isP b n t))) [.v (.int b), .v (.int n), .v t] := by
  cases t with
  | tuple ts =>
    match ts with
    | [x, y, k] =>
      cases hx : isI b x <;> cases hy : isI b y <;> simp only [m__is_part, b__is_part, is_index_ok, eMut, gAppend, gInsert, eRev, eIndex, eLenSet, gInt, gLen, gTuple, gList, gAbs, gMax2, gMin2, gDivmod, gEq_int, runFn, sSeq, sIf, sSet, sSetIx, sRet, sRetN, sNil, sDrop, sAsg, sFor, sPar, sNever, setO, retO, setOs, presc, eVar, eK, eTwo, v2, eFn, eDisp, eTup, eLst, eCall, eCallR, eCallK, pick, toSl, toSls, sIdx, wb, bk, esc, escs, vals, aNil, aCons, tb, Ev.tNot, Ev.tAnd, Ev.tOr, gGt, gLt, gGe, gLe, gSub, gMod, gDiv, gPow, gAdd, gMul, gInt, mulOk, g1, g2, fInt, fLen, fTuple, fList, fAbs, eAnd, eOr, eNot, eIf, eNeg, eIsi, gII, gIx, gIsN, gN, gT, gsNil, gsCons, isLent_eq, lentO, lentS_v, lentS_un, lentS_f, lentS_t, lentS_z, finE, okArg, Out.bind, Od.val, slVal, Bx.tr, Bx.t, isN, L2.ixN, L2.atI, isInt, isBool, isTuple, isList, isStr, isDict, isTL, Nat.zero_le, id_eq, eq_self, Pu.c0, Pu.c1, Pu.c2, Pu.c3, Pu.c4, Pu.c5, Pu.c6, Pu.c7, Pu.c8, Pu.c9, Pu.s1, Pu.s2, Pu.s3, Pu.s4, Pu.s5, Pu.s6, Pu.s7, Pu.s8, Pu.s9, Int.reduceEq, Nat.reduceMul, Int.ofNat_eq_natCast, wipeE, restE, exists_eq_left', Option.some.injEq, Out.ok.injEq, Prod.mk.injEq, Option.bind_some, Option.bind_none, Option.bind_eq_bind, List.getElem?_cons_zero, List.getElem?_cons_succ, List.getElem?_nil, List.set_cons_zero, List.set_cons_succ, List.set_nil, List.length_cons, List.length_nil, List.replicate_succ, List.replicate_zero, List.cons_append, List.nil_append, List.append_nil, List.all_cons, List.all_nil, Bool.and_true, Bool.true_and, Bool.and_false, Bool.false_and, if_true, if_false, ite_true, ite_false, List.nodup_cons, List.nodup_nil, List.not_mem_nil, List.mem_cons, not_false_eq_true, and_true, true_and, reduceIte, Nat.reduceAdd, Nat.reduceSub, Nat.reduceEqDiff, Nat.reduceLT, Nat.reduceLeDiff, Option.map_some, Option.map_none, Option.getD_some, reduceCtorEq, or_self, or_false, false_or, not_true_eq_false, decide_true, decide_false, Bool.not_true, Bool.not_false, Bool.false_eq_true, Nat.zero_add, Nat.add_zero, forall_const, Int.reduceLT, Int.reduceLE, Int.reduceNeg, Int.reduceToNat, Int.toNat_natCast, and_self, isP, hx, hy]
    | [] => rfl
    | [_] => rfl
    | [_, _] => rfl
    | x :: y :: k :: z :: ts =>
      have h : decide (((ts.length + 1 + 1 + 1 + 1 : Nat) : Int) = 3) = false := by simp; omega
      simp only [m__is_part, b__is_part, is_index_ok, eMut, gAppend, gInsert, eRev, eIndex, eLenSet, gInt, gLen, gTuple, gList, gAbs, gMax2, gMin2, gDivmod, gEq_int, runFn, sSeq, sIf, sSet, sSetIx, sRet, sRetN, sNil, sDrop, sAsg, sFor, sPar, sNever, setO, retO, setOs, presc, eVar, eK, eTwo, v2, eFn, eDisp, eTup, eLst, eCall, eCallR, eCallK, pick, toSl, toSls, sIdx, wb, bk, esc, escs, vals, aNil, aCons, tb, Ev.tNot, Ev.tAnd, Ev.tOr, gGt, gLt, gGe, gLe, gSub, gMod, gDiv, gPow, gAdd, gMul, gInt, mulOk, g1, g2, fInt, fLen, fTuple, fList, fAbs, eAnd, eOr, eNot, eIf, eNeg, eIsi, gII, gIx, gIsN, gN, gT, gsNil, gsCons, isLent_eq, lentO, lentS_v, lentS_un, lentS_f, lentS_t, lentS_z, finE, okArg, Out.bind, Od.val, slVal, Bx.tr, Bx.t, isN, L2.ixN, L2.atI, isInt, isBool, isTuple, isList, isStr, isDict, isTL, Nat.zero_le, id_eq, eq_self, Pu.c0, Pu.c1, Pu.c2, Pu.c3, Pu.c4, Pu.c5, Pu.c6, Pu.c7, Pu.c8, Pu.c9, Pu.s1, Pu.s2, Pu.s3, Pu.s4, Pu.s5, Pu.s6, Pu.s7, Pu.s8, Pu.s9, Int.reduceEq, Nat.reduceMul, Int.ofNat_eq_natCast, wipeE, restE, exists_eq_left', Option.some.injEq, Out.ok.injEq, Prod.mk.injEq, Option.bind_some, Option.bind_none, Option.bind_eq_bind, List.getElem?_cons_zero, List.getElem?_cons_succ, List.getElem?_nil, List.set_cons_zero, List.set_cons_succ, List.set_nil, List.length_cons, List.length_nil, List.replicate_succ, List.replicate_zero, List.cons_append, List.nil_append, List.append_nil, List.all_cons, List.all_nil, Bool.and_true, Bool.true_and, Bool.and_false, Bool.false_and, if_true, if_false, ite_true, ite_false, List.nodup_cons, List.nodup_nil, List.not_mem_nil, List.mem_cons, not_false_eq_true, and_true, true_and, reduceIte, Nat.reduceAdd, Nat.reduceSub, Nat.reduceEqDiff, Nat.reduceLT, Nat.reduceLeDiff, Option.map_some, Option.map_none, Option.getD_some, reduceCtorEq, or_self, or_false, false_or, not_true_eq_false, decide_true, decide_false, Bool.not_true, Bool.not_false, Bool.false_eq_true, Nat.zero_add, Nat.add_zero, forall_const, Int.reduceLT, Int.reduceLE, Int.reduceNeg, Int.reduceToNat, Int.toNat_natCast, and_self, isP, h]
  | _ => rfl
theorem isP_form {b n : Int} {t : T} (h : isP b n t = true) : ∃ x y k : Int, t = .tuple [.int x, .int y, .int k] ∧ (0 ≤ x ∧ x < b) ∧ (0 ≤ y ∧ y < b) ∧ 0 ≤ k ∧ k < n := by
  unfold isP at h
  split at h
  · rename_i x y k
    rw [Bool.and_eq_true, Bool.and_eq_true] at h
    obtain ⟨h1, h2, h3⟩ := h
    cases x <;> simp only [isI, Bool.false_eq_true] at h1
    cases y <;> simp only [isI, Bool.false_eq_true] at h2
    cases k <;> simp only [isI, Bool.false_eq_true] at h3
    exact ⟨_, _, _, rfl, of_decide_eq_true h1, of_decide_eq_true h2, of_decide_eq_true h3⟩
  · cases h
/-- places of parts -/
def pl : T → T
  | .tuple (x :: y :: _) => .tuple [x, y]
  | t => t
theorem places_x (ts : List T) (hl : ts.length ≤ sizeLine) (h : ∀ t ∈ ts, ∃ x y k, t = .tuple [x, y, k]) : x1_places_of [.v (.tuple ts), .un] = .ok (.b (.l (ts.map pl))) [.v (.tuple ts), .un] := by
  refine comp_map pl ts [] [.v (.tuple ts), .un] (by simpa using hl) fun t ht => ?_
  obtain ⟨x, y, k, rfl⟩ := h t ht
  exact ⟨_, rfl, _, rfl, _, _, rfl, _, rfl, rfl⟩
theorem places_ok (ts : List T) (hl : ts.length ≤ sizeLine) (h : ∀ t ∈ ts, ∃ x y k, t = .tuple [x, y, k]) : m_places_of [.v (.tuple ts)] = .ok (.b (.l (ts.map pl))) [.v (.tuple ts)] := by
  simp only [m_places_of, b_places_of, places_x ts hl h, eMut, gAppend, gInsert, eRev, eIndex, eLenSet, gInt, gLen, gTuple, gList, gAbs, gMax2, gMin2, gDivmod, gEq_int, runFn, sSeq, sIf, sSet, sSetIx, sRet, sRetN, sNil, sDrop, sAsg, sFor, sPar, sNever, setO, retO, setOs, presc, eVar, eK, eTwo, v2, eFn, eDisp, eTup, eLst, eCall, eCallR, eCallK, pick, toSl, toSls, sIdx, wb, bk, esc, escs, vals, aNil, aCons, tb, Ev.tNot, Ev.tAnd, Ev.tOr, gGt, gLt, gGe, gLe, gSub, gMod, gDiv, gPow, gAdd, gMul, gInt, mulOk, g1, g2, fInt, fLen, fTuple, fList, fAbs, eAnd, eOr, eNot, eIf, eNeg, eIsi, gII, gIx, gIsN, gN, gT, gsNil, gsCons, isLent_eq, lentO, lentS_v, lentS_un, lentS_f, lentS_t, lentS_z, finE, okArg, Out.bind, Od.val, slVal, Bx.tr, Bx.t, isN, L2.ixN, L2.atI, isInt, isBool, isTuple, isList, isStr, isDict, isTL, Nat.zero_le, id_eq, eq_self, Pu.c0, Pu.c1, Pu.c2, Pu.c3, Pu.c4, Pu.c5, Pu.c6, Pu.c7, Pu.c8, Pu.c9, Pu.s1, Pu.s2, Pu.s3, Pu.s4, Pu.s5, Pu.s6, Pu.s7, Pu.s8, Pu.s9, Int.reduceEq, Nat.reduceMul, Int.ofNat_eq_natCast, wipeE, restE, exists_eq_left', Option.some.injEq, Out.ok.injEq, Prod.mk.injEq, Option.bind_some, Option.bind_none, Option.bind_eq_bind, List.getElem?_cons_zero, List.getElem?_cons_succ, List.getElem?_nil, List.set_cons_zero, List.set_cons_succ, List.set_nil, List.length_cons, List.length_nil, List.replicate_succ, List.replicate_zero, List.cons_append, List.nil_append, List.append_nil, List.all_cons, List.all_nil, Bool.and_true, Bool.true_and, Bool.and_false, Bool.false_and, if_true, if_false, ite_true, ite_false, List.nodup_cons, List.nodup_nil, List.not_mem_nil, List.mem_cons, not_false_eq_true, and_true, true_and, reduceIte, Nat.reduceAdd, Nat.reduceSub, Nat.reduceEqDiff, Nat.reduceLT, Nat.reduceLeDiff, Option.map_some, Option.map_none, Option.getD_some, reduceCtorEq, or_self, or_false, false_or, not_true_eq_false, decide_true, decide_false, Bool.not_true, Bool.not_false, Bool.false_eq_true, Nat.zero_add, Nat.add_zero, forall_const, Int.reduceLT, Int.reduceLE, Int.reduceNeg, Int.reduceToNat, Int.toNat_natCast, and_self]
theorem kind_x (b n : Int) (ts : List T) (hl : ts.length ≤ sizeLine) : x1__is_kind [.v (.int b), .v (.int n), .v (.tuple ts), .un] = .ok (.b (.l ((ts.map (isP b n)).map .bool))) [.v (.int b), .v (.int n), .v (.tuple ts), .un] := by
  rw [List.map_map]
  refine comp_map _ ts [] [.v (.int b), .v (.int n), .v (.tuple ts), .un] (by simpa using hl) fun t ht => ?_
  refine ⟨_, rfl, _, rfl, .r (.bool (isP b n t)), [.v (.int b), .v (.int n), .v (.tuple ts), .v t], ?_, _, rfl, rfl⟩
  simp only [is_part_ok, eMut, gAppend, gInsert, eRev, eIndex, eLenSet, gInt, gLen, gTuple, gList, gAbs, gMax2, gMin2, gDivmod, gEq_int, runFn, sSeq, sIf, sSet, sSetIx, sRet, sRetN, sNil, sDrop, sAsg, sFor, sPar, sNever, setO, retO, setOs, presc, eVar, eK, eTwo, v2, eFn, eDisp, eTup, eLst, eCall, eCallR, eCallK, pick, toSl, toSls, sIdx, wb, bk, esc, escs, vals, aNil, aCons, tb, Ev.tNot, Ev.tAnd, Ev.tOr, gGt, gLt, gGe, gLe, gSub, gMod, gDiv, gPow, gAdd, gMul, gInt, mulOk, g1, g2, fInt, fLen, fTuple, fList, fAbs, eAnd, eOr, eNot, eIf, eNeg, eIsi, gII, gIx, gIsN, gN, gT, gsNil, gsCons, isLent_eq, lentO, lentS_v, lentS_un, lentS_f, lentS_t, lentS_z, finE, okArg, Out.bind, Od.val, slVal, Bx.tr, Bx.t, isN, L2.ixN, L2.atI, isInt, isBool, isTuple, isList, isStr, isDict, isTL, Nat.zero_le, id_eq, eq_self, Pu.c0, Pu.c1, Pu.c2, Pu.c3, Pu.c4, Pu.c5, Pu.c6, Pu.c7, Pu.c8, Pu.c9, Pu.s1, Pu.s2, Pu.s3, Pu.s4, Pu.s5, Pu.s6, Pu.s7, Pu.s8, Pu.s9, Int.reduceEq, Nat.reduceMul, Int.ofNat_eq_natCast, wipeE, restE, exists_eq_left', Option.some.injEq, Out.ok.injEq, Prod.mk.injEq, Option.bind_some, Option.bind_none, Option.bind_eq_bind, List.getElem?_cons_zero, List.getElem?_cons_succ, List.getElem?_nil, List.set_cons_zero, List.set_cons_succ, List.set_nil, List.length_cons, List.length_nil, List.replicate_succ, List.replicate_zero, List.cons_append, List.nil_append, List.append_nil, List.all_cons, List.all_nil, Bool.and_true, Bool.true_and, Bool.and_false, Bool.false_and, if_true, if_false, ite_true, ite_false, List.nodup_cons, List.nodup_nil, List.not_mem_nil, List.mem_cons, not_false_eq_true, and_true, true_and, reduceIte, Nat.reduceAdd, Nat.reduceSub, Nat.reduceEqDiff, Nat.reduceLT, Nat.reduceLeDiff, Option.map_some, Option.map_none, Option.getD_some, reduceCtorEq, or_self, or_false, false_or, not_true_eq_false, decide_true, decide_false, Bool.not_true, Bool.not_false, Bool.false_eq_true, Nat.zero_add, Nat.add_zero, forall_const, Int.reduceLT, Int.reduceLE, Int.reduceNeg, Int.reduceToNat, Int.toNat_natCast, and_self, wipeE]

def i3 : T → List Int
  | .tuple (.int x :: .int y :: _) => [x, y]
  | _ => []
theorem tups_places {b n : Int} : ∀ {ts : List T}, (∀ t ∈ ts, isP b n t = true) → tupsOf (ts.map pl) = some (ts.map i3)
  | [], _ => rfl
  | t :: ts, h => by
    obtain ⟨x, y, k, rfl, _⟩ := isP_form (h t List.mem_cons_self)
    have ih := tups_places fun t ht => h t (List.mem_cons_of_mem _ ht)
    show (match intsOf [.int x, .int y], tupsOf (ts.map pl) with | some a, some b => some (a :: b) | _, _ => none) = _
    rw [ih]
    rfl
/-- a kind -/
def isKd (b n : Int) : T → Bool
  | .tuple ts => decide ((ts.length : Int) = b * b) && ((ts.map (isP b n)).all id && decide (((dd (ts.map i3)).length : Int) = b * b))
  | _ => false
theorem is_kind_ok (b n : Int) (t : T) (hb : b = 2 ∨ b = 3) : m__is_kind [.v (.int b), .v (.int n), .v t] = .ok (.r (.bool (isKd b n t))) [.v (.int b), .v (.int n), .v t] := by
  have hm : b.natAbs.log2 + b.natAbs.log2 < 1000000 := by rcases hb with rfl | rfl <;> decide
  cases t with
  | tuple ts =>
    by_cases h1 : (ts.length : Int) = b * b
    · have h2 : ts.length < 64 := by rcases hb with rfl | rfl <;> omega
      have h3 : ts.length ≤ sizeLine := by unfold sizeLine; omega
      cases h4 : (ts.map (isP b n)).all id with
      | false => simp only [m__is_kind, b__is_kind, kind_x b n ts h3, eMut, gAppend, gInsert, eRev, eIndex, eLenSet, gInt, gLen, gTuple, gList, gAbs, gMax2, gMin2, gDivmod, gEq_int, runFn, sSeq, sIf, sSet, sSetIx, sRet, sRetN, sNil, sDrop, sAsg, sFor, sPar, sNever, setO, retO, setOs, presc, eVar, eK, eTwo, v2, eFn, eDisp, eTup, eLst, eCall, eCallR, eCallK, pick, toSl, toSls, sIdx, wb, bk, esc, escs, vals, aNil, aCons, tb, Ev.tNot, Ev.tAnd, Ev.tOr, gGt, gLt, gGe, gLe, gSub, gMod, gDiv, gPow, gAdd, gMul, gInt, mulOk, g1, g2, fInt, fLen, fTuple, fList, fAbs, eAnd, eOr, eNot, eIf, eNeg, eIsi, gII, gIx, gIsN, gN, gT, gsNil, gsCons, isLent_eq, lentO, lentS_v, lentS_un, lentS_f, lentS_t, lentS_z, finE, okArg, Out.bind, Od.val, slVal, Bx.tr, Bx.t, isN, L2.ixN, L2.atI, isInt, isBool, isTuple, isList, isStr, isDict, isTL, Nat.zero_le, id_eq, eq_self, Pu.c0, Pu.c1, Pu.c2, Pu.c3, Pu.c4, Pu.c5, Pu.c6, Pu.c7, Pu.c8, Pu.c9, Pu.s1, Pu.s2, Pu.s3, Pu.s4, Pu.s5, Pu.s6, Pu.s7, Pu.s8, Pu.s9, Int.reduceEq, Nat.reduceMul, Int.ofNat_eq_natCast, wipeE, restE, exists_eq_left', Option.some.injEq, Out.ok.injEq, Prod.mk.injEq, Option.bind_some, Option.bind_none, Option.bind_eq_bind, List.getElem?_cons_zero, List.getElem?_cons_succ, List.getElem?_nil, List.set_cons_zero, List.set_cons_succ, List.set_nil, List.length_cons, List.length_nil, List.replicate_succ, List.replicate_zero, List.cons_append, List.nil_append, List.append_nil, List.all_cons, List.all_nil, Bool.and_true, Bool.true_and, Bool.and_false, Bool.false_and, if_true, if_false, ite_true, ite_false, List.nodup_cons, List.nodup_nil, List.not_mem_nil, List.mem_cons, not_false_eq_true, and_true, true_and, reduceIte, Nat.reduceAdd, Nat.reduceSub, Nat.reduceEqDiff, Nat.reduceLT, Nat.reduceLeDiff, Option.map_some, Option.map_none, Option.getD_some, reduceCtorEq, or_self, or_false, false_or, not_true_eq_false, decide_true, decide_false, Bool.not_true, Bool.not_false, Bool.false_eq_true, Nat.zero_add, Nat.add_zero, forall_const, Int.reduceLT, Int.reduceLE, Int.reduceNeg, Int.reduceToNat, Int.toNat_natCast, and_self, isKd, h1, h4, gAll_bools, hm]
      | true =>
        have h5 : ∀ t ∈ ts, isP b n t = true := fun t ht => by
          have := List.all_eq_true.mp h4 (isP b n t) (List.mem_map_of_mem ht)
          exact this
        have h6 := places_ok ts h3 fun t ht => by
          obtain ⟨x, y, k, rfl, _⟩ := isP_form (h5 t ht)
          exact ⟨_, _, _, rfl⟩
        have h7 := tups_places h5
        simp only [m__is_kind, b__is_kind, kind_x b n ts h3, eMut, gAppend, gInsert, eRev, eIndex, eLenSet, gInt, gLen, gTuple, gList, gAbs, gMax2, gMin2, gDivmod, gEq_int, runFn, sSeq, sIf, sSet, sSetIx, sRet, sRetN, sNil, sDrop, sAsg, sFor, sPar, sNever, setO, retO, setOs, presc, eVar, eK, eTwo, v2, eFn, eDisp, eTup, eLst, eCall, eCallR, eCallK, pick, toSl, toSls, sIdx, wb, bk, esc, escs, vals, aNil, aCons, tb, Ev.tNot, Ev.tAnd, Ev.tOr, gGt, gLt, gGe, gLe, gSub, gMod, gDiv, gPow, gAdd, gMul, gInt, mulOk, g1, g2, fInt, fLen, fTuple, fList, fAbs, eAnd, eOr, eNot, eIf, eNeg, eIsi, gII, gIx, gIsN, gN, gT, gsNil, gsCons, isLent_eq, lentO, lentS_v, lentS_un, lentS_f, lentS_t, lentS_z, finE, okArg, Out.bind, Od.val, slVal, Bx.tr, Bx.t, isN, L2.ixN, L2.atI, isInt, isBool, isTuple, isList, isStr, isDict, isTL, Nat.zero_le, id_eq, eq_self, Pu.c0, Pu.c1, Pu.c2, Pu.c3, Pu.c4, Pu.c5, Pu.c6, Pu.c7, Pu.c8, Pu.c9, Pu.s1, Pu.s2, Pu.s3, Pu.s4, Pu.s5, Pu.s6, Pu.s7, Pu.s8, Pu.s9, Int.reduceEq, Nat.reduceMul, Int.ofNat_eq_natCast, wipeE, restE, exists_eq_left', Option.some.injEq, Out.ok.injEq, Prod.mk.injEq, Option.bind_some, Option.bind_none, Option.bind_eq_bind, List.getElem?_cons_zero, List.getElem?_cons_succ, List.getElem?_nil, List.set_cons_zero, List.set_cons_succ, List.set_nil, List.length_cons, List.length_nil, List.replicate_succ, List.replicate_zero, List.cons_append, List.nil_append, List.append_nil, List.all_cons, List.all_nil, Bool.and_true, Bool.true_and, Bool.and_false, Bool.false_and, if_true, if_false, ite_true, ite_false, List.nodup_cons, List.nodup_nil, List.not_mem_nil, List.mem_cons, not_false_eq_true, and_true, true_and, reduceIte, Nat.reduceAdd, Nat.reduceSub, Nat.reduceEqDiff, Nat.reduceLT, Nat.reduceLeDiff, Option.map_some, Option.map_none, Option.getD_some, reduceCtorEq, or_self, or_false, false_or, not_true_eq_false, decide_true, decide_false, Bool.not_true, Bool.not_false, Bool.false_eq_true, Nat.zero_add, Nat.add_zero, forall_const, Int.reduceLT, Int.reduceLE, Int.reduceNeg, Int.reduceToNat, Int.toNat_natCast, and_self, isKd, h1, h4, gAll_bools, hm, eLenSet, h6, h7, List.length_map, h2, id]
    · simp only [m__is_kind, b__is_kind, eMut, gAppend, gInsert, eRev, eIndex, eLenSet, gInt, gLen, gTuple, gList, gAbs, gMax2, gMin2, gDivmod, gEq_int, runFn, sSeq, sIf, sSet, sSetIx, sRet, sRetN, sNil, sDrop, sAsg, sFor, sPar, sNever, setO, retO, setOs, presc, eVar, eK, eTwo, v2, eFn, eDisp, eTup, eLst, eCall, eCallR, eCallK, pick, toSl, toSls, sIdx, wb, bk, esc, escs, vals, aNil, aCons, tb, Ev.tNot, Ev.tAnd, Ev.tOr, gGt, gLt, gGe, gLe, gSub, gMod, gDiv, gPow, gAdd, gMul, gInt, mulOk, g1, g2, fInt, fLen, fTuple, fList, fAbs, eAnd, eOr, eNot, eIf, eNeg, eIsi, gII, gIx, gIsN, gN, gT, gsNil, gsCons, isLent_eq, lentO, lentS_v, lentS_un, lentS_f, lentS_t, lentS_z, finE, okArg, Out.bind, Od.val, slVal, Bx.tr, Bx.t, isN, L2.ixN, L2.atI, isInt, isBool, isTuple, isList, isStr, isDict, isTL, Nat.zero_le, id_eq, eq_self, Pu.c0, Pu.c1, Pu.c2, Pu.c3, Pu.c4, Pu.c5, Pu.c6, Pu.c7, Pu.c8, Pu.c9, Pu.s1, Pu.s2, Pu.s3, Pu.s4, Pu.s5, Pu.s6, Pu.s7, Pu.s8, Pu.s9, Int.reduceEq, Nat.reduceMul, Int.ofNat_eq_natCast, wipeE, restE, exists_eq_left', Option.some.injEq, Out.ok.injEq, Prod.mk.injEq, Option.bind_some, Option.bind_none, Option.bind_eq_bind, List.getElem?_cons_zero, List.getElem?_cons_succ, List.getElem?_nil, List.set_cons_zero, List.set_cons_succ, List.set_nil, List.length_cons, List.length_nil, List.replicate_succ, List.replicate_zero, List.cons_append, List.nil_append, List.append_nil, List.all_cons, List.all_nil, Bool.and_true, Bool.true_and, Bool.and_false, Bool.false_and, if_true, if_false, ite_true, ite_false, List.nodup_cons, List.nodup_nil, List.not_mem_nil, List.mem_cons, not_false_eq_true, and_true, true_and, reduceIte, Nat.reduceAdd, Nat.reduceSub, Nat.reduceEqDiff, Nat.reduceLT, Nat.reduceLeDiff, Option.map_some, Option.map_none, Option.getD_some, reduceCtorEq, or_self, or_false, false_or, not_true_eq_false, decide_true, decide_false, Bool.not_true, Bool.not_false, Bool.false_eq_true, Nat.zero_add, Nat.add_zero, forall_const, Int.reduceLT, Int.reduceLE, Int.reduceNeg, Int.reduceToNat, Int.toNat_natCast, and_self, isKd, h1, hm]
  | _ => rfl
end Lw

set_option linter.all false
set_option maxRecDepth 100000
set_option maxHeartbeats 4000000
namespace Lw
open PySem PySem.Spec Ev Pu
theorem gIn2 (k : Bool → Bool) (i j b : Int) : gIn k (.int b) (.tuple [.int i, .int j]) = some (.r (.bool (k (decide (i = b) || decide (j = b))))) := by
  show some (Od.r (.bool (k (decide (i = b) || (decide (j = b) || false))))) = _
  rw [Bool.or_false]
theorem book_x (t : T) (b : Int) (hb : b = 2 ∨ b = 3) (ts : List T) (hl : ts.length ≤ sizeLine) : x1_is_book [.v t, .v (.int b), .v (.tuple ts), .un] = .ok (.b (.l ((ts.map (isKd b ts.length)).map .bool))) [.v t, .v (.int b), .v (.tuple ts), .un] := by
  rw [List.map_map]
  refine comp_map _ ts [] [.v t, .v (.int b), .v (.tuple ts), .un] (by simpa using hl) fun u ht => ?_
  refine ⟨_, rfl, _, rfl, .r (.bool (isKd b ts.length u)), [.v t, .v (.int b), .v (.tuple ts), .v u], ?_, _, rfl, rfl⟩
  simp only [is_kind_ok b _ _ hb, eMut, gAppend, gInsert, eRev, eIndex, eLenSet, gInt, gLen, gTuple, gList, gAbs, gMax2, gMin2, gDivmod, gEq_int, runFn, sSeq, sIf, sSet, sSetIx, sRet, sRetN, sNil, sDrop, sAsg, sFor, sPar, sNever, setO, retO, setOs, presc, eVar, eK, eTwo, v2, eFn, eDisp, eTup, eLst, eCall, eCallR, eCallK, pick, toSl, toSls, sIdx, wb, bk, esc, escs, vals, aNil, aCons, tb, Ev.tNot, Ev.tAnd, Ev.tOr, gGt, gLt, gGe, gLe, gSub, gMod, gDiv, gPow, gAdd, gMul, gInt, mulOk, g1, g2, fInt, fLen, fTuple, fList, fAbs, eAnd, eOr, eNot, eIf, eNeg, eIsi, gII, gIx, gIsN, gN, gT, gsNil, gsCons, isLent_eq, lentO, lentS_v, lentS_un, lentS_f, lentS_t, lentS_z, finE, okArg, Out.bind, Od.val, slVal, Bx.tr, Bx.t, isN, L2.ixN, L2.atI, isInt, isBool, isTuple, isList, isStr, isDict, isTL, Nat.zero_le, id_eq, eq_self, Pu.c0, Pu.c1, Pu.c2, Pu.c3, Pu.c4, Pu.c5, Pu.c6, Pu.c7, Pu.c8, Pu.c9, Pu.s1, Pu.s2, Pu.s3, Pu.s4, Pu.s5, Pu.s6, Pu.s7, Pu.s8, Pu.s9, Int.reduceEq, Nat.reduceMul, Int.ofNat_eq_natCast, wipeE, restE, exists_eq_left', Option.some.injEq, Out.ok.injEq, Prod.mk.injEq, Option.bind_some, Option.bind_none, Option.bind_eq_bind, List.getElem?_cons_zero, List.getElem?_cons_succ, List.getElem?_nil, List.set_cons_zero, List.set_cons_succ, List.set_nil, List.length_cons, List.length_nil, List.replicate_succ, List.replicate_zero, List.cons_append, List.nil_append, List.append_nil, List.all_cons, List.all_nil, Bool.and_true, Bool.true_and, Bool.and_false, Bool.false_and, if_true, if_false, ite_true, ite_false, List.nodup_cons, List.nodup_nil, List.not_mem_nil, List.mem_cons, not_false_eq_true, and_true, true_and, reduceIte, Nat.reduceAdd, Nat.reduceSub, Nat.reduceEqDiff, Nat.reduceLT, Nat.reduceLeDiff, Option.map_some, Option.map_none, Option.getD_some, reduceCtorEq, or_self, or_false, false_or, not_true_eq_false, decide_true, decide_false, Bool.not_true, Bool.not_false, Bool.false_eq_true, Nat.zero_add, Nat.add_zero, forall_const, Int.reduceLT, Int.reduceLE, Int.reduceNeg, Int.reduceToNat, Int.toNat_natCast, and_self, wipeE]
/-- a book -/
def isBk : T → Bool
  | .tuple [.int b, .tuple ks] => (decide (2 = b) || decide (3 = b)) && (decide (0 < ks.length) && (ks.map (isKd b ks.length)).all id)
  | _ => false
/-- how many kinds -/
def fewK : T → Bool
  | .tuple [_, .tuple ks] => decide (ks.length ≤ sizeLine)
  | _ => true
theorem is_book_ok (t : T) (hf : fewK t = true) : m_is_book [.v t] = .ok (.r (.bool (isBk t))) [.v t] := by
  cases t with
  | tuple ts =>
    match ts with
    | [] => rfl
    | [x] => cases x <;> rfl
    | x :: y :: z :: ts =>
      have h : decide (((ts.length + 1 + 1 + 1 : Nat) : Int) = 2) = false := by simp; omega
      cases x <;> simp only [m_is_book, b_is_book, eMut, gAppend, gInsert, eRev, eIndex, eLenSet, gInt, gLen, gTuple, gList, gAbs, gMax2, gMin2, gDivmod, gEq_int, runFn, sSeq, sIf, sSet, sSetIx, sRet, sRetN, sNil, sDrop, sAsg, sFor, sPar, sNever, setO, retO, setOs, presc, eVar, eK, eTwo, v2, eFn, eDisp, eTup, eLst, eCall, eCallR, eCallK, pick, toSl, toSls, sIdx, wb, bk, esc, escs, vals, aNil, aCons, tb, Ev.tNot, Ev.tAnd, Ev.tOr, gGt, gLt, gGe, gLe, gSub, gMod, gDiv, gPow, gAdd, gMul, gInt, mulOk, g1, g2, fInt, fLen, fTuple, fList, fAbs, eAnd, eOr, eNot, eIf, eNeg, eIsi, gII, gIx, gIsN, gN, gT, gsNil, gsCons, isLent_eq, lentO, lentS_v, lentS_un, lentS_f, lentS_t, lentS_z, finE, okArg, Out.bind, Od.val, slVal, Bx.tr, Bx.t, isN, L2.ixN, L2.atI, isInt, isBool, isTuple, isList, isStr, isDict, isTL, Nat.zero_le, id_eq, eq_self, Pu.c0, Pu.c1, Pu.c2, Pu.c3, Pu.c4, Pu.c5, Pu.c6, Pu.c7, Pu.c8, Pu.c9, Pu.s1, Pu.s2, Pu.s3, Pu.s4, Pu.s5, Pu.s6, Pu.s7, Pu.s8, Pu.s9, Int.reduceEq, Nat.reduceMul, Int.ofNat_eq_natCast, wipeE, restE, exists_eq_left', Option.some.injEq, Out.ok.injEq, Prod.mk.injEq, Option.bind_some, Option.bind_none, Option.bind_eq_bind, List.getElem?_cons_zero, List.getElem?_cons_succ, List.getElem?_nil, List.set_cons_zero, List.set_cons_succ, List.set_nil, List.length_cons, List.length_nil, List.replicate_succ, List.replicate_zero, List.cons_append, List.nil_append, List.append_nil, List.all_cons, List.all_nil, Bool.and_true, Bool.true_and, Bool.and_false, Bool.false_and, if_true, if_false, ite_true, ite_false, List.nodup_cons, List.nodup_nil, List.not_mem_nil, List.mem_cons, not_false_eq_true, and_true, true_and, reduceIte, Nat.reduceAdd, Nat.reduceSub, Nat.reduceEqDiff, Nat.reduceLT, Nat.reduceLeDiff, Option.map_some, Option.map_none, Option.getD_some, reduceCtorEq, or_self, or_false, false_or, not_true_eq_false, decide_true, decide_false, Bool.not_true, Bool.not_false, Bool.false_eq_true, Nat.zero_add, Nat.add_zero, forall_const, Int.reduceLT, Int.reduceLE, Int.reduceNeg, Int.reduceToNat, Int.toNat_natCast, and_self, isBk, h]
    | [bt, kt] =>
      cases bt with
      | int b =>
        cases h2 : (decide (2 = b) || decide (3 = b)) with
        | false => cases kt <;> simp only [m_is_book, b_is_book, is_whole_ok, isW, gIn2, eMut, gAppend, gInsert, eRev, eIndex, eLenSet, gInt, gLen, gTuple, gList, gAbs, gMax2, gMin2, gDivmod, gEq_int, runFn, sSeq, sIf, sSet, sSetIx, sRet, sRetN, sNil, sDrop, sAsg, sFor, sPar, sNever, setO, retO, setOs, presc, eVar, eK, eTwo, v2, eFn, eDisp, eTup, eLst, eCall, eCallR, eCallK, pick, toSl, toSls, sIdx, wb, bk, esc, escs, vals, aNil, aCons, tb, Ev.tNot, Ev.tAnd, Ev.tOr, gGt, gLt, gGe, gLe, gSub, gMod, gDiv, gPow, gAdd, gMul, gInt, mulOk, g1, g2, fInt, fLen, fTuple, fList, fAbs, eAnd, eOr, eNot, eIf, eNeg, eIsi, gII, gIx, gIsN, gN, gT, gsNil, gsCons, isLent_eq, lentO, lentS_v, lentS_un, lentS_f, lentS_t, lentS_z, finE, okArg, Out.bind, Od.val, slVal, Bx.tr, Bx.t, isN, L2.ixN, L2.atI, isInt, isBool, isTuple, isList, isStr, isDict, isTL, Nat.zero_le, id_eq, eq_self, Pu.c0, Pu.c1, Pu.c2, Pu.c3, Pu.c4, Pu.c5, Pu.c6, Pu.c7, Pu.c8, Pu.c9, Pu.s1, Pu.s2, Pu.s3, Pu.s4, Pu.s5, Pu.s6, Pu.s7, Pu.s8, Pu.s9, Int.reduceEq, Nat.reduceMul, Int.ofNat_eq_natCast, wipeE, restE, exists_eq_left', Option.some.injEq, Out.ok.injEq, Prod.mk.injEq, Option.bind_some, Option.bind_none, Option.bind_eq_bind, List.getElem?_cons_zero, List.getElem?_cons_succ, List.getElem?_nil, List.set_cons_zero, List.set_cons_succ, List.set_nil, List.length_cons, List.length_nil, List.replicate_succ, List.replicate_zero, List.cons_append, List.nil_append, List.append_nil, List.all_cons, List.all_nil, Bool.and_true, Bool.true_and, Bool.and_false, Bool.false_and, if_true, if_false, ite_true, ite_false, List.nodup_cons, List.nodup_nil, List.not_mem_nil, List.mem_cons, not_false_eq_true, and_true, true_and, reduceIte, Nat.reduceAdd, Nat.reduceSub, Nat.reduceEqDiff, Nat.reduceLT, Nat.reduceLeDiff, Option.map_some, Option.map_none, Option.getD_some, reduceCtorEq, or_self, or_false, false_or, not_true_eq_false, decide_true, decide_false, Bool.not_true, Bool.not_false, Bool.false_eq_true, Nat.zero_add, Nat.add_zero, forall_const, Int.reduceLT, Int.reduceLE, Int.reduceNeg, Int.reduceToNat, Int.toNat_natCast, and_self, isBk, h2]
        | true =>
          have hb : b = 2 ∨ b = 3 := by
            rw [Bool.or_eq_true] at h2
            rcases h2 with h | h
            · exact .inl (of_decide_eq_true h).symm
            · exact .inr (of_decide_eq_true h).symm
          cases kt with
          | tuple ks =>
            cases ks with
            | nil => simp only [m_is_book, b_is_book, is_whole_ok, isW, gIn2, eMut, gAppend, gInsert, eRev, eIndex, eLenSet, gInt, gLen, gTuple, gList, gAbs, gMax2, gMin2, gDivmod, gEq_int, runFn, sSeq, sIf, sSet, sSetIx, sRet, sRetN, sNil, sDrop, sAsg, sFor, sPar, sNever, setO, retO, setOs, presc, eVar, eK, eTwo, v2, eFn, eDisp, eTup, eLst, eCall, eCallR, eCallK, pick, toSl, toSls, sIdx, wb, bk, esc, escs, vals, aNil, aCons, tb, Ev.tNot, Ev.tAnd, Ev.tOr, gGt, gLt, gGe, gLe, gSub, gMod, gDiv, gPow, gAdd, gMul, gInt, mulOk, g1, g2, fInt, fLen, fTuple, fList, fAbs, eAnd, eOr, eNot, eIf, eNeg, eIsi, gII, gIx, gIsN, gN, gT, gsNil, gsCons, isLent_eq, lentO, lentS_v, lentS_un, lentS_f, lentS_t, lentS_z, finE, okArg, Out.bind, Od.val, slVal, Bx.tr, Bx.t, isN, L2.ixN, L2.atI, isInt, isBool, isTuple, isList, isStr, isDict, isTL, Nat.zero_le, id_eq, eq_self, Pu.c0, Pu.c1, Pu.c2, Pu.c3, Pu.c4, Pu.c5, Pu.c6, Pu.c7, Pu.c8, Pu.c9, Pu.s1, Pu.s2, Pu.s3, Pu.s4, Pu.s5, Pu.s6, Pu.s7, Pu.s8, Pu.s9, Int.reduceEq, Nat.reduceMul, Int.ofNat_eq_natCast, wipeE, restE, exists_eq_left', Option.some.injEq, Out.ok.injEq, Prod.mk.injEq, Option.bind_some, Option.bind_none, Option.bind_eq_bind, List.getElem?_cons_zero, List.getElem?_cons_succ, List.getElem?_nil, List.set_cons_zero, List.set_cons_succ, List.set_nil, List.length_cons, List.length_nil, List.replicate_succ, List.replicate_zero, List.cons_append, List.nil_append, List.append_nil, List.all_cons, List.all_nil, Bool.and_true, Bool.true_and, Bool.and_false, Bool.false_and, if_true, if_false, ite_true, ite_false, List.nodup_cons, List.nodup_nil, List.not_mem_nil, List.mem_cons, not_false_eq_true, and_true, true_and, reduceIte, Nat.reduceAdd, Nat.reduceSub, Nat.reduceEqDiff, Nat.reduceLT, Nat.reduceLeDiff, Option.map_some, Option.map_none, Option.getD_some, reduceCtorEq, or_self, or_false, false_or, not_true_eq_false, decide_true, decide_false, Bool.not_true, Bool.not_false, Bool.false_eq_true, Nat.zero_add, Nat.add_zero, forall_const, Int.reduceLT, Int.reduceLE, Int.reduceNeg, Int.reduceToNat, Int.toNat_natCast, and_self, isBk, h2]
            | cons k ks =>
              have hl : (k :: ks).length ≤ sizeLine := of_decide_eq_true hf
              have h3 := book_x (.tuple [.int b, .tuple (k :: ks)]) b hb (k :: ks) hl
              have h4 : decide (((ks.length + 1 : Nat) : Int) = 0) = false := by simp; omega
              have h5 : 0 < ks.length + 1 := by omega
              simp only [m_is_book, b_is_book, is_whole_ok, isW, gIn2, eMut, gAppend, gInsert, eRev, eIndex, eLenSet, gInt, gLen, gTuple, gList, gAbs, gMax2, gMin2, gDivmod, gEq_int, runFn, sSeq, sIf, sSet, sSetIx, sRet, sRetN, sNil, sDrop, sAsg, sFor, sPar, sNever, setO, retO, setOs, presc, eVar, eK, eTwo, v2, eFn, eDisp, eTup, eLst, eCall, eCallR, eCallK, pick, toSl, toSls, sIdx, wb, bk, esc, escs, vals, aNil, aCons, tb, Ev.tNot, Ev.tAnd, Ev.tOr, gGt, gLt, gGe, gLe, gSub, gMod, gDiv, gPow, gAdd, gMul, gInt, mulOk, g1, g2, fInt, fLen, fTuple, fList, fAbs, eAnd, eOr, eNot, eIf, eNeg, eIsi, gII, gIx, gIsN, gN, gT, gsNil, gsCons, isLent_eq, lentO, lentS_v, lentS_un, lentS_f, lentS_t, lentS_z, finE, okArg, Out.bind, Od.val, slVal, Bx.tr, Bx.t, isN, L2.ixN, L2.atI, isInt, isBool, isTuple, isList, isStr, isDict, isTL, Nat.zero_le, id_eq, eq_self, Pu.c0, Pu.c1, Pu.c2, Pu.c3, Pu.c4, Pu.c5, Pu.c6, Pu.c7, Pu.c8, Pu.c9, Pu.s1, Pu.s2, Pu.s3, Pu.s4, Pu.s5, Pu.s6, Pu.s7, Pu.s8, Pu.s9, Int.reduceEq, Nat.reduceMul, Int.ofNat_eq_natCast, wipeE, restE, exists_eq_left', Option.some.injEq, Out.ok.injEq, Prod.mk.injEq, Option.bind_some, Option.bind_none, Option.bind_eq_bind, List.getElem?_cons_zero, List.getElem?_cons_succ, List.getElem?_nil, List.set_cons_zero, List.set_cons_succ, List.set_nil, List.length_cons, List.length_nil, List.replicate_succ, List.replicate_zero, List.cons_append, List.nil_append, List.append_nil, List.all_cons, List.all_nil, Bool.and_true, Bool.true_and, Bool.and_false, Bool.false_and, if_true, if_false, ite_true, ite_false, List.nodup_cons, List.nodup_nil, List.not_mem_nil, List.mem_cons, not_false_eq_true, and_true, true_and, reduceIte, Nat.reduceAdd, Nat.reduceSub, Nat.reduceEqDiff, Nat.reduceLT, Nat.reduceLeDiff, Option.map_some, Option.map_none, Option.getD_some, reduceCtorEq, or_self, or_false, false_or, not_true_eq_false, decide_true, decide_false, Bool.not_true, Bool.not_false, Bool.false_eq_true, Nat.zero_add, Nat.add_zero, forall_const, Int.reduceLT, Int.reduceLE, Int.reduceNeg, Int.reduceToNat, Int.toNat_natCast, and_self, isBk, h2, h3, gAll_bools, h4, h5]
          | _ => simp only [m_is_book, b_is_book, is_whole_ok, isW, gIn2, eMut, gAppend, gInsert, eRev, eIndex, eLenSet, gInt, gLen, gTuple, gList, gAbs, gMax2, gMin2, gDivmod, gEq_int, runFn, sSeq, sIf, sSet, sSetIx, sRet, sRetN, sNil, sDrop, sAsg, sFor, sPar, sNever, setO, retO, setOs, presc, eVar, eK, eTwo, v2, eFn, eDisp, eTup, eLst, eCall, eCallR, eCallK, pick, toSl, toSls, sIdx, wb, bk, esc, escs, vals, aNil, aCons, tb, Ev.tNot, Ev.tAnd, Ev.tOr, gGt, gLt, gGe, gLe, gSub, gMod, gDiv, gPow, gAdd, gMul, gInt, mulOk, g1, g2, fInt, fLen, fTuple, fList, fAbs, eAnd, eOr, eNot, eIf, eNeg, eIsi, gII, gIx, gIsN, gN, gT, gsNil, gsCons, isLent_eq, lentO, lentS_v, lentS_un, lentS_f, lentS_t, lentS_z, finE, okArg, Out.bind, Od.val, slVal, Bx.tr, Bx.t, isN, L2.ixN, L2.atI, isInt, isBool, isTuple, isList, isStr, isDict, isTL, Nat.zero_le, id_eq, eq_self, Pu.c0, Pu.c1, Pu.c2, Pu.c3, Pu.c4, Pu.c5, Pu.c6, Pu.c7, Pu.c8, Pu.c9, Pu.s1, Pu.s2, Pu.s3, Pu.s4, Pu.s5, Pu.s6, Pu.s7, Pu.s8, Pu.s9, Int.reduceEq, Nat.reduceMul, Int.ofNat_eq_natCast, wipeE, restE, exists_eq_left', Option.some.injEq, Out.ok.injEq, Prod.mk.injEq, Option.bind_some, Option.bind_none, Option.bind_eq_bind, List.getElem?_cons_zero, List.getElem?_cons_succ, List.getElem?_nil, List.set_cons_zero, List.set_cons_succ, List.set_nil, List.length_cons, List.length_nil, List.replicate_succ, List.replicate_zero, List.cons_append, List.nil_append, List.append_nil, List.all_cons, List.all_nil, Bool.and_true, Bool.true_and, Bool.and_false, Bool.false_and, if_true, if_false, ite_true, ite_false, List.nodup_cons, List.nodup_nil, List.not_mem_nil, List.mem_cons, not_false_eq_true, and_true, true_and, reduceIte, Nat.reduceAdd, Nat.reduceSub, Nat.reduceEqDiff, Nat.reduceLT, Nat.reduceLeDiff, Option.map_some, Option.map_none, Option.getD_some, reduceCtorEq, or_self, or_false, false_or, not_true_eq_false, decide_true, decide_false, Bool.not_true, Bool.not_false, Bool.false_eq_true, Nat.zero_add, Nat.add_zero, forall_const, Int.reduceLT, Int.reduceLE, Int.reduceNeg, Int.reduceToNat, Int.toNat_natCast, and_self, isBk, h2]
      | _ => cases kt <;> simp only [m_is_book, b_is_book, is_whole_ok, isW, gIn2, eMut, gAppend, gInsert, eRev, eIndex, eLenSet, gInt, gLen, gTuple, gList, gAbs, gMax2, gMin2, gDivmod, gEq_int, runFn, sSeq, sIf, sSet, sSetIx, sRet, sRetN, sNil, sDrop, sAsg, sFor, sPar, sNever, setO, retO, setOs, presc, eVar, eK, eTwo, v2, eFn, eDisp, eTup, eLst, eCall, eCallR, eCallK, pick, toSl, toSls, sIdx, wb, bk, esc, escs, vals, aNil, aCons, tb, Ev.tNot, Ev.tAnd, Ev.tOr, gGt, gLt, gGe, gLe, gSub, gMod, gDiv, gPow, gAdd, gMul, gInt, mulOk, g1, g2, fInt, fLen, fTuple, fList, fAbs, eAnd, eOr, eNot, eIf, eNeg, eIsi, gII, gIx, gIsN, gN, gT, gsNil, gsCons, isLent_eq, lentO, lentS_v, lentS_un, lentS_f, lentS_t, lentS_z, finE, okArg, Out.bind, Od.val, slVal, Bx.tr, Bx.t, isN, L2.ixN, L2.atI, isInt, isBool, isTuple, isList, isStr, isDict, isTL, Nat.zero_le, id_eq, eq_self, Pu.c0, Pu.c1, Pu.c2, Pu.c3, Pu.c4, Pu.c5, Pu.c6, Pu.c7, Pu.c8, Pu.c9, Pu.s1, Pu.s2, Pu.s3, Pu.s4, Pu.s5, Pu.s6, Pu.s7, Pu.s8, Pu.s9, Int.reduceEq, Nat.reduceMul, Int.ofNat_eq_natCast, wipeE, restE, exists_eq_left', Option.some.injEq, Out.ok.injEq, Prod.mk.injEq, Option.bind_some, Option.bind_none, Option.bind_eq_bind, List.getElem?_cons_zero, List.getElem?_cons_succ, List.getElem?_nil, List.set_cons_zero, List.set_cons_succ, List.set_nil, List.length_cons, List.length_nil, List.replicate_succ, List.replicate_zero, List.cons_append, List.nil_append, List.append_nil, List.all_cons, List.all_nil, Bool.and_true, Bool.true_and, Bool.and_false, Bool.false_and, if_true, if_false, ite_true, ite_false, List.nodup_cons, List.nodup_nil, List.not_mem_nil, List.mem_cons, not_false_eq_true, and_true, true_and, reduceIte, Nat.reduceAdd, Nat.reduceSub, Nat.reduceEqDiff, Nat.reduceLT, Nat.reduceLeDiff, Option.map_some, Option.map_none, Option.getD_some, reduceCtorEq, or_self, or_false, false_or, not_true_eq_false, decide_true, decide_false, Bool.not_true, Bool.not_false, Bool.false_eq_true, Nat.zero_add, Nat.add_zero, forall_const, Int.reduceLT, Int.reduceLE, Int.reduceNeg, Int.reduceToNat, Int.toNat_natCast, and_self, isBk]
  | _ => rfl
theorem check_book_ok (t : T) (hf : fewK t = true) (h : isBk t = true) : m_check_book [.v t] = .ok (.r .none) [.v t] := by
  simp only [m_check_book, b_check_book, is_book_ok t hf, h, eMut, gAppend, gInsert, eRev, eIndex, eLenSet, gInt, gLen, gTuple, gList, gAbs, gMax2, gMin2, gDivmod, gEq_int, runFn, sSeq, sIf, sSet, sSetIx, sRet, sRetN, sNil, sDrop, sAsg, sFor, sPar, sNever, setO, retO, setOs, presc, eVar, eK, eTwo, v2, eFn, eDisp, eTup, eLst, eCall, eCallR, eCallK, pick, toSl, toSls, sIdx, wb, bk, esc, escs, vals, aNil, aCons, tb, Ev.tNot, Ev.tAnd, Ev.tOr, gGt, gLt, gGe, gLe, gSub, gMod, gDiv, gPow, gAdd, gMul, gInt, mulOk, g1, g2, fInt, fLen, fTuple, fList, fAbs, eAnd, eOr, eNot, eIf, eNeg, eIsi, gII, gIx, gIsN, gN, gT, gsNil, gsCons, isLent_eq, lentO, lentS_v, lentS_un, lentS_f, lentS_t, lentS_z, finE, okArg, Out.bind, Od.val, slVal, Bx.tr, Bx.t, isN, L2.ixN, L2.atI, isInt, isBool, isTuple, isList, isStr, isDict, isTL, Nat.zero_le, id_eq, eq_self, Pu.c0, Pu.c1, Pu.c2, Pu.c3, Pu.c4, Pu.c5, Pu.c6, Pu.c7, Pu.c8, Pu.c9, Pu.s1, Pu.s2, Pu.s3, Pu.s4, Pu.s5, Pu.s6, Pu.s7, Pu.s8, Pu.s9, Int.reduceEq, Nat.reduceMul, Int.ofNat_eq_natCast, wipeE, restE, exists_eq_left', Option.some.injEq, Out.ok.injEq, Prod.mk.injEq, Option.bind_some, Option.bind_none, Option.bind_eq_bind, List.getElem?_cons_zero, List.getElem?_cons_succ, List.getElem?_nil, List.set_cons_zero, List.set_cons_succ, List.set_nil, List.length_cons, List.length_nil, List.replicate_succ, List.replicate_zero, List.cons_append, List.nil_append, List.append_nil, List.all_cons, List.all_nil, Bool.and_true, Bool.true_and, Bool.and_false, Bool.false_and, if_true, if_false, ite_true, ite_false, List.nodup_cons, List.nodup_nil, List.not_mem_nil, List.mem_cons, not_false_eq_true, and_true, true_and, reduceIte, Nat.reduceAdd, Nat.reduceSub, Nat.reduceEqDiff, Nat.reduceLT, Nat.reduceLeDiff, Option.map_some, Option.map_none, Option.getD_some, reduceCtorEq, or_self, or_false, false_or, not_true_eq_false, decide_true, decide_false, Bool.not_true, Bool.not_false, Bool.false_eq_true, Nat.zero_add, Nat.add_zero, forall_const, Int.reduceLT, Int.reduceLE, Int.reduceNeg, Int.reduceToNat, Int.toNat_natCast, and_self]
theorem check_depth_ok (d : Int) (h : 0 ≤ d) : m_check_depth [.v (.int d)] = .ok (.r .none) [.v (.int d)] := by
  simp only [m_check_depth, b_check_depth, is_count_ok, isC, h, eMut, gAppend, gInsert, eRev, eIndex, eLenSet, gInt, gLen, gTuple, gList, gAbs, gMax2, gMin2, gDivmod, gEq_int, runFn, sSeq, sIf, sSet, sSetIx, sRet, sRetN, sNil, sDrop, sAsg, sFor, sPar, sNever, setO, retO, setOs, presc, eVar, eK, eTwo, v2, eFn, eDisp, eTup, eLst, eCall, eCallR, eCallK, pick, toSl, toSls, sIdx, wb, bk, esc, escs, vals, aNil, aCons, tb, Ev.tNot, Ev.tAnd, Ev.tOr, gGt, gLt, gGe, gLe, gSub, gMod, gDiv, gPow, gAdd, gMul, gInt, mulOk, g1, g2, fInt, fLen, fTuple, fList, fAbs, eAnd, eOr, eNot, eIf, eNeg, eIsi, gII, gIx, gIsN, gN, gT, gsNil, gsCons, isLent_eq, lentO, lentS_v, lentS_un, lentS_f, lentS_t, lentS_z, finE, okArg, Out.bind, Od.val, slVal, Bx.tr, Bx.t, isN, L2.ixN, L2.atI, isInt, isBool, isTuple, isList, isStr, isDict, isTL, Nat.zero_le, id_eq, eq_self, Pu.c0, Pu.c1, Pu.c2, Pu.c3, Pu.c4, Pu.c5, Pu.c6, Pu.c7, Pu.c8, Pu.c9, Pu.s1, Pu.s2, Pu.s3, Pu.s4, Pu.s5, Pu.s6, Pu.s7, Pu.s8, Pu.s9, Int.reduceEq, Nat.reduceMul, Int.ofNat_eq_natCast, wipeE, restE, exists_eq_left', Option.some.injEq, Out.ok.injEq, Prod.mk.injEq, Option.bind_some, Option.bind_none, Option.bind_eq_bind, List.getElem?_cons_zero, List.getElem?_cons_succ, List.getElem?_nil, List.set_cons_zero, List.set_cons_succ, List.set_nil, List.length_cons, List.length_nil, List.replicate_succ, List.replicate_zero, List.cons_append, List.nil_append, List.append_nil, List.all_cons, List.all_nil, Bool.and_true, Bool.true_and, Bool.and_false, Bool.false_and, if_true, if_false, ite_true, ite_false, List.nodup_cons, List.nodup_nil, List.not_mem_nil, List.mem_cons, not_false_eq_true, and_true, true_and, reduceIte, Nat.reduceAdd, Nat.reduceSub, Nat.reduceEqDiff, Nat.reduceLT, Nat.reduceLeDiff, Option.map_some, Option.map_none, Option.getD_some, reduceCtorEq, or_self, or_false, false_or, not_true_eq_false, decide_true, decide_false, Bool.not_true, Bool.not_false, Bool.false_eq_true, Nat.zero_add, Nat.add_zero, forall_const, Int.reduceLT, Int.reduceLE, Int.reduceNeg, Int.reduceToNat, Int.toNat_natCast, and_self]
/-- a cell in a posture -/
def pz1 (w : Int) (c : Int × Int) : Int × Int := (w - 1 - c.2, c.1)
def pz (w : Int) (way mir : Nat) (c : Int × Int) : Int × Int :=
  let d := (match way with | 0 => c | 1 => pz1 w c | 2 => pz1 w (pz1 w c) | _ => pz1 w (pz1 w (pz1 w c)))
  match mir with | 0 => d | _ => (d.2, d.1)
def cT (c : Int × Int) : T := .tuple [.int c.1, .int c.2]
def poT (way mir : Nat) : T := .tuple [.int way, .int mir]
theorem intsT_0 : intsT 0 0 = [] := rfl
theorem intsT_1 : intsT 0 1 = [.int 0] := rfl
theorem intsT_2 : intsT 0 2 = [.int 0, .int 1] := rfl
theorem intsT_3 : intsT 0 3 = [.int 0, .int 1, .int 2] := rfl
theorem turn_lp (w x y : Int) (p c t : T) : (gN 5 t [.v (.int w), .v c, .v p, .v (.int x), .v (.int y), .un]) = some [.v (.int w), .v c, .v p, .v (.int x), .v (.int y), .v t] ∧ (∀ u, gN 5 t [.v (.int w), .v c, .v p, .v (.int x), .v (.int y), .v u] = some [.v (.int w), .v c, .v p, .v (.int x), .v (.int y), .v t]) ∧ y1__law_posed [.v (.int w), .v c, .v p, .v (.int x), .v (.int y), .v t] = .ok .nx [.v (.int w), .v c, .v p, .v (.int (w - 1 - y)), .v (.int x), .v t] := ⟨rfl, fun _ => rfl, by simp only [y1__law_posed, eMut, gAppend, gInsert, eRev, eIndex, eLenSet, gInt, gLen, gTuple, gList, gAbs, gMax2, gMin2, gDivmod, gEq_int, runFn, sSeq, sIf, sSet, sSetIx, sRet, sRetN, sNil, sDrop, sAsg, sFor, sPar, sNever, setO, retO, setOs, presc, eVar, eK, eTwo, v2, eFn, eDisp, eTup, eLst, eCall, eCallR, eCallK, pick, toSl, toSls, sIdx, wb, bk, esc, escs, vals, aNil, aCons, tb, Ev.tNot, Ev.tAnd, Ev.tOr, gGt, gLt, gGe, gLe, gSub, gMod, gDiv, gPow, gAdd, gMul, gInt, mulOk, g1, g2, fInt, fLen, fTuple, fList, fAbs, eAnd, eOr, eNot, eIf, eNeg, eIsi, gII, gIx, gIsN, gN, gT, gsNil, gsCons, isLent_eq, lentO, lentS_v, lentS_un, lentS_f, lentS_t, lentS_z, finE, okArg, Out.bind, Od.val, slVal, Bx.tr, Bx.t, isN, L2.ixN, L2.atI, isInt, isBool, isTuple, isList, isStr, isDict, isTL, Nat.zero_le, id_eq, eq_self, Pu.c0, Pu.c1, Pu.c2, Pu.c3, Pu.c4, Pu.c5, Pu.c6, Pu.c7, Pu.c8, Pu.c9, Pu.s1, Pu.s2, Pu.s3, Pu.s4, Pu.s5, Pu.s6, Pu.s7, Pu.s8, Pu.s9, Int.reduceEq, Nat.reduceMul, Int.ofNat_eq_natCast, wipeE, restE, exists_eq_left', Option.some.injEq, Out.ok.injEq, Prod.mk.injEq, Option.bind_some, Option.bind_none, Option.bind_eq_bind, List.getElem?_cons_zero, List.getElem?_cons_succ, List.getElem?_nil, List.set_cons_zero, List.set_cons_succ, List.set_nil, List.length_cons, List.length_nil, List.replicate_succ, List.replicate_zero, List.cons_append, List.nil_append, List.append_nil, List.all_cons, List.all_nil, Bool.and_true, Bool.true_and, Bool.and_false, Bool.false_and, if_true, if_false, ite_true, ite_false, List.nodup_cons, List.nodup_nil, List.not_mem_nil, List.mem_cons, not_false_eq_true, and_true, true_and, reduceIte, Nat.reduceAdd, Nat.reduceSub, Nat.reduceEqDiff, Nat.reduceLT, Nat.reduceLeDiff, Option.map_some, Option.map_none, Option.getD_some, reduceCtorEq, or_self, or_false, false_or, not_true_eq_false, decide_true, decide_false, Bool.not_true, Bool.not_false, Bool.false_eq_true, Nat.zero_add, Nat.add_zero, forall_const, Int.reduceLT, Int.reduceLE, Int.reduceNeg, Int.reduceToNat, Int.toNat_natCast, and_self]⟩
theorem law_posed_ok (w : Int) (way mir : Nat) (c : Int × Int) (h : way < 4) (h2 : mir < 2) : m__law_posed [.v (.int w), .v (cT c), .v (poT way mir)] = .ok (.r (cT (pz w way mir c))) [.v (.int w), .v (cT c), .v (poT way mir)] := by
  obtain ⟨x, y⟩ := c
  have hw : way = 0 ∨ way = 1 ∨ way = 2 ∨ way = 3 := by omega
  have hm : mir = 0 ∨ mir = 1 := by omega
  rcases hw with rfl | rfl | rfl | rfl <;> rcases hm with rfl | rfl <;>
    simp (config := {decide := true}) only [m__law_posed, b__law_posed, l1__law_posed, forS, turn_lp, intsT_0, intsT_1, intsT_2, intsT_3, iR1, poT, cT, pz, pz1, eMut, gAppend, gInsert, eRev, eIndex, eLenSet, gInt, gLen, gTuple, gList, gAbs, gMax2, gMin2, gDivmod, gEq_int, runFn, sSeq, sIf, sSet, sSetIx, sRet, sRetN, sNil, sDrop, sAsg, sFor, sPar, sNever, setO, retO, setOs, presc, eVar, eK, eTwo, v2, eFn, eDisp, eTup, eLst, eCall, eCallR, eCallK, pick, toSl, toSls, sIdx, wb, bk, esc, escs, vals, aNil, aCons, tb, Ev.tNot, Ev.tAnd, Ev.tOr, gGt, gLt, gGe, gLe, gSub, gMod, gDiv, gPow, gAdd, gMul, gInt, mulOk, g1, g2, fInt, fLen, fTuple, fList, fAbs, eAnd, eOr, eNot, eIf, eNeg, eIsi, gII, gIx, gIsN, gN, gT, gsNil, gsCons, isLent_eq, lentO, lentS_v, lentS_un, lentS_f, lentS_t, lentS_z, finE, okArg, Out.bind, Od.val, slVal, Bx.tr, Bx.t, isN, L2.ixN, L2.atI, isInt, isBool, isTuple, isList, isStr, isDict, isTL, Nat.zero_le, id_eq, eq_self, Pu.c0, Pu.c1, Pu.c2, Pu.c3, Pu.c4, Pu.c5, Pu.c6, Pu.c7, Pu.c8, Pu.c9, Pu.s1, Pu.s2, Pu.s3, Pu.s4, Pu.s5, Pu.s6, Pu.s7, Pu.s8, Pu.s9, Int.reduceEq, Nat.reduceMul, Int.ofNat_eq_natCast, wipeE, restE, exists_eq_left', Option.some.injEq, Out.ok.injEq, Prod.mk.injEq, Option.bind_some, Option.bind_none, Option.bind_eq_bind, List.getElem?_cons_zero, List.getElem?_cons_succ, List.getElem?_nil, List.set_cons_zero, List.set_cons_succ, List.set_nil, List.length_cons, List.length_nil, List.replicate_succ, List.replicate_zero, List.cons_append, List.nil_append, List.append_nil, List.all_cons, List.all_nil, Bool.and_true, Bool.true_and, Bool.and_false, Bool.false_and, if_true, if_false, ite_true, ite_false, List.nodup_cons, List.nodup_nil, List.not_mem_nil, List.mem_cons, not_false_eq_true, and_true, true_and, reduceIte, Nat.reduceAdd, Nat.reduceSub, Nat.reduceEqDiff, Nat.reduceLT, Nat.reduceLeDiff, Option.map_some, Option.map_none, Option.getD_some, reduceCtorEq, or_self, or_false, false_or, not_true_eq_false, decide_true, decide_false, Bool.not_true, Bool.not_false, Bool.false_eq_true, Nat.zero_add, Nat.add_zero, forall_const, Int.reduceLT, Int.reduceLE, Int.reduceNeg, Int.reduceToNat, Int.toNat_natCast, and_self]
end Lw

set_option linter.all false
set_option maxRecDepth 100000
set_option maxHeartbeats 4000000
namespace Lw
open PySem PySem.Spec Ev Pu
theorem log2_small {i : Int} {k : Nat} (h : i.natAbs < 2 ^ k) (hk : 0 < k) : i.natAbs.log2 < k := by
  rcases Nat.eq_zero_or_pos i.natAbs with z | z
  · rw [z]; exact hk
  · exact (Nat.log2_lt (by omega)).mpr h
theorem pow_small {b : Int} (h0 : 0 ≤ b) (h1 : b ≤ 16) (k : Nat) (hk : k ≤ 200) : (b ^ k).natAbs.log2 < 801 := by
  refine log2_small ?_ (by omega)
  rw [Int.natAbs_pow]
  have : b.natAbs ^ k ≤ 16 ^ k := Nat.pow_le_pow_left (by omega) k
  have h2 : (16 : Nat) ^ k = 2 ^ (4 * k) := by rw [Nat.pow_mul]
  have h3 : 2 ^ (4 * k) < 2 ^ 801 := Nat.pow_lt_pow_right (by decide) (by omega)
  rw [h2] at this
  exact Nat.lt_of_le_of_lt this h3
theorem pw_st (y : SemS) (tB tN t1 tz : T) (l3 : Sl) (h : y [.v tB, .v tN, .v t1, .un] = .ok .nx [.v tB, .v tN, .v tz, l3]) : runFn 4 (sSeq (sSet 2 (eK t1)) (sSeq y (sRet (eVar 2)))) [.v tB, .v tN] = .ok (.r tz) [.v tB, .v tN] := by
  simp only [h, eMut, gAppend, gInsert, eRev, eIndex, eLenSet, gInt, gLen, gTuple, gList, gAbs, gMax2, gMin2, gDivmod, gEq_int, runFn, sSeq, sIf, sSet, sSetIx, sRet, sRetN, sNil, sDrop, sAsg, sFor, sPar, sNever, setO, retO, setOs, presc, eVar, eK, eTwo, v2, eFn, eDisp, eTup, eLst, eCall, eCallR, eCallK, pick, toSl, toSls, sIdx, wb, bk, esc, escs, vals, aNil, aCons, tb, Ev.tNot, Ev.tAnd, Ev.tOr, gGt, gLt, gGe, gLe, gSub, gMod, gDiv, gPow, gAdd, gMul, gInt, mulOk, g1, g2, fInt, fLen, fTuple, fList, fAbs, eAnd, eOr, eNot, eIf, eNeg, eIsi, gII, gIx, gIsN, gN, gT, gsNil, gsCons, isLent_eq, lentO, lentS_v, lentS_un, lentS_f, lentS_t, lentS_z, finE, okArg, Out.bind, Od.val, slVal, Bx.tr, Bx.t, isN, L2.ixN, L2.atI, isInt, isBool, isTuple, isList, isStr, isDict, isTL, Nat.zero_le, id_eq, eq_self, Pu.c0, Pu.c1, Pu.c2, Pu.c3, Pu.c4, Pu.c5, Pu.c6, Pu.c7, Pu.c8, Pu.c9, Pu.s1, Pu.s2, Pu.s3, Pu.s4, Pu.s5, Pu.s6, Pu.s7, Pu.s8, Pu.s9, Int.reduceEq, Nat.reduceMul, Int.ofNat_eq_natCast, wipeE, restE, exists_eq_left', Option.some.injEq, Out.ok.injEq, Prod.mk.injEq, Option.bind_some, Option.bind_none, Option.bind_eq_bind, List.getElem?_cons_zero, List.getElem?_cons_succ, List.getElem?_nil, List.set_cons_zero, List.set_cons_succ, List.set_nil, List.length_cons, List.length_nil, List.replicate_succ, List.replicate_zero, List.cons_append, List.nil_append, List.append_nil, List.all_cons, List.all_nil, Bool.and_true, Bool.true_and, Bool.and_false, Bool.false_and, if_true, if_false, ite_true, ite_false, List.nodup_cons, List.nodup_nil, List.not_mem_nil, List.mem_cons, not_false_eq_true, and_true, true_and, reduceIte, Nat.reduceAdd, Nat.reduceSub, Nat.reduceEqDiff, Nat.reduceLT, Nat.reduceLeDiff, Option.map_some, Option.map_none, Option.getD_some, reduceCtorEq, or_self, or_false, false_or, not_true_eq_false, decide_true, decide_false, Bool.not_true, Bool.not_false, Bool.false_eq_true, Nat.zero_add, Nat.add_zero, forall_const, Int.reduceLT, Int.reduceLE, Int.reduceNeg, Int.reduceToNat, Int.toNat_natCast, and_self]
theorem power_ok (b : Int) (n : Nat) (h0 : 0 ≤ b) (h1 : b ≤ 16) (hn : n ≤ 200) : m_power [.v (.int b), .v (.int (n : Int))] = .ok (.r (.int (b ^ n))) [.v (.int b), .v (.int (n : Int))] := by
  have hb : b.natAbs.log2 < 5 := log2_small (by omega) (by omega)
  obtain ⟨e', h, l3, a3, rfl⟩ := for_on (g := gN 3) (b := y1_power) (fun (k : Nat) => PyData.int (0 + (k : Int))) (fun don e => ∃ l3, lentS l3 = false ∧ e = [.v (.int b), .v (.int (n : Int)), .v (.int (b ^ don.length)), l3]) 200 (List.range n) [] [.v (.int b), .v (.int (n : Int)), .v (.int (b ^ 0)), .un] ⟨_, rfl, rfl⟩ (by simpa using hn) fun k _ don e hd ⟨l3, a3, he⟩ => by
    subst he
    have h2 := pow_small h0 h1 don.length (by omega)
    have h3 : (b ^ don.length).natAbs.log2 + b.natAbs.log2 < 1000000 := by omega
    rw [List.length_append, List.length_singleton, Int.pow_succ]
    generalize b ^ don.length = z at h3 ⊢
    generalize don.length = dl
    refine ⟨[.v (.int b), .v (.int (n : Int)), .v (.int z), .v (.int (0 + (k : Int)))], by simp only [a3, eMut, gAppend, gInsert, eRev, eIndex, eLenSet, gInt, gLen, gTuple, gList, gAbs, gMax2, gMin2, gDivmod, gEq_int, runFn, sSeq, sIf, sSet, sSetIx, sRet, sRetN, sNil, sDrop, sAsg, sFor, sPar, sNever, setO, retO, setOs, presc, eVar, eK, eTwo, v2, eFn, eDisp, eTup, eLst, eCall, eCallR, eCallK, pick, toSl, toSls, sIdx, wb, bk, esc, escs, vals, aNil, aCons, tb, Ev.tNot, Ev.tAnd, Ev.tOr, gGt, gLt, gGe, gLe, gSub, gMod, gDiv, gPow, gAdd, gMul, gInt, mulOk, g1, g2, fInt, fLen, fTuple, fList, fAbs, eAnd, eOr, eNot, eIf, eNeg, eIsi, gII, gIx, gIsN, gN, gT, gsNil, gsCons, isLent_eq, lentO, lentS_v, lentS_un, lentS_f, lentS_t, lentS_z, finE, okArg, Out.bind, Od.val, slVal, Bx.tr, Bx.t, isN, L2.ixN, L2.atI, isInt, isBool, isTuple, isList, isStr, isDict, isTL, Nat.zero_le, id_eq, eq_self, Pu.c0, Pu.c1, Pu.c2, Pu.c3, Pu.c4, Pu.c5, Pu.c6, Pu.c7, Pu.c8, Pu.c9, Pu.s1, Pu.s2, Pu.s3, Pu.s4, Pu.s5, Pu.s6, Pu.s7, Pu.s8, Pu.s9, Int.reduceEq, Nat.reduceMul, Int.ofNat_eq_natCast, wipeE, restE, exists_eq_left', Option.some.injEq, Out.ok.injEq, Prod.mk.injEq, Option.bind_some, Option.bind_none, Option.bind_eq_bind, List.getElem?_cons_zero, List.getElem?_cons_succ, List.getElem?_nil, List.set_cons_zero, List.set_cons_succ, List.set_nil, List.length_cons, List.length_nil, List.replicate_succ, List.replicate_zero, List.cons_append, List.nil_append, List.append_nil, List.all_cons, List.all_nil, Bool.and_true, Bool.true_and, Bool.and_false, Bool.false_and, if_true, if_false, ite_true, ite_false, List.nodup_cons, List.nodup_nil, List.not_mem_nil, List.mem_cons, not_false_eq_true, and_true, true_and, reduceIte, Nat.reduceAdd, Nat.reduceSub, Nat.reduceEqDiff, Nat.reduceLT, Nat.reduceLeDiff, Option.map_some, Option.map_none, Option.getD_some, reduceCtorEq, or_self, or_false, false_or, not_true_eq_false, decide_true, decide_false, Bool.not_true, Bool.not_false, Bool.false_eq_true, Nat.zero_add, Nat.add_zero, forall_const, Int.reduceLT, Int.reduceLE, Int.reduceNeg, Int.reduceToNat, Int.toNat_natCast, and_self], [.v (.int b), .v (.int (n : Int)), .v (.int (z * b)), .v (.int (0 + (k : Int)))], .inl ?_, _, rfl, rfl⟩
    unfold y1_power
    simp only [h3, eMut, gAppend, gInsert, eRev, eIndex, eLenSet, gInt, gLen, gTuple, gList, gAbs, gMax2, gMin2, gDivmod, gEq_int, runFn, sSeq, sIf, sSet, sSetIx, sRet, sRetN, sNil, sDrop, sAsg, sFor, sPar, sNever, setO, retO, setOs, presc, eVar, eK, eTwo, v2, eFn, eDisp, eTup, eLst, eCall, eCallR, eCallK, pick, toSl, toSls, sIdx, wb, bk, esc, escs, vals, aNil, aCons, tb, Ev.tNot, Ev.tAnd, Ev.tOr, gGt, gLt, gGe, gLe, gSub, gMod, gDiv, gPow, gAdd, gMul, gInt, mulOk, g1, g2, fInt, fLen, fTuple, fList, fAbs, eAnd, eOr, eNot, eIf, eNeg, eIsi, gII, gIx, gIsN, gN, gT, gsNil, gsCons, isLent_eq, lentO, lentS_v, lentS_un, lentS_f, lentS_t, lentS_z, finE, okArg, Out.bind, Od.val, slVal, Bx.tr, Bx.t, isN, L2.ixN, L2.atI, isInt, isBool, isTuple, isList, isStr, isDict, isTL, Nat.zero_le, id_eq, eq_self, Pu.c0, Pu.c1, Pu.c2, Pu.c3, Pu.c4, Pu.c5, Pu.c6, Pu.c7, Pu.c8, Pu.c9, Pu.s1, Pu.s2, Pu.s3, Pu.s4, Pu.s5, Pu.s6, Pu.s7, Pu.s8, Pu.s9, Int.reduceEq, Nat.reduceMul, Int.ofNat_eq_natCast, wipeE, restE, exists_eq_left', Option.some.injEq, Out.ok.injEq, Prod.mk.injEq, Option.bind_some, Option.bind_none, Option.bind_eq_bind, List.getElem?_cons_zero, List.getElem?_cons_succ, List.getElem?_nil, List.set_cons_zero, List.set_cons_succ, List.set_nil, List.length_cons, List.length_nil, List.replicate_succ, List.replicate_zero, List.cons_append, List.nil_append, List.append_nil, List.all_cons, List.all_nil, Bool.and_true, Bool.true_and, Bool.and_false, Bool.false_and, if_true, if_false, ite_true, ite_false, List.nodup_cons, List.nodup_nil, List.not_mem_nil, List.mem_cons, not_false_eq_true, and_true, true_and, reduceIte, Nat.reduceAdd, Nat.reduceSub, Nat.reduceEqDiff, Nat.reduceLT, Nat.reduceLeDiff, Option.map_some, Option.map_none, Option.getD_some, reduceCtorEq, or_self, or_false, false_or, not_true_eq_false, decide_true, decide_false, Bool.not_true, Bool.not_false, Bool.false_eq_true, Nat.zero_add, Nat.add_zero, forall_const, Int.reduceLT, Int.reduceLE, Int.reduceNeg, Int.reduceToNat, Int.toNat_natCast, and_self]
  rw [List.nil_append, List.length_range, Int.pow_zero] at h
  have hl : l1_power [.v (.int b), .v (.int (n : Int)), .v (.int 1), .un] = .ok .nx [.v (.int b), .v (.int (n : Int)), .v (.int (b ^ n)), l3] := by
    have hi := iR1_nat (m := aCons (eVar 1) aNil) (e := [.v (.int b), .v (.int (n : Int)), .v (.int 1), .un]) (e1 := [.v (.int b), .v (.int (n : Int)), .v (.int 1), .un]) (rs := [.r (.int (n : Int))]) (n := n) rfl rfl (by omega)
    unfold l1_power
    rw [sFor_eq hi]
    exact h
  exact pw_st l1_power _ _ _ _ _ hl
/-- the digits of a number, the last first -/
def dgl (n b : Int) (k : Nat) : List Int := (List.range k).map fun j => n / b ^ j % b
theorem dgl_succ (n b : Int) (k : Nat) : dgl n b (k + 1) = dgl n b k ++ [n / b ^ k % b] := by
  unfold dgl; rw [List.range_succ, List.map_append, List.map_cons, List.map_nil]
theorem dd_div (n b : Int) (k : Nat) (h0 : 0 < b) : n / b ^ k / b = n / (b ^ k * b) := by
  rw [Int.ediv_ediv_of_nonneg (Int.pow_nonneg (by omega))]
theorem dg_st (y : SemS) (tB tN tK tZ : T) (acc : List T) (l4 l5 : Sl) (h : y [.v tN, .v tB, .v tK, .ow false (.l []), .un, .un] = .ok .nx [.v tZ, .v tB, .v tK, .ow false (.l acc), l4, l5]) : runFn 6 (sSeq (sSet 3 (eLst aNil)) (sSeq y (sRet (eRev (eVar 3))))) [.v tN, .v tB, .v tK] = .ok (.b (.l acc.reverse)) [.v tN, .v tB, .v tK] := by
  simp only [h, eMut, gAppend, gInsert, eRev, eIndex, eLenSet, gInt, gLen, gTuple, gList, gAbs, gMax2, gMin2, gDivmod, gEq_int, runFn, sSeq, sIf, sSet, sSetIx, sRet, sRetN, sNil, sDrop, sAsg, sFor, sPar, sNever, setO, retO, setOs, presc, eVar, eK, eTwo, v2, eFn, eDisp, eTup, eLst, eCall, eCallR, eCallK, pick, toSl, toSls, sIdx, wb, bk, esc, escs, vals, aNil, aCons, tb, Ev.tNot, Ev.tAnd, Ev.tOr, gGt, gLt, gGe, gLe, gSub, gMod, gDiv, gPow, gAdd, gMul, gInt, mulOk, g1, g2, fInt, fLen, fTuple, fList, fAbs, eAnd, eOr, eNot, eIf, eNeg, eIsi, gII, gIx, gIsN, gN, gT, gsNil, gsCons, isLent_eq, lentO, lentS_v, lentS_un, lentS_f, lentS_t, lentS_z, finE, okArg, Out.bind, Od.val, slVal, Bx.tr, Bx.t, isN, L2.ixN, L2.atI, isInt, isBool, isTuple, isList, isStr, isDict, isTL, Nat.zero_le, id_eq, eq_self, Pu.c0, Pu.c1, Pu.c2, Pu.c3, Pu.c4, Pu.c5, Pu.c6, Pu.c7, Pu.c8, Pu.c9, Pu.s1, Pu.s2, Pu.s3, Pu.s4, Pu.s5, Pu.s6, Pu.s7, Pu.s8, Pu.s9, Int.reduceEq, Nat.reduceMul, Int.ofNat_eq_natCast, wipeE, restE, exists_eq_left', Option.some.injEq, Out.ok.injEq, Prod.mk.injEq, Option.bind_some, Option.bind_none, Option.bind_eq_bind, List.getElem?_cons_zero, List.getElem?_cons_succ, List.getElem?_nil, List.set_cons_zero, List.set_cons_succ, List.set_nil, List.length_cons, List.length_nil, List.replicate_succ, List.replicate_zero, List.cons_append, List.nil_append, List.append_nil, List.all_cons, List.all_nil, Bool.and_true, Bool.true_and, Bool.and_false, Bool.false_and, if_true, if_false, ite_true, ite_false, List.nodup_cons, List.nodup_nil, List.not_mem_nil, List.mem_cons, not_false_eq_true, and_true, true_and, reduceIte, Nat.reduceAdd, Nat.reduceSub, Nat.reduceEqDiff, Nat.reduceLT, Nat.reduceLeDiff, Option.map_some, Option.map_none, Option.getD_some, reduceCtorEq, or_self, or_false, false_or, not_true_eq_false, decide_true, decide_false, Bool.not_true, Bool.not_false, Bool.false_eq_true, Nat.zero_add, Nat.add_zero, forall_const, Int.reduceLT, Int.reduceLE, Int.reduceNeg, Int.reduceToNat, Int.toNat_natCast, and_self]
theorem digits_ok (n b : Int) (k : Nat) (h0 : 0 < b) (h1 : b ≤ 16) (hk : k ≤ 200) : m_digits_of [.v (.int n), .v (.int b), .v (.int (k : Int))] = .ok (.b (.l ((dgl n b k).map .int).reverse)) [.v (.int n), .v (.int b), .v (.int (k : Int))] := by
  obtain ⟨e', h, l4, l5, ⟨a4, a5⟩, rfl⟩ := for_on (g := gN 4) (b := y1_digits_of) (fun (k : Nat) => PyData.int (0 + (k : Int))) (fun don e => ∃ l4 l5, (lentS l4 = false ∧ lentS l5 = false) ∧ e = [.v (.int (n / b ^ don.length)), .v (.int b), .v (.int (k : Int)), .ow false (.l ((dgl n b don.length).map .int)), l4, l5]) 200 (List.range k) [] [.v (.int n), .v (.int b), .v (.int (k : Int)), .ow false (.l []), .un, .un] ⟨_, _, ⟨rfl, rfl⟩, by rw [List.length_nil, Int.pow_zero, Int.ediv_one]; rfl⟩ (by simpa using hk) fun j _ don e hd ⟨l4, l5, ⟨a4, a5⟩, he⟩ => by
    subst he
    have hc : ((dgl n b don.length).map PyData.int).length < sizeLine := by simp only [dgl, List.length_map, List.length_range]; unfold sizeLine; omega
    have hq : 0 < b ∧ b < 1073741824 := by omega
    rw [List.length_append, List.length_singleton, dgl_succ, Int.pow_succ, ← dd_div n b don.length h0, List.map_append, List.map_cons, List.map_nil]
    generalize (dgl n b don.length).map PyData.int = acc at hc ⊢
    generalize n / b ^ don.length = z
    refine ⟨[.v (.int z), .v (.int b), .v (.int (k : Int)), .ow false (.l acc), .v (.int (0 + (j : Int))), l5], by simp only [a4, eMut, gAppend, gInsert, eRev, eIndex, eLenSet, gInt, gLen, gTuple, gList, gAbs, gMax2, gMin2, gDivmod, gEq_int, runFn, sSeq, sIf, sSet, sSetIx, sRet, sRetN, sNil, sDrop, sAsg, sFor, sPar, sNever, setO, retO, setOs, presc, eVar, eK, eTwo, v2, eFn, eDisp, eTup, eLst, eCall, eCallR, eCallK, pick, toSl, toSls, sIdx, wb, bk, esc, escs, vals, aNil, aCons, tb, Ev.tNot, Ev.tAnd, Ev.tOr, gGt, gLt, gGe, gLe, gSub, gMod, gDiv, gPow, gAdd, gMul, gInt, mulOk, g1, g2, fInt, fLen, fTuple, fList, fAbs, eAnd, eOr, eNot, eIf, eNeg, eIsi, gII, gIx, gIsN, gN, gT, gsNil, gsCons, isLent_eq, lentO, lentS_v, lentS_un, lentS_f, lentS_t, lentS_z, finE, okArg, Out.bind, Od.val, slVal, Bx.tr, Bx.t, isN, L2.ixN, L2.atI, isInt, isBool, isTuple, isList, isStr, isDict, isTL, Nat.zero_le, id_eq, eq_self, Pu.c0, Pu.c1, Pu.c2, Pu.c3, Pu.c4, Pu.c5, Pu.c6, Pu.c7, Pu.c8, Pu.c9, Pu.s1, Pu.s2, Pu.s3, Pu.s4, Pu.s5, Pu.s6, Pu.s7, Pu.s8, Pu.s9, Int.reduceEq, Nat.reduceMul, Int.ofNat_eq_natCast, wipeE, restE, exists_eq_left', Option.some.injEq, Out.ok.injEq, Prod.mk.injEq, Option.bind_some, Option.bind_none, Option.bind_eq_bind, List.getElem?_cons_zero, List.getElem?_cons_succ, List.getElem?_nil, List.set_cons_zero, List.set_cons_succ, List.set_nil, List.length_cons, List.length_nil, List.replicate_succ, List.replicate_zero, List.cons_append, List.nil_append, List.append_nil, List.all_cons, List.all_nil, Bool.and_true, Bool.true_and, Bool.and_false, Bool.false_and, if_true, if_false, ite_true, ite_false, List.nodup_cons, List.nodup_nil, List.not_mem_nil, List.mem_cons, not_false_eq_true, and_true, true_and, reduceIte, Nat.reduceAdd, Nat.reduceSub, Nat.reduceEqDiff, Nat.reduceLT, Nat.reduceLeDiff, Option.map_some, Option.map_none, Option.getD_some, reduceCtorEq, or_self, or_false, false_or, not_true_eq_false, decide_true, decide_false, Bool.not_true, Bool.not_false, Bool.false_eq_true, Nat.zero_add, Nat.add_zero, forall_const, Int.reduceLT, Int.reduceLE, Int.reduceNeg, Int.reduceToNat, Int.toNat_natCast, and_self], [.v (.int (z / b)), .v (.int b), .v (.int (k : Int)), .ow false (.l (acc ++ [.int (z % b)])), .v (.int (0 + (j : Int))), .v (.int (z % b))], .inl ?_, _, _, ⟨rfl, rfl⟩, rfl⟩
    unfold y1_digits_of
    simp only [hc, hq, a5, eMut, gAppend, gInsert, eRev, eIndex, eLenSet, gInt, gLen, gTuple, gList, gAbs, gMax2, gMin2, gDivmod, gEq_int, runFn, sSeq, sIf, sSet, sSetIx, sRet, sRetN, sNil, sDrop, sAsg, sFor, sPar, sNever, setO, retO, setOs, presc, eVar, eK, eTwo, v2, eFn, eDisp, eTup, eLst, eCall, eCallR, eCallK, pick, toSl, toSls, sIdx, wb, bk, esc, escs, vals, aNil, aCons, tb, Ev.tNot, Ev.tAnd, Ev.tOr, gGt, gLt, gGe, gLe, gSub, gMod, gDiv, gPow, gAdd, gMul, gInt, mulOk, g1, g2, fInt, fLen, fTuple, fList, fAbs, eAnd, eOr, eNot, eIf, eNeg, eIsi, gII, gIx, gIsN, gN, gT, gsNil, gsCons, isLent_eq, lentO, lentS_v, lentS_un, lentS_f, lentS_t, lentS_z, finE, okArg, Out.bind, Od.val, slVal, Bx.tr, Bx.t, isN, L2.ixN, L2.atI, isInt, isBool, isTuple, isList, isStr, isDict, isTL, Nat.zero_le, id_eq, eq_self, Pu.c0, Pu.c1, Pu.c2, Pu.c3, Pu.c4, Pu.c5, Pu.c6, Pu.c7, Pu.c8, Pu.c9, Pu.s1, Pu.s2, Pu.s3, Pu.s4, Pu.s5, Pu.s6, Pu.s7, Pu.s8, Pu.s9, Int.reduceEq, Nat.reduceMul, Int.ofNat_eq_natCast, wipeE, restE, exists_eq_left', Option.some.injEq, Out.ok.injEq, Prod.mk.injEq, Option.bind_some, Option.bind_none, Option.bind_eq_bind, List.getElem?_cons_zero, List.getElem?_cons_succ, List.getElem?_nil, List.set_cons_zero, List.set_cons_succ, List.set_nil, List.length_cons, List.length_nil, List.replicate_succ, List.replicate_zero, List.cons_append, List.nil_append, List.append_nil, List.all_cons, List.all_nil, Bool.and_true, Bool.true_and, Bool.and_false, Bool.false_and, if_true, if_false, ite_true, ite_false, List.nodup_cons, List.nodup_nil, List.not_mem_nil, List.mem_cons, not_false_eq_true, and_true, true_and, reduceIte, Nat.reduceAdd, Nat.reduceSub, Nat.reduceEqDiff, Nat.reduceLT, Nat.reduceLeDiff, Option.map_some, Option.map_none, Option.getD_some, reduceCtorEq, or_self, or_false, false_or, not_true_eq_false, decide_true, decide_false, Bool.not_true, Bool.not_false, Bool.false_eq_true, Nat.zero_add, Nat.add_zero, forall_const, Int.reduceLT, Int.reduceLE, Int.reduceNeg, Int.reduceToNat, Int.toNat_natCast, and_self]
  rw [List.nil_append, List.length_range] at h
  have hl : l1_digits_of [.v (.int n), .v (.int b), .v (.int (k : Int)), .ow false (.l []), .un, .un] = .ok .nx [.v (.int (n / b ^ k)), .v (.int b), .v (.int (k : Int)), .ow false (.l ((dgl n b k).map .int)), l4, l5] := by
    have hi := iR1_nat (m := aCons (eVar 2) aNil) (e := [.v (.int n), .v (.int b), .v (.int (k : Int)), .ow false (.l []), .un, .un]) (e1 := [.v (.int n), .v (.int b), .v (.int (k : Int)), .ow false (.l []), .un, .un]) (rs := [.r (.int (k : Int))]) (n := k) rfl rfl (by omega)
    unfold l1_digits_of
    rw [sFor_eq hi]
    exact h
  exact dg_st l1_digits_of _ _ _ _ _ _ _ hl
end Lw

set_option linter.all false
set_option maxRecDepth 100000
set_option maxHeartbeats 4000000
namespace Lw
open PySem PySem.Spec Ev Pu Mt
/-! ### the program's cells -/
def ptT (p : Pt) : T := .tuple [.int p.1, .int p.2.1, .int (p.2.2 : Int)]
def kT (ps : List Pt) : T := .tuple (ps.map ptT)
def bkT (B : Nat) (ks : List (List Pt)) : T := .tuple [.int (B : Int), .tuple (ks.map kT)]
def nT (n : Nat) : T := .int (n : Int)
theorem get_ks {ks : List (List Pt)} {k : Nat} {ps : List Pt} (h : ks[k]? = some ps) : gIx (.tuple (ks.map kT)) (.int (k : Int)) = some (.r (kT ps)) := by
  have hk : k < ks.length := (List.getElem?_eq_some_iff.mp h).1
  obtain ⟨_, e⟩ := List.getElem?_eq_some_iff.mp h
  simp [gIx, L2.atI, L2.ixN, hk, List.getElem?_map, e]
theorem get_ps {ps : List Pt} {k : Nat} {p : Pt} (h : ps[k]? = some p) : gIx (kT ps) (.int (k : Int)) = some (.r (ptT p)) := by
  have hk : k < ps.length := (List.getElem?_eq_some_iff.mp h).1
  obtain ⟨_, e⟩ := List.getElem?_eq_some_iff.mp h
  simp [kT, gIx, L2.atI, L2.ixN, hk, List.getElem?_map, e]
theorem int_small {i : Int} {k : Nat} (h0 : 0 ≤ i) (h : i < 2 ^ k) (hk : 0 < k) : i.natAbs.log2 < k := by
  refine log2_small ?_ hk
  have e : (i.natAbs : Int) = i := Int.natAbs_of_nonneg h0
  have : (i.natAbs : Int) < ((2 ^ k : Nat) : Int) := by rw [e]; push_cast; exact h
  exact_mod_cast this
theorem run_bound {B : Nat} {ks : List (List Pt)} (g : Good B ks) : ∀ (ds : List Nat) (s : S3) (m : Nat), s.1 < ks.length → (∀ x ∈ ds, x < B * B) → 0 ≤ s.2.1 → s.2.1 < (B : Int) ^ m → 0 ≤ s.2.2 → s.2.2 < (B : Int) ^ m →
    (0 ≤ (run B ks s ds).2.1 ∧ (run B ks s ds).2.1 < (B : Int) ^ (m + ds.length)) ∧ (0 ≤ (run B ks s ds).2.2 ∧ (run B ks s ds).2.2 < (B : Int) ^ (m + ds.length))
  | [], s, m, _, _, a, b, c, d => ⟨⟨a, b⟩, c, d⟩
  | j :: ds, s, m, h, hd, a, b, c, d => by
    obtain ⟨⟨p1, p2⟩, ⟨p3, p4⟩, p5⟩ := g.prng h (hd j List.mem_cons_self)
    have st : ∀ x p : Int, 0 ≤ x → x < (B : Int) ^ m → 0 ≤ p → p < (B : Int) → 0 ≤ x * B + p ∧ x * B + p < (B : Int) ^ (m + 1) := by
      intro x p h1 h2 h3 h4
      have hB : (0 : Int) ≤ B := by omega
      refine ⟨Int.add_nonneg (Int.mul_nonneg h1 hB) h3, ?_⟩
      rw [Int.pow_succ]
      have h5 : (x + 1) * (B : Int) ≤ (B : Int) ^ m * B := Int.mul_le_mul_of_nonneg_right (by omega) hB
      rw [Int.add_mul, Int.one_mul] at h5
      omega
    have := run_bound g ds (stp B ks s j) (m + 1) p5 (fun x hx => hd x (List.mem_cons_of_mem _ hx)) (st _ _ a b p1 p2).1 (st _ _ a b p1 p2).2 (st _ _ c d p3 p4).1 (st _ _ c d p3 p4).2
    rw [run_cons, List.length_cons, show m + (ds.length + 1) = m + 1 + ds.length by omega]
    exact this
theorem pow_lt_two {B : Nat} (h : B = 2 ∨ B = 3) (n : Nat) : (B : Int) ^ n ≤ 2 ^ (2 * n) := by
  have h1 : B ^ n ≤ 2 ^ (2 * n) := by
    rw [Nat.pow_mul]
    exact Nat.pow_le_pow_left (by rcases h with h | h <;> omega) n
  exact_mod_cast h1
/-- the places so far are small -/
theorem run_small {B : Nat} {ks : List (List Pt)} (g : Good B ks) (ds : List Nat) (k : Nat) (hk : k < ks.length) (hd : ∀ x ∈ ds, x < B * B) (hl : ds.length ≤ 300) :
    (run B ks (k, 0, 0) ds).2.1.natAbs.log2 + (B : Int).natAbs.log2 < 1000000 ∧ (run B ks (k, 0, 0) ds).2.2.natAbs.log2 + (B : Int).natAbs.log2 < 1000000 := by
  have hb := run_bound g ds (k, 0, 0) 0 hk hd (Int.le_refl _) (by show (0 : Int) < (B : Int) ^ 0; rw [Int.pow_zero]; decide) (Int.le_refl _) (by show (0 : Int) < (B : Int) ^ 0; rw [Int.pow_zero]; decide)
  have h2 : (B : Int).natAbs.log2 < 10 := log2_small (by rcases g.hb with h | h <;> omega) (by decide)
  have h3 : (B : Int) ^ (0 + ds.length) ≤ 2 ^ 601 := Int.le_trans (pow_lt_two g.hb _) (by have h4 : (2 : Nat) ^ (2 * (0 + ds.length)) ≤ 2 ^ 601 := Nat.pow_le_pow_right (by decide) (by omega); exact_mod_cast h4)
  have a1 := int_small (k := 601) hb.1.1 (Int.lt_of_lt_of_le hb.1.2 h3) (by omega)
  have a2 := int_small (k := 601) hb.2.1 (Int.lt_of_lt_of_le hb.2.2 h3) (by omega)
  omega
theorem ck_y (t0 t2 t3 kds row : T) (b k x y dig px py pk : Int) (l9 l10 : Sl) (a9 : lentS l9 = false) (a10 : lentS l10 = false)
    (h1 : gIx kds (.int k) = some (.r row)) (h2 : gIx row (.int dig) = some (.r (.tuple [.int px, .int py, .int pk]))) (hx : x.natAbs.log2 + b.natAbs.log2 < 1000000) (hy : y.natAbs.log2 + b.natAbs.log2 < 1000000) :
    y1_cell_in_kind [.v t0, .v (.int k), .v t2, .v t3, .v (.int b), .v kds, .v (.int x), .v (.int y), .v (.int dig), l9, l10] = .ok .nx [.v t0, .v (.int pk), .v t2, .v t3, .v (.int b), .v kds, .v (.int (x * b + px)), .v (.int (y * b + py)), .v (.int dig), .v (.int px), .v (.int py)] := by
  unfold y1_cell_in_kind
  simp only [h1, h2, hx, hy, a9, a10, eMut, gAppend, gInsert, eRev, eIndex, eLenSet, gInt, gLen, gTuple, gList, gAbs, gMax2, gMin2, gDivmod, gEq_int, runFn, sSeq, sIf, sSet, sSetIx, sRet, sRetN, sNil, sDrop, sAsg, sFor, sPar, sNever, setO, retO, setOs, presc, eVar, eK, eTwo, v2, eFn, eDisp, eTup, eLst, eCall, eCallR, eCallK, pick, toSl, toSls, sIdx, wb, bk, esc, escs, vals, aNil, aCons, tb, Ev.tNot, Ev.tAnd, Ev.tOr, gGt, gLt, gGe, gLe, gSub, gMod, gDiv, gPow, gAdd, gMul, gInt, mulOk, g1, g2, fInt, fLen, fTuple, fList, fAbs, eAnd, eOr, eNot, eIf, eNeg, eIsi, gII, gIsN, gN, gT, gsNil, gsCons, isLent_eq, lentO, lentS_v, lentS_un, lentS_f, lentS_t, lentS_z, finE, okArg, Out.bind, Od.val, slVal, Bx.tr, Bx.t, isN, L2.ixN, L2.atI, isInt, isBool, isTuple, isList, isStr, isDict, isTL, Nat.zero_le, id_eq, eq_self, Pu.c0, Pu.c1, Pu.c2, Pu.c3, Pu.c4, Pu.c5, Pu.c6, Pu.c7, Pu.c8, Pu.c9, Pu.s1, Pu.s2, Pu.s3, Pu.s4, Pu.s5, Pu.s6, Pu.s7, Pu.s8, Pu.s9, Int.reduceEq, Nat.reduceMul, Int.ofNat_eq_natCast, wipeE, restE, exists_eq_left', Option.some.injEq, Out.ok.injEq, Prod.mk.injEq, Option.bind_some, Option.bind_none, Option.bind_eq_bind, List.getElem?_cons_zero, List.getElem?_cons_succ, List.getElem?_nil, List.set_cons_zero, List.set_cons_succ, List.set_nil, List.length_cons, List.length_nil, List.replicate_succ, List.replicate_zero, List.cons_append, List.nil_append, List.append_nil, List.all_cons, List.all_nil, Bool.and_true, Bool.true_and, Bool.and_false, Bool.false_and, if_true, if_false, ite_true, ite_false, List.nodup_cons, List.nodup_nil, List.not_mem_nil, List.mem_cons, not_false_eq_true, and_true, true_and, reduceIte, Nat.reduceAdd, Nat.reduceSub, Nat.reduceEqDiff, Nat.reduceLT, Nat.reduceLeDiff, Option.map_some, Option.map_none, Option.getD_some, reduceCtorEq, or_self, or_false, false_or, not_true_eq_false, decide_true, decide_false, Bool.not_true, Bool.not_false, Bool.false_eq_true, Nat.zero_add, Nat.add_zero, forall_const, Int.reduceLT, Int.reduceLE, Int.reduceNeg, Int.reduceToNat, Int.toNat_natCast, and_self]
theorem dgl_digs (n N : Nat) : ∀ d, ((dgl (n : Int) (N : Int) d).map PyData.int).reverse = (digs N n d).map nT
  | 0 => rfl
  | d + 1 => by
    rw [dgl_succ, List.map_append, List.reverse_append, dgl_digs n N d, digs]
    simp [nT]
theorem ck_st (y : SemS) (t0 t1 t2 t3 tb_ tk_ : T) (x z : Int) (l1 l8 l9 l10 : Sl)
    (h0 : t0 = .tuple [tb_, tk_])
    (h : y [.v t0, .v t1, .v t2, .v t3, .v tb_, .v tk_, .v (.int 0), .v (.int 0), .un, .un, .un] = .ok .nx [.v t0, l1, .v t2, .v t3, .v tb_, .v tk_, .v (.int x), .v (.int z), l8, l9, l10]) :
    runFn 11 (sSeq (sAsg (gT 2 (gsCons (gN 4) (gsCons (gN 5) gsNil))) (eVar 0)) (sSeq (sSet 6 (eK (.int 0))) (sSeq (sSet 7 (eK (.int 0))) (sSeq y (sRet (eTup (aCons (eVar 6) (aCons (eVar 7) aNil)))))))) [.v t0, .v t1, .v t2, .v t3] = .ok (.r (.tuple [.int x, .int z])) [.v t0, .v t1, .v t2, .v t3] := by
  subst h0
  simp only [h, eMut, gAppend, gInsert, eRev, eIndex, eLenSet, gInt, gLen, gTuple, gList, gAbs, gMax2, gMin2, gDivmod, gEq_int, runFn, sSeq, sIf, sSet, sSetIx, sRet, sRetN, sNil, sDrop, sAsg, sFor, sPar, sNever, setO, retO, setOs, presc, eVar, eK, eTwo, v2, eFn, eDisp, eTup, eLst, eCall, eCallR, eCallK, pick, toSl, toSls, sIdx, wb, bk, esc, escs, vals, aNil, aCons, tb, Ev.tNot, Ev.tAnd, Ev.tOr, gGt, gLt, gGe, gLe, gSub, gMod, gDiv, gPow, gAdd, gMul, gInt, mulOk, g1, g2, fInt, fLen, fTuple, fList, fAbs, eAnd, eOr, eNot, eIf, eNeg, eIsi, gII, gIx, gIsN, gN, gT, gsNil, gsCons, isLent_eq, lentO, lentS_v, lentS_un, lentS_f, lentS_t, lentS_z, finE, okArg, Out.bind, Od.val, slVal, Bx.tr, Bx.t, isN, L2.ixN, L2.atI, isInt, isBool, isTuple, isList, isStr, isDict, isTL, Nat.zero_le, id_eq, eq_self, Pu.c0, Pu.c1, Pu.c2, Pu.c3, Pu.c4, Pu.c5, Pu.c6, Pu.c7, Pu.c8, Pu.c9, Pu.s1, Pu.s2, Pu.s3, Pu.s4, Pu.s5, Pu.s6, Pu.s7, Pu.s8, Pu.s9, Int.reduceEq, Nat.reduceMul, Int.ofNat_eq_natCast, wipeE, restE, exists_eq_left', Option.some.injEq, Out.ok.injEq, Prod.mk.injEq, Option.bind_some, Option.bind_none, Option.bind_eq_bind, List.getElem?_cons_zero, List.getElem?_cons_succ, List.getElem?_nil, List.set_cons_zero, List.set_cons_succ, List.set_nil, List.length_cons, List.length_nil, List.replicate_succ, List.replicate_zero, List.cons_append, List.nil_append, List.append_nil, List.all_cons, List.all_nil, Bool.and_true, Bool.true_and, Bool.and_false, Bool.false_and, if_true, if_false, ite_true, ite_false, List.nodup_cons, List.nodup_nil, List.not_mem_nil, List.mem_cons, not_false_eq_true, and_true, true_and, reduceIte, Nat.reduceAdd, Nat.reduceSub, Nat.reduceEqDiff, Nat.reduceLT, Nat.reduceLeDiff, Option.map_some, Option.map_none, Option.getD_some, reduceCtorEq, or_self, or_false, false_or, not_true_eq_false, decide_true, decide_false, Bool.not_true, Bool.not_false, Bool.false_eq_true, Nat.zero_add, Nat.add_zero, forall_const, Int.reduceLT, Int.reduceLE, Int.reduceNeg, Int.reduceToNat, Int.toNat_natCast, and_self]
theorem ci_st (m : FSem) (ts : List T) (t0 t1 t2 t3 b tk_ tx ty : T) (bb : Int) (hb : b = .int bb) (hm : bb.natAbs.log2 + bb.natAbs.log2 < 1000000) (h : m [.v t3, .v (.int (bb * bb)), .v t2] = .ok (.b (.l ts)) [.v t3, .v (.int (bb * bb)), .v t2]) :
    iOf (eCall 3 m (aCons (eVar 3) (aCons (eOp2 gMul (eVar 4) (eVar 4)) (aCons (eVar 2) aNil)))) [.v t0, .v t1, .v t2, .v t3, .v b, .v tk_, .v tx, .v ty, .un, .un, .un] = .ok ts [.v t0, .v t1, .v t2, .v t3, .v b, .v tk_, .v tx, .v ty, .un, .un, .un] := by
  subst hb
  simp only [iOf, hm, h, eMut, gAppend, gInsert, eRev, eIndex, eLenSet, gInt, gLen, gTuple, gList, gAbs, gMax2, gMin2, gDivmod, gEq_int, runFn, sSeq, sIf, sSet, sSetIx, sRet, sRetN, sNil, sDrop, sAsg, sFor, sPar, sNever, setO, retO, setOs, presc, eVar, eK, eTwo, v2, eFn, eDisp, eTup, eLst, eCall, eCallR, eCallK, pick, toSl, toSls, sIdx, wb, bk, esc, escs, vals, aNil, aCons, tb, Ev.tNot, Ev.tAnd, Ev.tOr, gGt, gLt, gGe, gLe, gSub, gMod, gDiv, gPow, gAdd, gMul, gInt, mulOk, g1, g2, fInt, fLen, fTuple, fList, fAbs, eAnd, eOr, eNot, eIf, eNeg, eIsi, gII, gIx, gIsN, gN, gT, gsNil, gsCons, isLent_eq, lentO, lentS_v, lentS_un, lentS_f, lentS_t, lentS_z, finE, okArg, Out.bind, Od.val, slVal, Bx.tr, Bx.t, isN, L2.ixN, L2.atI, isInt, isBool, isTuple, isList, isStr, isDict, isTL, Nat.zero_le, id_eq, eq_self, Pu.c0, Pu.c1, Pu.c2, Pu.c3, Pu.c4, Pu.c5, Pu.c6, Pu.c7, Pu.c8, Pu.c9, Pu.s1, Pu.s2, Pu.s3, Pu.s4, Pu.s5, Pu.s6, Pu.s7, Pu.s8, Pu.s9, Int.reduceEq, Nat.reduceMul, Int.ofNat_eq_natCast, wipeE, restE, exists_eq_left', Option.some.injEq, Out.ok.injEq, Prod.mk.injEq, Option.bind_some, Option.bind_none, Option.bind_eq_bind, List.getElem?_cons_zero, List.getElem?_cons_succ, List.getElem?_nil, List.set_cons_zero, List.set_cons_succ, List.set_nil, List.length_cons, List.length_nil, List.replicate_succ, List.replicate_zero, List.cons_append, List.nil_append, List.append_nil, List.all_cons, List.all_nil, Bool.and_true, Bool.true_and, Bool.and_false, Bool.false_and, if_true, if_false, ite_true, ite_false, List.nodup_cons, List.nodup_nil, List.not_mem_nil, List.mem_cons, not_false_eq_true, and_true, true_and, reduceIte, Nat.reduceAdd, Nat.reduceSub, Nat.reduceEqDiff, Nat.reduceLT, Nat.reduceLeDiff, Option.map_some, Option.map_none, Option.getD_some, reduceCtorEq, or_self, or_false, false_or, not_true_eq_false, decide_true, decide_false, Bool.not_true, Bool.not_false, Bool.false_eq_true, Nat.zero_add, Nat.add_zero, forall_const, Int.reduceLT, Int.reduceLE, Int.reduceNeg, Int.reduceToNat, Int.toNat_natCast, and_self]
theorem cell_in_kind_ok {B : Nat} {ks : List (List Pt)} (g : Good B ks) {k : Nat} (hk : k < ks.length) (d n : Nat) (hd : d ≤ 200) :
    m_cell_in_kind [.v (bkT B ks), .v (nT k), .v (nT d), .v (nT n)] = .ok (.r (cT (cellF B ks k d n))) [.v (bkT B ks), .v (nT k), .v (nT d), .v (nT n)] := by
  have hB : 2 ≤ B ∧ B ≤ 3 := by rcases g.hb with h | h <;> omega
  have hN : 0 < B * B ∧ B * B ≤ 16 := by rcases g.hb with h | h <;> subst h <;> decide
  have hmm : (B : Int).natAbs.log2 + (B : Int).natAbs.log2 < 1000000 := by
    have : (B : Int).natAbs.log2 < 10 := log2_small (by omega) (by decide)
    omega
  have hdg := digits_ok (n : Int) ((B * B : Nat) : Int) d (by omega) (by omega) hd
  rw [dgl_digs] at hdg
  have hlt := digs_lt n hN.1 d
  have hlen := digs_len (B * B) n d
  obtain ⟨e', h, l8, l9, l10, ⟨a8, a9, a10⟩, hds, rfl⟩ := for_on (g := gN 8) (b := y1_cell_in_kind) nT (fun don e => ∃ l8 l9 l10, (lentS l8 = false ∧ lentS l9 = false ∧ lentS l10 = false) ∧ (∀ x ∈ don, x < B * B) ∧ e = [.v (bkT B ks), .v (nT (run B ks (k, 0, 0) don).1), .v (nT d), .v (nT n), .v (.int (B : Int)), .v (.tuple (ks.map kT)), .v (.int (run B ks (k, 0, 0) don).2.1), .v (.int (run B ks (k, 0, 0) don).2.2), l8, l9, l10]) 200 (digs (B * B) n d) []
      [.v (bkT B ks), .v (nT k), .v (nT d), .v (nT n), .v (.int (B : Int)), .v (.tuple (ks.map kT)), .v (.int 0), .v (.int 0), .un, .un, .un] ⟨_, _, _, ⟨rfl, rfl, rfl⟩, (fun x hx => by cases hx), rfl⟩ (by rw [hlen]; simpa using hd) fun j hj don e hdl ⟨l8, l9, l10, ⟨a8, a9, a10⟩, hdon, he⟩ => by
    subst he
    have kk := run_kind g don (k, 0, 0) hk hdon
    obtain ⟨ps, q1, q2, _⟩ := g.at_ kk (hlt j hj)
    have sm := run_small g don k hk hdon (by omega)
    have r1 : run B ks (k, 0, 0) (don ++ [j]) = stp B ks (run B ks (k, 0, 0) don) j := by rw [run_app]; rfl
    have i1 := get_ks q1
    have i2 := get_ps q2
    have st := ck_y (bkT B ks) (nT d) (nT n) (.tuple (ks.map kT)) (kT ps) (B : Int) ((run B ks (k, 0, 0) don).1 : Int) (run B ks (k, 0, 0) don).2.1 (run B ks (k, 0, 0) don).2.2 (j : Int) _ _ _ l9 l10 a9 a10 i1 i2 sm.1 sm.2
    refine ⟨[.v (bkT B ks), .v (nT (run B ks (k, 0, 0) don).1), .v (nT d), .v (nT n), .v (.int (B : Int)), .v (.tuple (ks.map kT)), .v (.int (run B ks (k, 0, 0) don).2.1), .v (.int (run B ks (k, 0, 0) don).2.2), .v (nT j), l9, l10], by simp only [a8, eMut, gAppend, gInsert, eRev, eIndex, eLenSet, gInt, gLen, gTuple, gList, gAbs, gMax2, gMin2, gDivmod, gEq_int, runFn, sSeq, sIf, sSet, sSetIx, sRet, sRetN, sNil, sDrop, sAsg, sFor, sPar, sNever, setO, retO, setOs, presc, eVar, eK, eTwo, v2, eFn, eDisp, eTup, eLst, eCall, eCallR, eCallK, pick, toSl, toSls, sIdx, wb, bk, esc, escs, vals, aNil, aCons, tb, Ev.tNot, Ev.tAnd, Ev.tOr, gGt, gLt, gGe, gLe, gSub, gMod, gDiv, gPow, gAdd, gMul, gInt, mulOk, g1, g2, fInt, fLen, fTuple, fList, fAbs, eAnd, eOr, eNot, eIf, eNeg, eIsi, gII, gIx, gIsN, gN, gT, gsNil, gsCons, isLent_eq, lentO, lentS_v, lentS_un, lentS_f, lentS_t, lentS_z, finE, okArg, Out.bind, Od.val, slVal, Bx.tr, Bx.t, isN, L2.ixN, L2.atI, isInt, isBool, isTuple, isList, isStr, isDict, isTL, Nat.zero_le, id_eq, eq_self, Pu.c0, Pu.c1, Pu.c2, Pu.c3, Pu.c4, Pu.c5, Pu.c6, Pu.c7, Pu.c8, Pu.c9, Pu.s1, Pu.s2, Pu.s3, Pu.s4, Pu.s5, Pu.s6, Pu.s7, Pu.s8, Pu.s9, Int.reduceEq, Nat.reduceMul, Int.ofNat_eq_natCast, wipeE, restE, exists_eq_left', Option.some.injEq, Out.ok.injEq, Prod.mk.injEq, Option.bind_some, Option.bind_none, Option.bind_eq_bind, List.getElem?_cons_zero, List.getElem?_cons_succ, List.getElem?_nil, List.set_cons_zero, List.set_cons_succ, List.set_nil, List.length_cons, List.length_nil, List.replicate_succ, List.replicate_zero, List.cons_append, List.nil_append, List.append_nil, List.all_cons, List.all_nil, Bool.and_true, Bool.true_and, Bool.and_false, Bool.false_and, if_true, if_false, ite_true, ite_false, List.nodup_cons, List.nodup_nil, List.not_mem_nil, List.mem_cons, not_false_eq_true, and_true, true_and, reduceIte, Nat.reduceAdd, Nat.reduceSub, Nat.reduceEqDiff, Nat.reduceLT, Nat.reduceLeDiff, Option.map_some, Option.map_none, Option.getD_some, reduceCtorEq, or_self, or_false, false_or, not_true_eq_false, decide_true, decide_false, Bool.not_true, Bool.not_false, Bool.false_eq_true, Nat.zero_add, Nat.add_zero, forall_const, Int.reduceLT, Int.reduceLE, Int.reduceNeg, Int.reduceToNat, Int.toNat_natCast, and_self], _, .inl st, .v (nT j), .v (.int (Mt.part ks (run B ks (k, 0, 0) don).1 j).1), .v (.int (Mt.part ks (run B ks (k, 0, 0) don).1 j).2.1), ⟨rfl, rfl, rfl⟩, fun x hx => ?_, ?_⟩
    · rcases List.mem_append.mp hx with hx | hx
      · exact hdon x hx
      · rw [List.mem_singleton.mp hx]; exact hlt j hj
    · rw [r1]; rfl
  have hl : l1_cell_in_kind [.v (bkT B ks), .v (nT k), .v (nT d), .v (nT n), .v (.int (B : Int)), .v (.tuple (ks.map kT)), .v (.int 0), .v (.int 0), .un, .un, .un] = forS (gN 8) y1_cell_in_kind ((digs (B * B) n d).map nT) [.v (bkT B ks), .v (nT k), .v (nT d), .v (nT n), .v (.int (B : Int)), .v (.tuple (ks.map kT)), .v (.int 0), .v (.int 0), .un, .un, .un] := by
    unfold l1_cell_in_kind
    rw [sFor_eq (ci_st m_digits_of _ (bkT B ks) (nT k) (nT d) (nT n) _ (.tuple (ks.map kT)) (.int 0) (.int 0) (B : Int) rfl hmm (by rw [← Int.natCast_mul]; exact hdg))]
  have hl := hl.trans h
  exact ck_st l1_cell_in_kind _ _ _ _ _ _ _ _ _ _ _ _ rfl hl
end Lw

set_option linter.all false
set_option maxRecDepth 100000
set_option maxHeartbeats 4000000
namespace Lw
open PySem PySem.Spec Ev Pu Mt
theorem dd_nodup {α : Type} [DecidableEq α] : ∀ {xs : List α}, xs.Nodup → dd xs = xs
  | [], _ => rfl
  | x :: xs, h => by rw [dd, if_neg (List.nodup_cons.mp h).1, dd_nodup (List.nodup_cons.mp h).2]
theorem i3_pt (p : Pt) : i3 (ptT p) = [p.1, p.2.1] := rfl
theorem good_kd {B : Nat} {ks : List (List Pt)} (g : Good B ks) {ps : List Pt} (h : ps ∈ ks) : isKd (B : Int) (ks.length : Int) (kT ps) = true := by
  have h1 := g.len ps h
  have h2 := g.nod ps h
  have h3 := g.rng ps h
  have e1 : ((ps.map ptT).map i3) = (ps.map fun p => (p.1, p.2.1)).map fun c => [c.1, c.2] := by
    rw [List.map_map, List.map_map]; rfl
  have e2 : ((ps.map ptT).map i3).Nodup := by
    rw [e1]
    refine List.Pairwise.map _ (fun a b hab z => hab ?_) h2
    have z1 : a.1 = b.1 := by injection z
    have z2 : a.2 = b.2 := by injection z with _ z; injection z
    exact Prod.ext z1 z2
  show (decide (((ps.map ptT).length : Int) = (B : Int) * (B : Int)) && (((ps.map ptT).map (isP (B : Int) (ks.length : Int))).all id && decide (((dd ((ps.map ptT).map i3)).length : Int) = (B : Int) * (B : Int)))) = true
  simp only [dd_nodup e2, List.length_map, h1, Int.natCast_mul, decide_true, Bool.true_and, Bool.and_true, List.all_eq_true]
  intro b hb
  rw [List.map_map] at hb
  obtain ⟨p, hp, rfl⟩ := List.mem_map.mp hb
  obtain ⟨⟨q1, q2⟩, ⟨q3, q4⟩, q5⟩ := h3 p hp
  show (isI (B : Int) (.int p.1) && (isI (B : Int) (.int p.2.1) && isI (ks.length : Int) (.int (p.2.2 : Int)))) = true
  simp only [isI, Bool.and_eq_true, decide_eq_true_eq]
  omega
theorem good_bk {B : Nat} {ks : List (List Pt)} (g : Good B ks) : isBk (bkT B ks) = true := by
  show ((decide ((2 : Int) = (B : Int)) || decide ((3 : Int) = (B : Int))) && (decide (0 < (ks.map kT).length) && ((ks.map kT).map (isKd (B : Int) ((ks.map kT).length : Int))).all id)) = true
  rw [List.length_map]
  have h1 : (decide ((2 : Int) = (B : Int)) || decide ((3 : Int) = (B : Int))) = true := by
    rcases g.hb with h | h <;> subst h <;> rfl
  rw [h1, decide_eq_true g.pos, Bool.true_and, Bool.true_and, List.all_eq_true]
  intro b hb
  rw [List.map_map] at hb
  obtain ⟨ps, hp, rfl⟩ := List.mem_map.mp hb
  exact good_kd g hp
theorem good_few {B : Nat} {ks : List (List Pt)} (g : Good B ks) : fewK (bkT B ks) = true := by
  show decide ((ks.map kT).length ≤ sizeLine) = true
  have := g.few
  rw [List.length_map]
  refine decide_eq_true ?_
  unfold sizeLine; omega
theorem chk_book {B : Nat} {ks : List (List Pt)} (g : Good B ks) : m_check_book [.v (bkT B ks)] = .ok (.r .none) [.v (bkT B ks)] := check_book_ok _ (good_few g) (good_bk g)
theorem chk_depth (d : Nat) : m_check_depth [.v (nT d)] = .ok (.r .none) [.v (nT d)] := check_depth_ok (d : Int) (by omega)
theorem bsmall {B : Nat} (h : B = 2 ∨ B = 3) : (B : Int).natAbs.log2 + (B : Int).natAbs.log2 < 1000000 := by
  have : (B : Int).natAbs.log2 < 10 := log2_small (by rcases h with h | h <;> omega) (by decide)
  omega
theorem hm_st (m : FSem) (b : Int) (tk_ td r : T) (hm : b.natAbs.log2 + b.natAbs.log2 < 1000000) (h : m [.v (.int (b * b)), .v td] = .ok (.r r) [.v (.int (b * b)), .v td]) :
    runFn 2 (sRet (eCall 2 m (aCons (eOp2 gMul (eOp2 gIx (eVar 0) (eK (.int 0))) (eOp2 gIx (eVar 0) (eK (.int 0)))) (aCons (eVar 1) aNil)))) [.v (.tuple [.int b, tk_]), .v td] = .ok (.r r) [.v (.tuple [.int b, tk_]), .v td] := by
  simp only [hm, h, eMut, gAppend, gInsert, eRev, eIndex, eLenSet, gInt, gLen, gTuple, gList, gAbs, gMax2, gMin2, gDivmod, gEq_int, runFn, sSeq, sIf, sSet, sSetIx, sRet, sRetN, sNil, sDrop, sAsg, sFor, sPar, sNever, setO, retO, setOs, presc, eVar, eK, eTwo, v2, eFn, eDisp, eTup, eLst, eCall, eCallR, eCallK, pick, toSl, toSls, sIdx, wb, bk, esc, escs, vals, aNil, aCons, tb, Ev.tNot, Ev.tAnd, Ev.tOr, gGt, gLt, gGe, gLe, gSub, gMod, gDiv, gPow, gAdd, gMul, gInt, mulOk, g1, g2, fInt, fLen, fTuple, fList, fAbs, eAnd, eOr, eNot, eIf, eNeg, eIsi, gII, gIx, gIsN, gN, gT, gsNil, gsCons, isLent_eq, lentO, lentS_v, lentS_un, lentS_f, lentS_t, lentS_z, finE, okArg, Out.bind, Od.val, slVal, Bx.tr, Bx.t, isN, L2.ixN, L2.atI, isInt, isBool, isTuple, isList, isStr, isDict, isTL, Nat.zero_le, id_eq, eq_self, Pu.c0, Pu.c1, Pu.c2, Pu.c3, Pu.c4, Pu.c5, Pu.c6, Pu.c7, Pu.c8, Pu.c9, Pu.s1, Pu.s2, Pu.s3, Pu.s4, Pu.s5, Pu.s6, Pu.s7, Pu.s8, Pu.s9, Int.reduceEq, Nat.reduceMul, Int.ofNat_eq_natCast, wipeE, restE, exists_eq_left', Option.some.injEq, Out.ok.injEq, Prod.mk.injEq, Option.bind_some, Option.bind_none, Option.bind_eq_bind, List.getElem?_cons_zero, List.getElem?_cons_succ, List.getElem?_nil, List.set_cons_zero, List.set_cons_succ, List.set_nil, List.length_cons, List.length_nil, List.replicate_succ, List.replicate_zero, List.cons_append, List.nil_append, List.append_nil, List.all_cons, List.all_nil, Bool.and_true, Bool.true_and, Bool.and_false, Bool.false_and, if_true, if_false, ite_true, ite_false, List.nodup_cons, List.nodup_nil, List.not_mem_nil, List.mem_cons, not_false_eq_true, and_true, true_and, reduceIte, Nat.reduceAdd, Nat.reduceSub, Nat.reduceEqDiff, Nat.reduceLT, Nat.reduceLeDiff, Option.map_some, Option.map_none, Option.getD_some, reduceCtorEq, or_self, or_false, false_or, not_true_eq_false, decide_true, decide_false, Bool.not_true, Bool.not_false, Bool.false_eq_true, Nat.zero_add, Nat.add_zero, forall_const, Int.reduceLT, Int.reduceLE, Int.reduceNeg, Int.reduceToNat, Int.toNat_natCast, and_self]
theorem hm_ok {B : Nat} {ks : List (List Pt)} (g : Good B ks) (d : Nat) (hd : d ≤ 200) : m_how_many_cells [.v (bkT B ks), .v (nT d)] = .ok (.r (nT ((B * B) ^ d))) [.v (bkT B ks), .v (nT d)] := by
  have hN : B * B ≤ 16 := by rcases g.hb with h | h <;> subst h <;> decide
  have h := power_ok ((B * B : Nat) : Int) d (by omega) (by omega) hd
  rw [← Int.natCast_pow, Int.natCast_mul] at h
  exact hm_st m_power (B : Int) (.tuple (ks.map kT)) (nT d) _ (bsmall g.hb) h
theorem idx_ok {n m : Nat} (h : n < m) : m_is_index [.v (nT n), .v (nT m)] = .ok (.r (.bool true)) [.v (nT n), .v (nT m)] := by
  have := is_index_ok (nT n) (m : Int)
  rw [show isI (m : Int) (nT n) = true from decide_eq_true (by omega)] at this
  exact this
theorem npos {B : Nat} {ks : List (List Pt)} (g : Good B ks) (d : Nat) : 0 < (B * B) ^ d := Nat.pow_pos (by rcases g.hb with h | h <;> subst h <;> decide)
/-- so many cells from a number on -/
def cellsT (B : Nat) (ks : List (List Pt)) (d first n : Nat) : List T := (List.range n).map fun j => cT (cellF B ks 0 d (first + j))
end Lw

set_option linter.all false
set_option maxRecDepth 100000
set_option maxHeartbeats 8000000
namespace Lw
open PySem PySem.Spec Ev Pu Mt
theorem wh_e (m : FSem) (t0 t1 t2 r : T) (h : m [.v t0, .v (.int 0), .v t1, .v t2] = .ok (.r r) [.v t0, .v (.int 0), .v t1, .v t2]) :
    eCall 4 m (aCons (eVar 0) (aCons (eK (.int 0)) (aCons (eVar 1) (aCons (eVar 2) aNil)))) [.v t0, .v t1, .v t2] = .ok (.r r) [.v t0, .v t1, .v t2] := by
  simp only [h, eMut, gAppend, gInsert, eRev, eIndex, eLenSet, gInt, gLen, gTuple, gList, gAbs, gMax2, gMin2, gDivmod, gEq_int, runFn, sSeq, sIf, sSet, sSetIx, sRet, sRetN, sNil, sDrop, sAsg, sFor, sPar, sNever, setO, retO, setOs, presc, eVar, eK, eTwo, v2, eFn, eDisp, eTup, eLst, eCall, eCallR, eCallK, pick, toSl, toSls, sIdx, wb, bk, esc, escs, vals, aNil, aCons, tb, Ev.tNot, Ev.tAnd, Ev.tOr, gGt, gLt, gGe, gLe, gSub, gMod, gDiv, gPow, gAdd, gMul, gInt, mulOk, g1, g2, fInt, fLen, fTuple, fList, fAbs, eAnd, eOr, eNot, eIf, eNeg, eIsi, gII, gIx, gIsN, gN, gT, gsNil, gsCons, isLent_eq, lentO, lentS_v, lentS_un, lentS_f, lentS_t, lentS_z, finE, okArg, Out.bind, Od.val, slVal, Bx.tr, Bx.t, isN, L2.ixN, L2.atI, isInt, isBool, isTuple, isList, isStr, isDict, isTL, Nat.zero_le, id_eq, eq_self, Pu.c0, Pu.c1, Pu.c2, Pu.c3, Pu.c4, Pu.c5, Pu.c6, Pu.c7, Pu.c8, Pu.c9, Pu.s1, Pu.s2, Pu.s3, Pu.s4, Pu.s5, Pu.s6, Pu.s7, Pu.s8, Pu.s9, Int.reduceEq, Nat.reduceMul, Int.ofNat_eq_natCast, wipeE, restE, exists_eq_left', Option.some.injEq, Out.ok.injEq, Prod.mk.injEq, Option.bind_some, Option.bind_none, Option.bind_eq_bind, List.getElem?_cons_zero, List.getElem?_cons_succ, List.getElem?_nil, List.set_cons_zero, List.set_cons_succ, List.set_nil, List.length_cons, List.length_nil, List.replicate_succ, List.replicate_zero, List.cons_append, List.nil_append, List.append_nil, List.all_cons, List.all_nil, Bool.and_true, Bool.true_and, Bool.and_false, Bool.false_and, if_true, if_false, ite_true, ite_false, List.nodup_cons, List.nodup_nil, List.not_mem_nil, List.mem_cons, not_false_eq_true, and_true, true_and, reduceIte, Nat.reduceAdd, Nat.reduceSub, Nat.reduceEqDiff, Nat.reduceLT, Nat.reduceLeDiff, Option.map_some, Option.map_none, Option.getD_some, reduceCtorEq, or_self, or_false, false_or, not_true_eq_false, decide_true, decide_false, Bool.not_true, Bool.not_false, Bool.false_eq_true, Nat.zero_add, Nat.add_zero, forall_const, Int.reduceLT, Int.reduceLE, Int.reduceNeg, Int.reduceToNat, Int.toNat_natCast, and_self]
theorem wi_st (m : FSem) (t0 t1 r : T) (l : Sl) (h : m [.v t0, .v t1] = .ok (.r r) [.v t0, .v t1]) : aCons (eCall 2 m (aCons (eVar 0) (aCons (eVar 1) aNil))) aNil [.v t0, .v t1, l] = .ok [.r r] [.v t0, .v t1, l] := by
  simp only [h, eMut, gAppend, gInsert, eRev, eIndex, eLenSet, gInt, gLen, gTuple, gList, gAbs, gMax2, gMin2, gDivmod, gEq_int, runFn, sSeq, sIf, sSet, sSetIx, sRet, sRetN, sNil, sDrop, sAsg, sFor, sPar, sNever, setO, retO, setOs, presc, eVar, eK, eTwo, v2, eFn, eDisp, eTup, eLst, eCall, eCallR, eCallK, pick, toSl, toSls, sIdx, wb, bk, esc, escs, vals, aNil, aCons, tb, Ev.tNot, Ev.tAnd, Ev.tOr, gGt, gLt, gGe, gLe, gSub, gMod, gDiv, gPow, gAdd, gMul, gInt, mulOk, g1, g2, fInt, fLen, fTuple, fList, fAbs, eAnd, eOr, eNot, eIf, eNeg, eIsi, gII, gIx, gIsN, gN, gT, gsNil, gsCons, isLent_eq, lentO, lentS_v, lentS_un, lentS_f, lentS_t, lentS_z, finE, okArg, Out.bind, Od.val, slVal, Bx.tr, Bx.t, isN, L2.ixN, L2.atI, isInt, isBool, isTuple, isList, isStr, isDict, isTL, Nat.zero_le, id_eq, eq_self, Pu.c0, Pu.c1, Pu.c2, Pu.c3, Pu.c4, Pu.c5, Pu.c6, Pu.c7, Pu.c8, Pu.c9, Pu.s1, Pu.s2, Pu.s3, Pu.s4, Pu.s5, Pu.s6, Pu.s7, Pu.s8, Pu.s9, Int.reduceEq, Nat.reduceMul, Int.ofNat_eq_natCast, wipeE, restE, exists_eq_left', Option.some.injEq, Out.ok.injEq, Prod.mk.injEq, Option.bind_some, Option.bind_none, Option.bind_eq_bind, List.getElem?_cons_zero, List.getElem?_cons_succ, List.getElem?_nil, List.set_cons_zero, List.set_cons_succ, List.set_nil, List.length_cons, List.length_nil, List.replicate_succ, List.replicate_zero, List.cons_append, List.nil_append, List.append_nil, List.all_cons, List.all_nil, Bool.and_true, Bool.true_and, Bool.and_false, Bool.false_and, if_true, if_false, ite_true, ite_false, List.nodup_cons, List.nodup_nil, List.not_mem_nil, List.mem_cons, not_false_eq_true, and_true, true_and, reduceIte, Nat.reduceAdd, Nat.reduceSub, Nat.reduceEqDiff, Nat.reduceLT, Nat.reduceLeDiff, Option.map_some, Option.map_none, Option.getD_some, reduceCtorEq, or_self, or_false, false_or, not_true_eq_false, decide_true, decide_false, Bool.not_true, Bool.not_false, Bool.false_eq_true, Nat.zero_add, Nat.add_zero, forall_const, Int.reduceLT, Int.reduceLE, Int.reduceNeg, Int.reduceToNat, Int.toNat_natCast, and_self]
theorem whole_x {B : Nat} {ks : List (List Pt)} (g : Good B ks) (d : Nat) (hd : d ≤ 200) (hs : (B * B) ^ d ≤ 100000) :
    x1_whole [.v (bkT B ks), .v (nT d), .un] = .ok (.b (.l (cellsT B ks d 0 ((B * B) ^ d)))) [.v (bkT B ks), .v (nT d), .un] := by
  have hi := iR1_nat (n := (B * B) ^ d) (wi_st m_how_many_cells (bkT B ks) (nT d) _ .un (hm_ok g d hd)) rfl (by omega)
  unfold x1_whole eComp
  rw [hi]
  refine comp_on (fun (j : Nat) => PyData.int (0 + (j : Int))) (fun j => cT (cellF B ks 0 d (0 + j))) (List.range ((B * B) ^ d)) [] [.v (bkT B ks), .v (nT d), .un] (by rw [List.length_range, List.length_nil]; unfold sizeLine; omega) fun j hj => ?_
  have h := cell_in_kind_ok g g.pos d (0 + j) hd
  rw [show nT (0 + j) = .int (0 + (j : Int)) by unfold nT; congr 1] at h
  refine ⟨_, rfl, _, rfl, _, _, wh_e m_cell_in_kind _ _ _ _ h, _, rfl, rfl⟩
theorem wh_st (m1 m2 : FSem) (x : SemE) (t0 t1 r1 r2 : T) (ts : List T) (l : Sl) (h1 : m1 [.v t0] = .ok (.r r1) [.v t0]) (h2 : m2 [.v t1] = .ok (.r r2) [.v t1]) (hx : x [.v t0, .v t1, .un] = .ok (.b (.l ts)) [.v t0, .v t1, l]) :
    runFn 3 (sSeq (sDrop (eCall 1 m1 (aCons (eVar 0) aNil))) (sSeq (sDrop (eCall 1 m2 (aCons (eVar 1) aNil))) (sRet x))) [.v t0, .v t1] = .ok (.b (.l ts)) [.v t0, .v t1] := by
  simp only [h1, h2, hx, eMut, gAppend, gInsert, eRev, eIndex, eLenSet, gInt, gLen, gTuple, gList, gAbs, gMax2, gMin2, gDivmod, gEq_int, runFn, sSeq, sIf, sSet, sSetIx, sRet, sRetN, sNil, sDrop, sAsg, sFor, sPar, sNever, setO, retO, setOs, presc, eVar, eK, eTwo, v2, eFn, eDisp, eTup, eLst, eCall, eCallR, eCallK, pick, toSl, toSls, sIdx, wb, bk, esc, escs, vals, aNil, aCons, tb, Ev.tNot, Ev.tAnd, Ev.tOr, gGt, gLt, gGe, gLe, gSub, gMod, gDiv, gPow, gAdd, gMul, gInt, mulOk, g1, g2, fInt, fLen, fTuple, fList, fAbs, eAnd, eOr, eNot, eIf, eNeg, eIsi, gII, gIx, gIsN, gN, gT, gsNil, gsCons, isLent_eq, lentO, lentS_v, lentS_un, lentS_f, lentS_t, lentS_z, finE, okArg, Out.bind, Od.val, slVal, Bx.tr, Bx.t, isN, L2.ixN, L2.atI, isInt, isBool, isTuple, isList, isStr, isDict, isTL, Nat.zero_le, id_eq, eq_self, Pu.c0, Pu.c1, Pu.c2, Pu.c3, Pu.c4, Pu.c5, Pu.c6, Pu.c7, Pu.c8, Pu.c9, Pu.s1, Pu.s2, Pu.s3, Pu.s4, Pu.s5, Pu.s6, Pu.s7, Pu.s8, Pu.s9, Int.reduceEq, Nat.reduceMul, Int.ofNat_eq_natCast, wipeE, restE, exists_eq_left', Option.some.injEq, Out.ok.injEq, Prod.mk.injEq, Option.bind_some, Option.bind_none, Option.bind_eq_bind, List.getElem?_cons_zero, List.getElem?_cons_succ, List.getElem?_nil, List.set_cons_zero, List.set_cons_succ, List.set_nil, List.length_cons, List.length_nil, List.replicate_succ, List.replicate_zero, List.cons_append, List.nil_append, List.append_nil, List.all_cons, List.all_nil, Bool.and_true, Bool.true_and, Bool.and_false, Bool.false_and, if_true, if_false, ite_true, ite_false, List.nodup_cons, List.nodup_nil, List.not_mem_nil, List.mem_cons, not_false_eq_true, and_true, true_and, reduceIte, Nat.reduceAdd, Nat.reduceSub, Nat.reduceEqDiff, Nat.reduceLT, Nat.reduceLeDiff, Option.map_some, Option.map_none, Option.getD_some, reduceCtorEq, or_self, or_false, false_or, not_true_eq_false, decide_true, decide_false, Bool.not_true, Bool.not_false, Bool.false_eq_true, Nat.zero_add, Nat.add_zero, forall_const, Int.reduceLT, Int.reduceLE, Int.reduceNeg, Int.reduceToNat, Int.toNat_natCast, and_self]
theorem whole_ok {B : Nat} {ks : List (List Pt)} (g : Good B ks) (d : Nat) (hd : d ≤ 200) (hs : (B * B) ^ d ≤ 100000) :
    m_whole [.v (bkT B ks), .v (nT d)] = .ok (.b (.l (cellsT B ks d 0 ((B * B) ^ d)))) [.v (bkT B ks), .v (nT d)] :=
  wh_st m_check_book m_check_depth x1_whole _ _ _ _ _ _ (chk_book g) (chk_depth d) (whole_x g d hd hs)
end Lw

set_option linter.all false
set_option maxRecDepth 100000
set_option maxHeartbeats 4000000
namespace Lw
open PySem PySem.Spec Ev Pu Mt
theorem log_pow {N : Nat} (h : N ≤ 16) (k : Nat) (hk : k ≤ 200) : ((N ^ k : Nat) : Int).natAbs.log2 < 9000 := by
  have := pow_small (b := (N : Int)) (by omega) (by omega) k hk
  rw [← Int.natCast_pow] at this
  omega
end Lw

set_option linter.all false
set_option maxRecDepth 100000
set_option maxHeartbeats 4000000
namespace Lw
open PySem PySem.Spec Ev Pu Mt
/-! ### draws -/
structure Dk where
  a : Int
  b : Int
  h : 0 ≤ b ∧ b < 18446744073709551616
def dkT (D : Dk) : List T := [.int D.a, .int D.b]
def nxt (b : Int) : Int := (b * 6364136223846793005 + 1442695040888963407) % 18446744073709551616
theorem nxt_h (b : Int) : 0 ≤ nxt b ∧ nxt b < 18446744073709551616 := ⟨Int.emod_nonneg _ (by decide), Int.emod_lt_of_pos _ (by decide)⟩
def tkV (D : Dk) (n : Nat) : Nat := if 0 < D.a then (D.a % (n : Int)).toNat else (nxt D.b / 8589934592 % (n : Int)).toNat
def tkD (D : Dk) (n : Nat) : Dk := if 0 < D.a then ⟨D.a / (n : Int), D.b, D.h⟩ else ⟨D.a, nxt D.b, nxt_h D.b⟩
theorem tkV_lt (D : Dk) {n : Nat} (h : 0 < n) : tkV D n < n := by
  unfold tkV
  split
  · have h1 := Int.emod_nonneg D.a (show (n : Int) ≠ 0 by omega)
    have h2 := Int.emod_lt_of_pos D.a (show (0 : Int) < n by omega)
    omega
  · have h1 := Int.emod_nonneg (nxt D.b / 8589934592) (show (n : Int) ≠ 0 by omega)
    have h2 := Int.emod_lt_of_pos (nxt D.b / 8589934592) (show (0 : Int) < n by omega)
    omega
theorem p64 (e : En) : eOp2 gPow (eK (.int 2)) (eK (.int 64)) e = .ok (.r (.int 18446744073709551616)) e := rfl
theorem p33 (e : En) : eOp2 gPow (eK (.int 2)) (eK (.int 33)) e = .ok (.r (.int 8589934592)) e := rfl
theorem p18 (e : En) : eOp2 gPow (eK (.int 10)) (eK (.int 18)) e = .ok (.r (.int 1000000000000000000)) e := rfl
theorem tk1 (q64 q33 : SemE) (c1 c2 a b n : Int) (ha : 0 < a) (hn : 0 < n) (hl : n.natAbs.log2 < 9000) :
    runFn 3 (sSeq (sIf (tb (eOp2 gGt (eOp2 gIx (eVar 0) (eK (.int 0))) (eK (.int 0)))) (sSeq (sSet 2 (eOp2 gMod (eFn gInt (aCons (eOp2 gIx (eVar 0) (eK (.int 0))) aNil)) (eVar 1))) (sSeq (sSetIx 0 (eK (.int 0)) (eOp2 gDiv (eOp2 gIx (eVar 0) (eK (.int 0))) (eVar 1))) (sRet (eVar 2)))) sNil) (sSeq (sSetIx 0 (eK (.int 1)) (eOp2 gMod (eFn gInt (aCons (eOp2 gAdd (eOp2 gMul (eOp2 gIx (eVar 0) (eK (.int 1))) (eK (.int c1))) (eK (.int c2))) aNil)) q64)) (sRet (eOp2 gMod (eOp2 gDiv (eOp2 gIx (eVar 0) (eK (.int 1))) q33) (eVar 1))))) [.ow true (.l [.int a, .int b]), .v (.int n)] = .ok (.r (.int (a % n))) [.ow true (.l [.int (a / n), .int b]), .v (.int n)] := by
  simp only [ha, hn, hl, eMut, gAppend, gInsert, eRev, eIndex, eLenSet, gInt, gLen, gTuple, gList, gAbs, gMax2, gMin2, gDivmod, gEq_int, runFn, sSeq, sIf, sSet, sSetIx, sRet, sRetN, sNil, sDrop, sAsg, sFor, sPar, sNever, setO, retO, setOs, presc, eVar, eK, eTwo, v2, eFn, eDisp, eTup, eLst, eCall, eCallR, eCallK, pick, toSl, toSls, sIdx, wb, bk, esc, escs, vals, aNil, aCons, tb, Ev.tNot, Ev.tAnd, Ev.tOr, gGt, gLt, gGe, gLe, gSub, gMod, gDiv, gPow, gAdd, gMul, gInt, mulOk, g1, g2, fInt, fLen, fTuple, fList, fAbs, eAnd, eOr, eNot, eIf, eNeg, eIsi, gII, gIx, gIsN, gN, gT, gsNil, gsCons, isLent_eq, lentO, lentS_v, lentS_un, lentS_f, lentS_t, lentS_z, finE, okArg, Out.bind, Od.val, slVal, Bx.tr, Bx.t, isN, L2.ixN, L2.atI, isInt, isBool, isTuple, isList, isStr, isDict, isTL, Nat.zero_le, id_eq, eq_self, Pu.c0, Pu.c1, Pu.c2, Pu.c3, Pu.c4, Pu.c5, Pu.c6, Pu.c7, Pu.c8, Pu.c9, Pu.s1, Pu.s2, Pu.s3, Pu.s4, Pu.s5, Pu.s6, Pu.s7, Pu.s8, Pu.s9, Int.reduceEq, Nat.reduceMul, Int.ofNat_eq_natCast, wipeE, restE, exists_eq_left', Option.some.injEq, Out.ok.injEq, Prod.mk.injEq, Option.bind_some, Option.bind_none, Option.bind_eq_bind, List.getElem?_cons_zero, List.getElem?_cons_succ, List.getElem?_nil, List.set_cons_zero, List.set_cons_succ, List.set_nil, List.length_cons, List.length_nil, List.replicate_succ, List.replicate_zero, List.cons_append, List.nil_append, List.append_nil, List.all_cons, List.all_nil, Bool.and_true, Bool.true_and, Bool.and_false, Bool.false_and, if_true, if_false, ite_true, ite_false, List.nodup_cons, List.nodup_nil, List.not_mem_nil, List.mem_cons, not_false_eq_true, and_true, true_and, reduceIte, Nat.reduceAdd, Nat.reduceSub, Nat.reduceEqDiff, Nat.reduceLT, Nat.reduceLeDiff, Option.map_some, Option.map_none, Option.getD_some, reduceCtorEq, or_self, or_false, false_or, not_true_eq_false, decide_true, decide_false, Bool.not_true, Bool.not_false, Bool.false_eq_true, Nat.zero_add, Nat.add_zero, forall_const, Int.reduceLT, Int.reduceLE, Int.reduceNeg, Int.reduceToNat, Int.toNat_natCast, and_self]
theorem tk2 (q64 q33 : SemE) (c1 c2 k64 k33 a b n : Int) (h64 : ∀ e, q64 e = .ok (.r (.int k64)) e) (h33 : ∀ e, q33 e = .ok (.r (.int k33)) e) (ha : ¬ 0 < a) (hn : 0 < n) (hk : 0 < k64) (hk2 : 0 < k33 ∧ k33.natAbs.log2 < 9000) (hm : b.natAbs.log2 + c1.natAbs.log2 < 1000000) :
    runFn 3 (sSeq (sIf (tb (eOp2 gGt (eOp2 gIx (eVar 0) (eK (.int 0))) (eK (.int 0)))) (sSeq (sSet 2 (eOp2 gMod (eFn gInt (aCons (eOp2 gIx (eVar 0) (eK (.int 0))) aNil)) (eVar 1))) (sSeq (sSetIx 0 (eK (.int 0)) (eOp2 gDiv (eOp2 gIx (eVar 0) (eK (.int 0))) (eVar 1))) (sRet (eVar 2)))) sNil) (sSeq (sSetIx 0 (eK (.int 1)) (eOp2 gMod (eFn gInt (aCons (eOp2 gAdd (eOp2 gMul (eOp2 gIx (eVar 0) (eK (.int 1))) (eK (.int c1))) (eK (.int c2))) aNil)) q64)) (sRet (eOp2 gMod (eOp2 gDiv (eOp2 gIx (eVar 0) (eK (.int 1))) q33) (eVar 1))))) [.ow true (.l [.int a, .int b]), .v (.int n)] = .ok (.r (.int ((b * c1 + c2) % k64 / k33 % n))) [.ow true (.l [.int a, .int ((b * c1 + c2) % k64)]), .v (.int n)] := by
  simp only [ha, hn, hk, hk2, hm, h64, h33, eMut, gAppend, gInsert, eRev, eIndex, eLenSet, gInt, gLen, gTuple, gList, gAbs, gMax2, gMin2, gDivmod, gEq_int, runFn, sSeq, sIf, sSet, sSetIx, sRet, sRetN, sNil, sDrop, sAsg, sFor, sPar, sNever, setO, retO, setOs, presc, eVar, eK, eTwo, v2, eFn, eDisp, eTup, eLst, eCall, eCallR, eCallK, pick, toSl, toSls, sIdx, wb, bk, esc, escs, vals, aNil, aCons, tb, Ev.tNot, Ev.tAnd, Ev.tOr, gGt, gLt, gGe, gLe, gSub, gMod, gDiv, gPow, gAdd, gMul, gInt, mulOk, g1, g2, fInt, fLen, fTuple, fList, fAbs, eAnd, eOr, eNot, eIf, eNeg, eIsi, gII, gIx, gIsN, gN, gT, gsNil, gsCons, isLent_eq, lentO, lentS_v, lentS_un, lentS_f, lentS_t, lentS_z, finE, okArg, Out.bind, Od.val, slVal, Bx.tr, Bx.t, isN, L2.ixN, L2.atI, isInt, isBool, isTuple, isList, isStr, isDict, isTL, Nat.zero_le, id_eq, eq_self, Pu.c0, Pu.c1, Pu.c2, Pu.c3, Pu.c4, Pu.c5, Pu.c6, Pu.c7, Pu.c8, Pu.c9, Pu.s1, Pu.s2, Pu.s3, Pu.s4, Pu.s5, Pu.s6, Pu.s7, Pu.s8, Pu.s9, Int.reduceEq, Nat.reduceMul, Int.ofNat_eq_natCast, wipeE, restE, exists_eq_left', Option.some.injEq, Out.ok.injEq, Prod.mk.injEq, Option.bind_some, Option.bind_none, Option.bind_eq_bind, List.getElem?_cons_zero, List.getElem?_cons_succ, List.getElem?_nil, List.set_cons_zero, List.set_cons_succ, List.set_nil, List.length_cons, List.length_nil, List.replicate_succ, List.replicate_zero, List.cons_append, List.nil_append, List.append_nil, List.all_cons, List.all_nil, Bool.and_true, Bool.true_and, Bool.and_false, Bool.false_and, if_true, if_false, ite_true, ite_false, List.nodup_cons, List.nodup_nil, List.not_mem_nil, List.mem_cons, not_false_eq_true, and_true, true_and, reduceIte, Nat.reduceAdd, Nat.reduceSub, Nat.reduceEqDiff, Nat.reduceLT, Nat.reduceLeDiff, Option.map_some, Option.map_none, Option.getD_some, reduceCtorEq, or_self, or_false, false_or, not_true_eq_false, decide_true, decide_false, Bool.not_true, Bool.not_false, Bool.false_eq_true, Nat.zero_add, Nat.add_zero, forall_const, Int.reduceLT, Int.reduceLE, Int.reduceNeg, Int.reduceToNat, Int.toNat_natCast, and_self]
theorem take_ok (D : Dk) (n : Nat) (h : 0 < n) (hl : (n : Int).natAbs.log2 < 9000) : m__law_take [.ow true (.l (dkT D)), .v (nT n)] = .ok (.r (nT (tkV D n))) [.ow true (.l (dkT (tkD D n))), .v (nT n)] := by
  have hn : (0 : Int) < n := by omega
  by_cases ha : 0 < D.a
  · have e1 : nT (tkV D n) = .int (D.a % (n : Int)) := by
      have := Int.emod_nonneg D.a (show (n : Int) ≠ 0 by omega)
      unfold nT tkV; rw [if_pos ha]; congr 1; omega
    have e2 : dkT (tkD D n) = [.int (D.a / (n : Int)), .int D.b] := by unfold tkD; rw [if_pos ha]; rfl
    rw [e1, e2]
    exact tk1 _ _ _ _ _ _ _ ha hn hl
  · have e1 : nT (tkV D n) = .int (nxt D.b / 8589934592 % (n : Int)) := by
      have := Int.emod_nonneg (nxt D.b / 8589934592) (show (n : Int) ≠ 0 by omega)
      unfold nT tkV; rw [if_neg ha]; congr 1; omega
    have e2 : dkT (tkD D n) = [.int D.a, .int (nxt D.b)] := by unfold tkD; rw [if_neg ha]; rfl
    rw [e1, e2]
    have hb := int_small (k := 64) D.h.1 D.h.2 (by decide)
    have hc : (6364136223846793005 : Int).natAbs.log2 < 64 := log2_small (by decide) (by decide)
    have hd : (8589934592 : Int).natAbs.log2 < 64 := log2_small (by decide) (by decide)
    exact tk2 _ _ _ _ _ _ _ _ _ p64 p33 ha hn (by decide) ⟨by decide, by omega⟩ (by omega)
theorem tk_ok (D : Dk) (n : Nat) (h : 0 < n) (hl : n < 2 ^ 60) : m__law_take [.ow true (.l (dkT D)), .v (nT n)] = .ok (.r (nT (tkV D n))) [.ow true (.l (dkT (tkD D n))), .v (nT n)] := by
  refine take_ok D n h ?_
  have := int_small (i := (n : Int)) (k := 60) (by omega) (by exact_mod_cast hl) (by decide)
  omega
/-! ### the deck -/
theorem ld_b (c0 c1 c2 c3 c4 c5 cell at_ s1 s2 : Int) (q : SemE) (k18 : Int) (b0 : T) (l0 : Sl) (h18 : ∀ e, q e = .ok (.r (.int k18)) e) (hc2 : 0 < c2) (hc5 : 0 < c5)
    (hm0 : c0.natAbs.log2 + at_.natAbs.log2 < 1000000) (hm1 : c3.natAbs.log2 + at_.natAbs.log2 < 1000000)
    (e1 : (cell + c0 * at_ + c1) % c2 = s1) (e2 : (s1 * s1 * s1 + c3 * at_ + c4) % c5 = s2) (hs : s1.natAbs.log2 + s1.natAbs.log2 < 1000000) (hs2 : (s1 * s1).natAbs.log2 + s1.natAbs.log2 < 1000000) :
    (sSeq (sSet 3 (eOp2 gMod (eFn gInt (aCons (eOp2 gAdd (eOp2 gAdd (eVar 2) (eOp2 gMul (eK (.int c0)) (eVar 1))) (eK (.int c1))) aNil)) (eK (.int c2)))) (sSeq (sSet 3 (eOp2 gMod (eFn gInt (aCons (eOp2 gAdd (eOp2 gAdd (eOp2 gMul (eOp2 gMul (eVar 3) (eVar 3)) (eVar 3)) (eOp2 gMul (eK (.int c3)) (eVar 1))) (eK (.int c4))) aNil)) (eK (.int c5)))) (sSeq (sIf (tb (eOp2 gLt (eVar 2) q)) (sRet (eLst (aCons (eK (.int 0)) (aCons (eVar 3) aNil)))) sNil) (sRet (eLst (aCons (eOp2 gSub (eVar 2) q) (aCons (eVar 3) aNil)))))))
      [.v b0, .v (.int at_), .v (.int cell), .un] = .ok (.rt (.b (.l [.int (if cell < k18 then 0 else cell - k18), .int s2]))) [.v b0, .v (.int at_), .v (.int cell), .v (.int s2)] := by
  by_cases hk : cell < k18
  · simp only [h18, hc2, hc5, hm0, hm1, e1, e2, hs, hs2, hk, eMut, gAppend, gInsert, eRev, eIndex, eLenSet, gInt, gLen, gTuple, gList, gAbs, gMax2, gMin2, gDivmod, gEq_int, runFn, sSeq, sIf, sSet, sSetIx, sRet, sRetN, sNil, sDrop, sAsg, sFor, sPar, sNever, setO, retO, setOs, presc, eVar, eK, eTwo, v2, eFn, eDisp, eTup, eLst, eCall, eCallR, eCallK, pick, toSl, toSls, sIdx, wb, bk, esc, escs, vals, aNil, aCons, tb, Ev.tNot, Ev.tAnd, Ev.tOr, gGt, gLt, gGe, gLe, gSub, gMod, gDiv, gPow, gAdd, gMul, gInt, mulOk, g1, g2, fInt, fLen, fTuple, fList, fAbs, eAnd, eOr, eNot, eIf, eNeg, eIsi, gII, gIx, gIsN, gN, gT, gsNil, gsCons, isLent_eq, lentO, lentS_v, lentS_un, lentS_f, lentS_t, lentS_z, finE, okArg, Out.bind, Od.val, slVal, Bx.tr, Bx.t, isN, L2.ixN, L2.atI, isInt, isBool, isTuple, isList, isStr, isDict, isTL, Nat.zero_le, id_eq, eq_self, Pu.c0, Pu.c1, Pu.c2, Pu.c3, Pu.c4, Pu.c5, Pu.c6, Pu.c7, Pu.c8, Pu.c9, Pu.s1, Pu.s2, Pu.s3, Pu.s4, Pu.s5, Pu.s6, Pu.s7, Pu.s8, Pu.s9, Int.reduceEq, Nat.reduceMul, Int.ofNat_eq_natCast, wipeE, restE, exists_eq_left', Option.some.injEq, Out.ok.injEq, Prod.mk.injEq, Option.bind_some, Option.bind_none, Option.bind_eq_bind, List.getElem?_cons_zero, List.getElem?_cons_succ, List.getElem?_nil, List.set_cons_zero, List.set_cons_succ, List.set_nil, List.length_cons, List.length_nil, List.replicate_succ, List.replicate_zero, List.cons_append, List.nil_append, List.append_nil, List.all_cons, List.all_nil, Bool.and_true, Bool.true_and, Bool.and_false, Bool.false_and, if_true, if_false, ite_true, ite_false, List.nodup_cons, List.nodup_nil, List.not_mem_nil, List.mem_cons, not_false_eq_true, and_true, true_and, reduceIte, Nat.reduceAdd, Nat.reduceSub, Nat.reduceEqDiff, Nat.reduceLT, Nat.reduceLeDiff, Option.map_some, Option.map_none, Option.getD_some, reduceCtorEq, or_self, or_false, false_or, not_true_eq_false, decide_true, decide_false, Bool.not_true, Bool.not_false, Bool.false_eq_true, Nat.zero_add, Nat.add_zero, forall_const, Int.reduceLT, Int.reduceLE, Int.reduceNeg, Int.reduceToNat, Int.toNat_natCast, and_self]
  · simp only [h18, hc2, hc5, hm0, hm1, e1, e2, hs, hs2, hk, eMut, gAppend, gInsert, eRev, eIndex, eLenSet, gInt, gLen, gTuple, gList, gAbs, gMax2, gMin2, gDivmod, gEq_int, runFn, sSeq, sIf, sSet, sSetIx, sRet, sRetN, sNil, sDrop, sAsg, sFor, sPar, sNever, setO, retO, setOs, presc, eVar, eK, eTwo, v2, eFn, eDisp, eTup, eLst, eCall, eCallR, eCallK, pick, toSl, toSls, sIdx, wb, bk, esc, escs, vals, aNil, aCons, tb, Ev.tNot, Ev.tAnd, Ev.tOr, gGt, gLt, gGe, gLe, gSub, gMod, gDiv, gPow, gAdd, gMul, gInt, mulOk, g1, g2, fInt, fLen, fTuple, fList, fAbs, eAnd, eOr, eNot, eIf, eNeg, eIsi, gII, gIx, gIsN, gN, gT, gsNil, gsCons, isLent_eq, lentO, lentS_v, lentS_un, lentS_f, lentS_t, lentS_z, finE, okArg, Out.bind, Od.val, slVal, Bx.tr, Bx.t, isN, L2.ixN, L2.atI, isInt, isBool, isTuple, isList, isStr, isDict, isTL, Nat.zero_le, id_eq, eq_self, Pu.c0, Pu.c1, Pu.c2, Pu.c3, Pu.c4, Pu.c5, Pu.c6, Pu.c7, Pu.c8, Pu.c9, Pu.s1, Pu.s2, Pu.s3, Pu.s4, Pu.s5, Pu.s6, Pu.s7, Pu.s8, Pu.s9, Int.reduceEq, Nat.reduceMul, Int.ofNat_eq_natCast, wipeE, restE, exists_eq_left', Option.some.injEq, Out.ok.injEq, Prod.mk.injEq, Option.bind_some, Option.bind_none, Option.bind_eq_bind, List.getElem?_cons_zero, List.getElem?_cons_succ, List.getElem?_nil, List.set_cons_zero, List.set_cons_succ, List.set_nil, List.length_cons, List.length_nil, List.replicate_succ, List.replicate_zero, List.cons_append, List.nil_append, List.append_nil, List.all_cons, List.all_nil, Bool.and_true, Bool.true_and, Bool.and_false, Bool.false_and, if_true, if_false, ite_true, ite_false, List.nodup_cons, List.nodup_nil, List.not_mem_nil, List.mem_cons, not_false_eq_true, and_true, true_and, reduceIte, Nat.reduceAdd, Nat.reduceSub, Nat.reduceEqDiff, Nat.reduceLT, Nat.reduceLeDiff, Option.map_some, Option.map_none, Option.getD_some, reduceCtorEq, or_self, or_false, false_or, not_true_eq_false, decide_true, decide_false, Bool.not_true, Bool.not_false, Bool.false_eq_true, Nat.zero_add, Nat.add_zero, forall_const, Int.reduceLT, Int.reduceLE, Int.reduceNeg, Int.reduceToNat, Int.toNat_natCast, and_self]
def scT (ns : List Int) : T := .list (ns.map PyData.int)
def cellAt (ns : List Int) (k : Nat) : Int := (ns[k]?).getD 0
theorem ix_sc (ns : List Int) (k : Nat) (h : k < ns.length) : gIx (scT ns) (.int (k : Int)) = some (.r (.int (cellAt ns k))) := by
  obtain ⟨x, e⟩ : ∃ x, ns[k]? = some x := ⟨_, List.getElem?_eq_getElem h⟩
  obtain ⟨_, e2⟩ := List.getElem?_eq_some_iff.mp e
  simp [scT, gIx, L2.atI, L2.ixN, h, List.getElem?_map, cellAt, e2]
theorem ld_1 (y : SemS) (k : Int) (ts : List T) (c : Int) (r : Od) (b0 : T) (hb : b0 = .list ts) (l3 : Sl) (h1 : k < (ts.length : Int)) (hi : gIx b0 (.int k) = some (.r (.int c)))
    (h : y [.v b0, .v (.int k), .v (.int c), .un] = .ok (.rt r) [.v b0, .v (.int k), .v (.int c), l3]) :
    runFn 4 (sSeq (sSet 2 (eK (.int 0))) (sSeq (sIf (tb (eOp2 gLt (eVar 1) (eFn gLen (aCons (eVar 0) aNil)))) (sSet 2 (eOp2 gIx (eVar 0) (eVar 1))) sNil) y)) [.v b0, .v (.int k)] = .ok r [.v b0, .v (.int k)] := by
  subst hb
  simp only [h1, hi, h, eMut, gAppend, gInsert, eRev, eIndex, eLenSet, gInt, gLen, gTuple, gList, gAbs, gMax2, gMin2, gDivmod, gEq_int, runFn, sSeq, sIf, sSet, sSetIx, sRet, sRetN, sNil, sDrop, sAsg, sFor, sPar, sNever, setO, retO, setOs, presc, eVar, eK, eTwo, v2, eFn, eDisp, eTup, eLst, eCall, eCallR, eCallK, pick, toSl, toSls, sIdx, wb, bk, esc, escs, vals, aNil, aCons, tb, Ev.tNot, Ev.tAnd, Ev.tOr, gGt, gLt, gGe, gLe, gSub, gMod, gDiv, gPow, gAdd, gMul, gInt, mulOk, g1, g2, fInt, fLen, fTuple, fList, fAbs, eAnd, eOr, eNot, eIf, eNeg, eIsi, gII, gIsN, gN, gT, gsNil, gsCons, isLent_eq, lentO, lentS_v, lentS_un, lentS_f, lentS_t, lentS_z, finE, okArg, Out.bind, Od.val, slVal, Bx.tr, Bx.t, isN, L2.ixN, L2.atI, isInt, isBool, isTuple, isList, isStr, isDict, isTL, Nat.zero_le, id_eq, eq_self, Pu.c0, Pu.c1, Pu.c2, Pu.c3, Pu.c4, Pu.c5, Pu.c6, Pu.c7, Pu.c8, Pu.c9, Pu.s1, Pu.s2, Pu.s3, Pu.s4, Pu.s5, Pu.s6, Pu.s7, Pu.s8, Pu.s9, Int.reduceEq, Nat.reduceMul, Int.ofNat_eq_natCast, wipeE, restE, exists_eq_left', Option.some.injEq, Out.ok.injEq, Prod.mk.injEq, Option.bind_some, Option.bind_none, Option.bind_eq_bind, List.getElem?_cons_zero, List.getElem?_cons_succ, List.getElem?_nil, List.set_cons_zero, List.set_cons_succ, List.set_nil, List.length_cons, List.length_nil, List.replicate_succ, List.replicate_zero, List.cons_append, List.nil_append, List.append_nil, List.all_cons, List.all_nil, Bool.and_true, Bool.true_and, Bool.and_false, Bool.false_and, if_true, if_false, ite_true, ite_false, List.nodup_cons, List.nodup_nil, List.not_mem_nil, List.mem_cons, not_false_eq_true, and_true, true_and, reduceIte, Nat.reduceAdd, Nat.reduceSub, Nat.reduceEqDiff, Nat.reduceLT, Nat.reduceLeDiff, Option.map_some, Option.map_none, Option.getD_some, reduceCtorEq, or_self, or_false, false_or, not_true_eq_false, decide_true, decide_false, Bool.not_true, Bool.not_false, Bool.false_eq_true, Nat.zero_add, Nat.add_zero, forall_const, Int.reduceLT, Int.reduceLE, Int.reduceNeg, Int.reduceToNat, Int.toNat_natCast, and_self]
theorem ld_2 (y : SemS) (k : Int) (ts : List T) (r : Od) (b0 : T) (hb : b0 = .list ts) (l3 : Sl) (h1 : ¬ k < (ts.length : Int))
    (h : y [.v b0, .v (.int k), .v (.int 0), .un] = .ok (.rt r) [.v b0, .v (.int k), .v (.int 0), l3]) :
    runFn 4 (sSeq (sSet 2 (eK (.int 0))) (sSeq (sIf (tb (eOp2 gLt (eVar 1) (eFn gLen (aCons (eVar 0) aNil)))) (sSet 2 (eOp2 gIx (eVar 0) (eVar 1))) sNil) y)) [.v b0, .v (.int k)] = .ok r [.v b0, .v (.int k)] := by
  subst hb
  simp only [h1, h, eMut, gAppend, gInsert, eRev, eIndex, eLenSet, gInt, gLen, gTuple, gList, gAbs, gMax2, gMin2, gDivmod, gEq_int, runFn, sSeq, sIf, sSet, sSetIx, sRet, sRetN, sNil, sDrop, sAsg, sFor, sPar, sNever, setO, retO, setOs, presc, eVar, eK, eTwo, v2, eFn, eDisp, eTup, eLst, eCall, eCallR, eCallK, pick, toSl, toSls, sIdx, wb, bk, esc, escs, vals, aNil, aCons, tb, Ev.tNot, Ev.tAnd, Ev.tOr, gGt, gLt, gGe, gLe, gSub, gMod, gDiv, gPow, gAdd, gMul, gInt, mulOk, g1, g2, fInt, fLen, fTuple, fList, fAbs, eAnd, eOr, eNot, eIf, eNeg, eIsi, gII, gIx, gIsN, gN, gT, gsNil, gsCons, isLent_eq, lentO, lentS_v, lentS_un, lentS_f, lentS_t, lentS_z, finE, okArg, Out.bind, Od.val, slVal, Bx.tr, Bx.t, isN, L2.ixN, L2.atI, isInt, isBool, isTuple, isList, isStr, isDict, isTL, Nat.zero_le, id_eq, eq_self, Pu.c0, Pu.c1, Pu.c2, Pu.c3, Pu.c4, Pu.c5, Pu.c6, Pu.c7, Pu.c8, Pu.c9, Pu.s1, Pu.s2, Pu.s3, Pu.s4, Pu.s5, Pu.s6, Pu.s7, Pu.s8, Pu.s9, Int.reduceEq, Nat.reduceMul, Int.ofNat_eq_natCast, wipeE, restE, exists_eq_left', Option.some.injEq, Out.ok.injEq, Prod.mk.injEq, Option.bind_some, Option.bind_none, Option.bind_eq_bind, List.getElem?_cons_zero, List.getElem?_cons_succ, List.getElem?_nil, List.set_cons_zero, List.set_cons_succ, List.set_nil, List.length_cons, List.length_nil, List.replicate_succ, List.replicate_zero, List.cons_append, List.nil_append, List.append_nil, List.all_cons, List.all_nil, Bool.and_true, Bool.true_and, Bool.and_false, Bool.false_and, if_true, if_false, ite_true, ite_false, List.nodup_cons, List.nodup_nil, List.not_mem_nil, List.mem_cons, not_false_eq_true, and_true, true_and, reduceIte, Nat.reduceAdd, Nat.reduceSub, Nat.reduceEqDiff, Nat.reduceLT, Nat.reduceLeDiff, Option.map_some, Option.map_none, Option.getD_some, reduceCtorEq, or_self, or_false, false_or, not_true_eq_false, decide_true, decide_false, Bool.not_true, Bool.not_false, Bool.false_eq_true, Nat.zero_add, Nat.add_zero, forall_const, Int.reduceLT, Int.reduceLE, Int.reduceNeg, Int.reduceToNat, Int.toNat_natCast, and_self]
theorem deck_ok (ns : List Int) (k : Nat) (hk : k < 1000) : ∃ D : Dk, m__law_deck [.v (scT ns), .v (nT k)] = .ok (.b (.l (dkT D))) [.v (scT ns), .v (nT k)] := by
  let cell : Int := cellAt ns k
  let s1 : Int := (cell + 7919 * (k : Int) + 104729) % 2305843009213693951
  let s2 : Int := (s1 * s1 * s1 + 31 * (k : Int) + 7) % 2305843009213693951
  have b1 : 0 ≤ s1 ∧ s1 < 2 ^ 61 := ⟨Int.emod_nonneg _ (by decide), Int.lt_trans (Int.emod_lt_of_pos _ (by decide)) (by decide)⟩
  have b2 : 0 ≤ s2 ∧ s2 < 18446744073709551616 := ⟨Int.emod_nonneg _ (by decide), Int.lt_trans (Int.emod_lt_of_pos _ (by decide)) (by decide)⟩
  have l1 := int_small b1.1 b1.2 (by decide)
  have l2 : (s1 * s1).natAbs.log2 < 122 := by
    refine int_small (Int.mul_nonneg b1.1 b1.1) ?_ (by decide)
    have : s1 * s1 ≤ (2 ^ 61 - 1) * (2 ^ 61 - 1) := Int.mul_le_mul (by omega) (by omega) b1.1 (by decide)
    omega
  have lk : (k : Int).natAbs.log2 < 10 := log2_small (by omega) (by decide)
  have c0 : (7919 : Int).natAbs.log2 < 64 := log2_small (by decide) (by decide)
  have c3 : (31 : Int).natAbs.log2 < 64 := log2_small (by decide) (by decide)
  have body := ld_b 7919 104729 2305843009213693951 31 7 2305843009213693951 cell (k : Int) s1 s2 (eOp2 gPow (eK (.int 10)) (eK (.int 18))) 1000000000000000000 (scT ns) .un p18 (by decide) (by decide) (by omega) (by omega) rfl rfl (by omega) (by omega)
  refine ⟨⟨if cell < 1000000000000000000 then 0 else cell - 1000000000000000000, s2, b2⟩, ?_⟩
  by_cases h : k < ns.length
  · exact ld_1 _ (k : Int) (ns.map PyData.int) cell _ (scT ns) rfl _ (by rw [List.length_map]; omega) (ix_sc ns k h) body
  · have e : cell = 0 := by
      show (ns[k]?).getD 0 = 0
      rw [List.getElem?_eq_none (by omega)]; rfl
    rw [e] at body
    have := ld_2 _ (k : Int) (ns.map PyData.int) _ (scT ns) rfl _ (by rw [List.length_map]; omega) body
    rw [show (if (0 : Int) < 1000000000000000000 then (0 : Int) else 0 - 1000000000000000000) = (if cell < 1000000000000000000 then 0 else cell - 1000000000000000000) by rw [e]] at this
    exact this
end Lw

set_option linter.all false
set_option maxRecDepth 100000
set_option maxHeartbeats 4000000
namespace Lw
open PySem PySem.Spec Ev Pu Mt
/-! ### all places in some sequence -/
structure PlOk (B : Nat) (ps : List (Int × Int)) : Prop where
  len : ps.length = B * B
  nod : ps.Nodup
  rng : ∀ c ∈ ps, (0 ≤ c.1 ∧ c.1 < (B : Int)) ∧ (0 ≤ c.2 ∧ c.2 < (B : Int))
def lnOf (B t : Nat) : List (Int × Int) := (List.range B).map fun (y : Nat) => ((t : Int), (y : Int))
def zig (B : Nat) : Nat → List (Int × Int)
  | 0 => []
  | t + 1 => zig B t ++ (if t % 2 = 0 then lnOf B t else (lnOf B t).reverse)
def allP (B : Nat) : List (Int × Int) := (List.range B).flatMap fun x => lnOf B x
theorem zig_ok {B : Nat} (h : B = 2 ∨ B = 3) : PlOk B (zig B B) := by
  rcases h with rfl | rfl
  · exact ⟨by decide, by decide, by decide⟩
  · exact ⟨by decide, by decide, by decide⟩
theorem all_ok {B : Nat} (h : B = 2 ∨ B = 3) : PlOk B (allP B) := by
  rcases h with rfl | rfl
  · exact ⟨by decide, by decide, by decide⟩
  · exact ⟨by decide, by decide, by decide⟩
theorem PlOk.perm {B : Nat} {ps qs : List (Int × Int)} (h : PlOk B ps) (p : qs.Perm ps) : PlOk B qs :=
  ⟨p.length_eq.trans h.len, p.nodup_iff.mpr h.nod, fun c hc => h.rng c (p.mem_iff.mp hc)⟩
theorem forS_step {g : SemG} {b : SemS} {ts : List T} {t : T} {e e1 e2 : En} (h1 : g t e = some e1) (h2 : b e1 = .ok .nx e2) : forS g b (t :: ts) e = forS g b ts e2 := by
  rw [forS, h1]
  simp only [h2]
theorem pl_x (B t : Nat) (hB : B ≤ 3) (s0 s2 s4 : Sl) : x1__law_places [s0, .v (nT B), s2, .v (nT t), s4, .un] = .ok (.b (.l ((lnOf B t).map cT))) [s0, .v (nT B), s2, .v (nT t), s4, .un] := by
  have hi := iR1_nat (m := aCons (eVar 1) aNil) (e := [s0, .v (nT B), s2, .v (nT t), s4, .un]) (e1 := [s0, .v (nT B), s2, .v (nT t), s4, .un]) (rs := [.r (nT B)]) (n := B) rfl rfl (by omega)
  unfold x1__law_places eComp
  rw [hi]
  have h := comp_on (g := gN 5) (c := tTrue) (m := eTup (aCons (eVar 3) (aCons (eVar 5) aNil))) (vs := [5]) (fun (y : Nat) => PyData.int (0 + (y : Int))) (fun y => cT ((t : Int), (y : Int))) (List.range B) [] [s0, .v (nT B), s2, .v (nT t), s4, .un] (by rw [List.length_range, List.length_nil]; unfold sizeLine; omega) fun y hy => by
    refine ⟨_, rfl, _, rfl, .r (cT ((t : Int), (y : Int))), [s0, .v (nT B), s2, .v (nT t), s4, .v (nT y)], ?_, _, rfl, rfl⟩
    have e : (0 : Int) + (y : Int) = (y : Int) := by omega
    rw [e]
    simp only [nT, cT, wipeE, eMut, gAppend, gInsert, eRev, eIndex, eLenSet, gInt, gLen, gTuple, gList, gAbs, gMax2, gMin2, gDivmod, gEq_int, runFn, sSeq, sIf, sSet, sSetIx, sRet, sRetN, sNil, sDrop, sAsg, sFor, sPar, sNever, setO, retO, setOs, presc, eVar, eK, eTwo, v2, eFn, eDisp, eTup, eLst, eCall, eCallR, eCallK, pick, toSl, toSls, sIdx, wb, bk, esc, escs, vals, aNil, aCons, tb, Ev.tNot, Ev.tAnd, Ev.tOr, gGt, gLt, gGe, gLe, gSub, gMod, gDiv, gPow, gAdd, gMul, gInt, mulOk, g1, g2, fInt, fLen, fTuple, fList, fAbs, eAnd, eOr, eNot, eIf, eNeg, eIsi, gII, gIx, gIsN, gN, gT, gsNil, gsCons, isLent_eq, lentO, lentS_v, lentS_un, lentS_f, lentS_t, lentS_z, finE, okArg, Out.bind, Od.val, slVal, Bx.tr, Bx.t, isN, L2.ixN, L2.atI, isInt, isBool, isTuple, isList, isStr, isDict, isTL, Nat.zero_le, id_eq, eq_self, Pu.c0, Pu.c1, Pu.c2, Pu.c3, Pu.c4, Pu.c5, Pu.c6, Pu.c7, Pu.c8, Pu.c9, Pu.s1, Pu.s2, Pu.s3, Pu.s4, Pu.s5, Pu.s6, Pu.s7, Pu.s8, Pu.s9, Int.reduceEq, Nat.reduceMul, Int.ofNat_eq_natCast, wipeE, restE, exists_eq_left', Option.some.injEq, Out.ok.injEq, Prod.mk.injEq, Option.bind_some, Option.bind_none, Option.bind_eq_bind, List.getElem?_cons_zero, List.getElem?_cons_succ, List.getElem?_nil, List.set_cons_zero, List.set_cons_succ, List.set_nil, List.length_cons, List.length_nil, List.replicate_succ, List.replicate_zero, List.cons_append, List.nil_append, List.append_nil, List.all_cons, List.all_nil, Bool.and_true, Bool.true_and, Bool.and_false, Bool.false_and, if_true, if_false, ite_true, ite_false, List.nodup_cons, List.nodup_nil, List.not_mem_nil, List.mem_cons, not_false_eq_true, and_true, true_and, reduceIte, Nat.reduceAdd, Nat.reduceSub, Nat.reduceEqDiff, Nat.reduceLT, Nat.reduceLeDiff, Option.map_some, Option.map_none, Option.getD_some, reduceCtorEq, or_self, or_false, false_or, not_true_eq_false, decide_true, decide_false, Bool.not_true, Bool.not_false, Bool.false_eq_true, Nat.zero_add, Nat.add_zero, forall_const, Int.reduceLT, Int.reduceLE, Int.reduceNeg, Int.reduceToNat, Int.toNat_natCast, and_self]
  unfold lnOf
  rw [List.map_map]
  exact h
theorem pl_y (x : SemE) (s0 : Sl) (t1 : T) (ts ln : List T) (t : Int) (l4 : Sl) (a4 : lentS l4 = false) (hs : ts.length + ln.length ≤ sizeLine) (h : ∀ s4, x [s0, .v t1, .ow false (.l ts), .v (.int t), s4, .un] = .ok (.b (.l ln)) [s0, .v t1, .ow false (.l ts), .v (.int t), s4, .un]) :
    (sSeq (sSet 4 x) (sSet 2 (eOp2 gAdd (eVar 2) (eIf (tb (eOp2 (gEq id) (eOp2 gMod (eFn gInt (aCons (eVar 3) aNil)) (eK (.int 2))) (eK (.int 0)))) (eVar 4) (eRev (eVar 4)))))) [s0, .v t1, .ow false (.l ts), .v (.int t), l4, .un] = .ok .nx [s0, .v t1, .ow false (.l (ts ++ (if t % 2 = 0 then ln else ln.reverse))), .v (.int t), .ow false (.l ln), .un] := by
  by_cases hp : t % 2 = 0
  · simp only [h, hp, hs, a4, List.length_reverse, eMut, gAppend, gInsert, eRev, eIndex, eLenSet, gInt, gLen, gTuple, gList, gAbs, gMax2, gMin2, gDivmod, gEq_int, runFn, sSeq, sIf, sSet, sSetIx, sRet, sRetN, sNil, sDrop, sAsg, sFor, sPar, sNever, setO, retO, setOs, presc, eVar, eK, eTwo, v2, eFn, eDisp, eTup, eLst, eCall, eCallR, eCallK, pick, toSl, toSls, sIdx, wb, bk, esc, escs, vals, aNil, aCons, tb, Ev.tNot, Ev.tAnd, Ev.tOr, gGt, gLt, gGe, gLe, gSub, gMod, gDiv, gPow, gAdd, gMul, gInt, mulOk, g1, g2, fInt, fLen, fTuple, fList, fAbs, eAnd, eOr, eNot, eIf, eNeg, eIsi, gII, gIx, gIsN, gN, gT, gsNil, gsCons, isLent_eq, lentO, lentS_v, lentS_un, lentS_f, lentS_t, lentS_z, finE, okArg, Out.bind, Od.val, slVal, Bx.tr, Bx.t, isN, L2.ixN, L2.atI, isInt, isBool, isTuple, isList, isStr, isDict, isTL, Nat.zero_le, id_eq, eq_self, Pu.c0, Pu.c1, Pu.c2, Pu.c3, Pu.c4, Pu.c5, Pu.c6, Pu.c7, Pu.c8, Pu.c9, Pu.s1, Pu.s2, Pu.s3, Pu.s4, Pu.s5, Pu.s6, Pu.s7, Pu.s8, Pu.s9, Int.reduceEq, Nat.reduceMul, Int.ofNat_eq_natCast, wipeE, restE, exists_eq_left', Option.some.injEq, Out.ok.injEq, Prod.mk.injEq, Option.bind_some, Option.bind_none, Option.bind_eq_bind, List.getElem?_cons_zero, List.getElem?_cons_succ, List.getElem?_nil, List.set_cons_zero, List.set_cons_succ, List.set_nil, List.length_cons, List.length_nil, List.replicate_succ, List.replicate_zero, List.cons_append, List.nil_append, List.append_nil, List.all_cons, List.all_nil, Bool.and_true, Bool.true_and, Bool.and_false, Bool.false_and, if_true, if_false, ite_true, ite_false, List.nodup_cons, List.nodup_nil, List.not_mem_nil, List.mem_cons, not_false_eq_true, and_true, true_and, reduceIte, Nat.reduceAdd, Nat.reduceSub, Nat.reduceEqDiff, Nat.reduceLT, Nat.reduceLeDiff, Option.map_some, Option.map_none, Option.getD_some, reduceCtorEq, or_self, or_false, false_or, not_true_eq_false, decide_true, decide_false, Bool.not_true, Bool.not_false, Bool.false_eq_true, Nat.zero_add, Nat.add_zero, forall_const, Int.reduceLT, Int.reduceLE, Int.reduceNeg, Int.reduceToNat, Int.toNat_natCast, and_self]
  · simp only [h, hp, hs, a4, List.length_reverse, eMut, gAppend, gInsert, eRev, eIndex, eLenSet, gInt, gLen, gTuple, gList, gAbs, gMax2, gMin2, gDivmod, gEq_int, runFn, sSeq, sIf, sSet, sSetIx, sRet, sRetN, sNil, sDrop, sAsg, sFor, sPar, sNever, setO, retO, setOs, presc, eVar, eK, eTwo, v2, eFn, eDisp, eTup, eLst, eCall, eCallR, eCallK, pick, toSl, toSls, sIdx, wb, bk, esc, escs, vals, aNil, aCons, tb, Ev.tNot, Ev.tAnd, Ev.tOr, gGt, gLt, gGe, gLe, gSub, gMod, gDiv, gPow, gAdd, gMul, gInt, mulOk, g1, g2, fInt, fLen, fTuple, fList, fAbs, eAnd, eOr, eNot, eIf, eNeg, eIsi, gII, gIx, gIsN, gN, gT, gsNil, gsCons, isLent_eq, lentO, lentS_v, lentS_un, lentS_f, lentS_t, lentS_z, finE, okArg, Out.bind, Od.val, slVal, Bx.tr, Bx.t, isN, L2.ixN, L2.atI, isInt, isBool, isTuple, isList, isStr, isDict, isTL, Nat.zero_le, id_eq, eq_self, Pu.c0, Pu.c1, Pu.c2, Pu.c3, Pu.c4, Pu.c5, Pu.c6, Pu.c7, Pu.c8, Pu.c9, Pu.s1, Pu.s2, Pu.s3, Pu.s4, Pu.s5, Pu.s6, Pu.s7, Pu.s8, Pu.s9, Int.reduceEq, Nat.reduceMul, Int.ofNat_eq_natCast, wipeE, restE, exists_eq_left', Option.some.injEq, Out.ok.injEq, Prod.mk.injEq, Option.bind_some, Option.bind_none, Option.bind_eq_bind, List.getElem?_cons_zero, List.getElem?_cons_succ, List.getElem?_nil, List.set_cons_zero, List.set_cons_succ, List.set_nil, List.length_cons, List.length_nil, List.replicate_succ, List.replicate_zero, List.cons_append, List.nil_append, List.append_nil, List.all_cons, List.all_nil, Bool.and_true, Bool.true_and, Bool.and_false, Bool.false_and, if_true, if_false, ite_true, ite_false, List.nodup_cons, List.nodup_nil, List.not_mem_nil, List.mem_cons, not_false_eq_true, and_true, true_and, reduceIte, Nat.reduceAdd, Nat.reduceSub, Nat.reduceEqDiff, Nat.reduceLT, Nat.reduceLeDiff, Option.map_some, Option.map_none, Option.getD_some, reduceCtorEq, or_self, or_false, false_or, not_true_eq_false, decide_true, decide_false, Bool.not_true, Bool.not_false, Bool.false_eq_true, Nat.zero_add, Nat.add_zero, forall_const, Int.reduceLT, Int.reduceLE, Int.reduceNeg, Int.reduceToNat, Int.toNat_natCast, and_self]
theorem zig_len (B : Nat) : ∀ t, (zig B t).length = t * B
  | 0 => by simp [zig]
  | t + 1 => by
    rw [zig, List.length_append, zig_len B t, Nat.succ_mul]
    split <;> simp [lnOf]
theorem pl_l1 (B : Nat) (hB : B ≤ 3) (s0 : Sl) : ∃ l3 l4, l1__law_places [s0, .v (nT B), .ow false (.l []), .un, .un, .un] = .ok .nx [s0, .v (nT B), .ow false (.l ((zig B B).map cT)), l3, l4, .un] := by
  have hi := iR1_nat (m := aCons (eVar 1) aNil) (e := [s0, .v (nT B), .ow false (.l []), .un, .un, .un]) (e1 := [s0, .v (nT B), .ow false (.l []), .un, .un, .un]) (rs := [.r (nT B)]) (n := B) rfl rfl (by omega)
  have key : ∀ (n t : Nat) (l3 l4 : Sl), lentS l3 = false → lentS l4 = false → n + t = B → ∃ l3' l4', forS (gN 3) y1__law_places ((List.range' t n).map fun (k : Nat) => PyData.int (0 + (k : Int))) [s0, .v (nT B), .ow false (.l ((zig B t).map cT)), l3, l4, .un] = .ok .nx [s0, .v (nT B), .ow false (.l ((zig B B).map cT)), l3', l4', .un] := by
    intro n
    induction n with
    | zero => intro t l3 l4 _ _ h; rw [show t = B by omega]; exact ⟨_, _, rfl⟩
    | succ n ih =>
      intro t l3 l4 a3 a4 h
      rw [List.range'_succ, List.map_cons]
      have e : (0 : Int) + (t : Int) = (t : Int) := by omega
      have hl := zig_len B t
      have ht : t * B ≤ 9 := Nat.mul_le_mul (show t ≤ 3 by omega) hB
      have st := pl_y x1__law_places s0 (nT B) ((zig B t).map cT) ((lnOf B t).map cT) (t : Int) l4 a4 (by rw [List.length_map, List.length_map, hl]; simp only [lnOf, List.length_map, List.length_range]; unfold sizeLine; omega) fun s4 => pl_x B t hB s0 _ s4
      have ez : (zig B t).map cT ++ (if (t : Int) % 2 = 0 then (lnOf B t).map cT else ((lnOf B t).map cT).reverse) = (zig B (t + 1)).map cT := by
        rw [zig, List.map_append]
        refine congrArg (fun z => (zig B t).map cT ++ z) ?_
        by_cases hp : t % 2 = 0
        · rw [if_pos hp, if_pos (by omega)]
        · rw [if_neg hp, if_neg (by omega), List.map_reverse]
      rw [ez] at st
      obtain ⟨l3', l4', h2⟩ := ih (t + 1) (.v (.int (t : Int))) (.ow false (.l ((lnOf B t).map cT))) rfl rfl (by omega)
      refine ⟨l3', l4', ?_⟩
      have hg : gN 3 (PyData.int (0 + (t : Int))) [s0, .v (nT B), .ow false (.l ((zig B t).map cT)), l3, l4, .un] = some [s0, .v (nT B), .ow false (.l ((zig B t).map cT)), .v (.int (t : Int)), l4, .un] := by rw [e]; simp only [a3, eMut, gAppend, gInsert, eRev, eIndex, eLenSet, gInt, gLen, gTuple, gList, gAbs, gMax2, gMin2, gDivmod, gEq_int, runFn, sSeq, sIf, sSet, sSetIx, sRet, sRetN, sNil, sDrop, sAsg, sFor, sPar, sNever, setO, retO, setOs, presc, eVar, eK, eTwo, v2, eFn, eDisp, eTup, eLst, eCall, eCallR, eCallK, pick, toSl, toSls, sIdx, wb, bk, esc, escs, vals, aNil, aCons, tb, Ev.tNot, Ev.tAnd, Ev.tOr, gGt, gLt, gGe, gLe, gSub, gMod, gDiv, gPow, gAdd, gMul, gInt, mulOk, g1, g2, fInt, fLen, fTuple, fList, fAbs, eAnd, eOr, eNot, eIf, eNeg, eIsi, gII, gIx, gIsN, gN, gT, gsNil, gsCons, isLent_eq, lentO, lentS_v, lentS_un, lentS_f, lentS_t, lentS_z, finE, okArg, Out.bind, Od.val, slVal, Bx.tr, Bx.t, isN, L2.ixN, L2.atI, isInt, isBool, isTuple, isList, isStr, isDict, isTL, Nat.zero_le, id_eq, eq_self, Pu.c0, Pu.c1, Pu.c2, Pu.c3, Pu.c4, Pu.c5, Pu.c6, Pu.c7, Pu.c8, Pu.c9, Pu.s1, Pu.s2, Pu.s3, Pu.s4, Pu.s5, Pu.s6, Pu.s7, Pu.s8, Pu.s9, Int.reduceEq, Nat.reduceMul, Int.ofNat_eq_natCast, wipeE, restE, exists_eq_left', Option.some.injEq, Out.ok.injEq, Prod.mk.injEq, Option.bind_some, Option.bind_none, Option.bind_eq_bind, List.getElem?_cons_zero, List.getElem?_cons_succ, List.getElem?_nil, List.set_cons_zero, List.set_cons_succ, List.set_nil, List.length_cons, List.length_nil, List.replicate_succ, List.replicate_zero, List.cons_append, List.nil_append, List.append_nil, List.all_cons, List.all_nil, Bool.and_true, Bool.true_and, Bool.and_false, Bool.false_and, if_true, if_false, ite_true, ite_false, List.nodup_cons, List.nodup_nil, List.not_mem_nil, List.mem_cons, not_false_eq_true, and_true, true_and, reduceIte, Nat.reduceAdd, Nat.reduceSub, Nat.reduceEqDiff, Nat.reduceLT, Nat.reduceLeDiff, Option.map_some, Option.map_none, Option.getD_some, reduceCtorEq, or_self, or_false, false_or, not_true_eq_false, decide_true, decide_false, Bool.not_true, Bool.not_false, Bool.false_eq_true, Nat.zero_add, Nat.add_zero, forall_const, Int.reduceLT, Int.reduceLE, Int.reduceNeg, Int.reduceToNat, Int.toNat_natCast, and_self]
      exact (forS_step hg st).trans h2
  obtain ⟨l3', l4', h⟩ := key B 0 .un .un rfl rfl (by omega)
  rw [← List.range_eq_range'] at h
  refine ⟨l3', l4', ?_⟩
  unfold l1__law_places
  rw [sFor_eq hi]
  exact h
theorem ins_perm {α : Type} (l : List α) (i : Nat) (u : α) : (l.take i ++ [u] ++ l.drop i).Perm (l ++ [u]) := by
  have h1 : (l.take i ++ [u] ++ l.drop i).Perm (u :: (l.take i ++ l.drop i)) := by
    rw [List.append_assoc, List.singleton_append]
    exact List.perm_middle
  rw [List.take_append_drop] at h1
  exact h1.trans (List.perm_append_singleton u l).symm
theorem pi_y (m : FSem) (d d' ts : List T) (t1 : T) (x y v : Int) (l4 : Sl) (hs : ts.length < sizeLine) (hv : 0 ≤ v ∧ v < 2 ^ 63) (h : m [.ow true (.l d), .v (.int ((ts.length : Int) + 1))] = .ok (.r (.int v)) [.ow true (.l d'), .v (.int ((ts.length : Int) + 1))]) :
    (sDrop (eMut 2 gInsert (aCons (eCall 2 m (aCons (eVar 0) (aCons (eOp2 gAdd (eFn gLen (aCons (eVar 2) aNil)) (eK (.int 1))) aNil))) (aCons (eTup (aCons (eVar 3) (aCons (eVar 5) aNil))) aNil)))) [.ow true (.l d), .v t1, .ow false (.l ts), .v (.int x), l4, .v (.int y)] = .ok .nx [.ow true (.l d'), .v t1, .ow false (.l (ts.take v.toNat ++ [.tuple [.int x, .int y]] ++ ts.drop v.toNat)), .v (.int x), l4, .v (.int y)] := by
  have hv1 := hv.1
  have hv2 := hv.2
  simp only [h, hs, hv1, hv2, eMut, gAppend, gInsert, eRev, eIndex, eLenSet, gInt, gLen, gTuple, gList, gAbs, gMax2, gMin2, gDivmod, gEq_int, runFn, sSeq, sIf, sSet, sSetIx, sRet, sRetN, sNil, sDrop, sAsg, sFor, sPar, sNever, setO, retO, setOs, presc, eVar, eK, eTwo, v2, eFn, eDisp, eTup, eLst, eCall, eCallR, eCallK, pick, toSl, toSls, sIdx, wb, bk, esc, escs, vals, aNil, aCons, tb, Ev.tNot, Ev.tAnd, Ev.tOr, gGt, gLt, gGe, gLe, gSub, gMod, gDiv, gPow, gAdd, gMul, gInt, mulOk, g1, g2, fInt, fLen, fTuple, fList, fAbs, eAnd, eOr, eNot, eIf, eNeg, eIsi, gII, gIx, gIsN, gN, gT, gsNil, gsCons, isLent_eq, lentO, lentS_v, lentS_un, lentS_f, lentS_t, lentS_z, finE, okArg, Out.bind, Od.val, slVal, Bx.tr, Bx.t, isN, L2.ixN, L2.atI, isInt, isBool, isTuple, isList, isStr, isDict, isTL, Nat.zero_le, id_eq, eq_self, Pu.c0, Pu.c1, Pu.c2, Pu.c3, Pu.c4, Pu.c5, Pu.c6, Pu.c7, Pu.c8, Pu.c9, Pu.s1, Pu.s2, Pu.s3, Pu.s4, Pu.s5, Pu.s6, Pu.s7, Pu.s8, Pu.s9, Int.reduceEq, Nat.reduceMul, Int.ofNat_eq_natCast, wipeE, restE, exists_eq_left', Option.some.injEq, Out.ok.injEq, Prod.mk.injEq, Option.bind_some, Option.bind_none, Option.bind_eq_bind, List.getElem?_cons_zero, List.getElem?_cons_succ, List.getElem?_nil, List.set_cons_zero, List.set_cons_succ, List.set_nil, List.length_cons, List.length_nil, List.replicate_succ, List.replicate_zero, List.cons_append, List.nil_append, List.append_nil, List.all_cons, List.all_nil, Bool.and_true, Bool.true_and, Bool.and_false, Bool.false_and, if_true, if_false, ite_true, ite_false, List.nodup_cons, List.nodup_nil, List.not_mem_nil, List.mem_cons, not_false_eq_true, and_true, true_and, reduceIte, Nat.reduceAdd, Nat.reduceSub, Nat.reduceEqDiff, Nat.reduceLT, Nat.reduceLeDiff, Option.map_some, Option.map_none, Option.getD_some, reduceCtorEq, or_self, or_false, false_or, not_true_eq_false, decide_true, decide_false, Bool.not_true, Bool.not_false, Bool.false_eq_true, Nat.zero_add, Nat.add_zero, forall_const, Int.reduceLT, Int.reduceLE, Int.reduceNeg, Int.reduceToNat, Int.toNat_natCast, and_self]
theorem pl_l2 (B x : Nat) (hB : B ≤ 3) (l4 : Sl) : ∀ (n t : Nat) (D : Dk) (fs : List (Int × Int)) (l5 : Sl), lentS l5 = false → fs.length + n ≤ 20 →
    ∃ (D' : Dk) (gs : List (Int × Int)) (l5' : Sl), lentS l5' = false ∧ forS (gN 5) y2__law_places ((List.range' t n).map fun (k : Nat) => PyData.int (0 + (k : Int))) [.ow true (.l (dkT D)), .v (nT B), .ow false (.l (fs.map cT)), .v (nT x), l4, l5] = .ok .nx [.ow true (.l (dkT D')), .v (nT B), .ow false (.l (gs.map cT)), .v (nT x), l4, l5'] ∧
      gs.Perm (fs ++ (List.range' t n).map fun (y : Nat) => ((x : Int), (y : Int)))
  | 0, t, D, fs, l5, a5, _ => ⟨D, fs, l5, a5, rfl, by simp⟩
  | n + 1, t, D, fs, l5, a5, hl => by
    have e : (0 : Int) + (t : Int) = (t : Int) := by omega
    have hv := tkV_lt D (n := fs.length + 1) (by omega)
    have tk := tk_ok D (fs.length + 1) (by omega) (by omega)
    have st := pi_y m__law_take (dkT D) (dkT (tkD D (fs.length + 1))) (fs.map cT) (nT B) (x : Int) (t : Int) (tkV D (fs.length + 1) : Int) l4 (by rw [List.length_map]; unfold sizeLine; omega) (by omega) (by rw [List.length_map]; exact tk)
    rw [Int.toNat_natCast, ← List.map_take, ← List.map_drop, show [PyData.tuple [.int (x : Int), .int (t : Int)]] = [((x : Int), (t : Int))].map cT from rfl, ← List.map_append, ← List.map_append] at st
    obtain ⟨D', gs, l5', a5', h1, h2⟩ := pl_l2 B x hB l4 n (t + 1) (tkD D (fs.length + 1)) (fs.take (tkV D (fs.length + 1)) ++ [((x : Int), (t : Int))] ++ fs.drop (tkV D (fs.length + 1))) (.v (.int (t : Int))) rfl (by
      rw [(ins_perm fs _ _).length_eq, List.length_append, List.length_singleton]; omega)
    refine ⟨D', gs, l5', a5', ?_, ?_⟩
    · have hg : gN 5 (PyData.int (0 + (t : Int))) [.ow true (.l (dkT D)), .v (nT B), .ow false (.l (fs.map cT)), .v (nT x), l4, l5] = some [.ow true (.l (dkT D)), .v (nT B), .ow false (.l (fs.map cT)), .v (nT x), l4, .v (.int (t : Int))] := by rw [e]; simp only [a5, eMut, gAppend, gInsert, eRev, eIndex, eLenSet, gInt, gLen, gTuple, gList, gAbs, gMax2, gMin2, gDivmod, gEq_int, runFn, sSeq, sIf, sSet, sSetIx, sRet, sRetN, sNil, sDrop, sAsg, sFor, sPar, sNever, setO, retO, setOs, presc, eVar, eK, eTwo, v2, eFn, eDisp, eTup, eLst, eCall, eCallR, eCallK, pick, toSl, toSls, sIdx, wb, bk, esc, escs, vals, aNil, aCons, tb, Ev.tNot, Ev.tAnd, Ev.tOr, gGt, gLt, gGe, gLe, gSub, gMod, gDiv, gPow, gAdd, gMul, gInt, mulOk, g1, g2, fInt, fLen, fTuple, fList, fAbs, eAnd, eOr, eNot, eIf, eNeg, eIsi, gII, gIx, gIsN, gN, gT, gsNil, gsCons, isLent_eq, lentO, lentS_v, lentS_un, lentS_f, lentS_t, lentS_z, finE, okArg, Out.bind, Od.val, slVal, Bx.tr, Bx.t, isN, L2.ixN, L2.atI, isInt, isBool, isTuple, isList, isStr, isDict, isTL, Nat.zero_le, id_eq, eq_self, Pu.c0, Pu.c1, Pu.c2, Pu.c3, Pu.c4, Pu.c5, Pu.c6, Pu.c7, Pu.c8, Pu.c9, Pu.s1, Pu.s2, Pu.s3, Pu.s4, Pu.s5, Pu.s6, Pu.s7, Pu.s8, Pu.s9, Int.reduceEq, Nat.reduceMul, Int.ofNat_eq_natCast, wipeE, restE, exists_eq_left', Option.some.injEq, Out.ok.injEq, Prod.mk.injEq, Option.bind_some, Option.bind_none, Option.bind_eq_bind, List.getElem?_cons_zero, List.getElem?_cons_succ, List.getElem?_nil, List.set_cons_zero, List.set_cons_succ, List.set_nil, List.length_cons, List.length_nil, List.replicate_succ, List.replicate_zero, List.cons_append, List.nil_append, List.append_nil, List.all_cons, List.all_nil, Bool.and_true, Bool.true_and, Bool.and_false, Bool.false_and, if_true, if_false, ite_true, ite_false, List.nodup_cons, List.nodup_nil, List.not_mem_nil, List.mem_cons, not_false_eq_true, and_true, true_and, reduceIte, Nat.reduceAdd, Nat.reduceSub, Nat.reduceEqDiff, Nat.reduceLT, Nat.reduceLeDiff, Option.map_some, Option.map_none, Option.getD_some, reduceCtorEq, or_self, or_false, false_or, not_true_eq_false, decide_true, decide_false, Bool.not_true, Bool.not_false, Bool.false_eq_true, Nat.zero_add, Nat.add_zero, forall_const, Int.reduceLT, Int.reduceLE, Int.reduceNeg, Int.reduceToNat, Int.toNat_natCast, and_self]
      rw [List.range'_succ, List.map_cons]
      exact (forS_step hg st).trans h1
    · rw [List.range'_succ, List.map_cons]
      refine h2.trans ((List.Perm.append_right _ (ins_perm fs _ _)).trans ?_)
      rw [List.append_assoc, List.singleton_append]
theorem pl_l3 (B : Nat) (hB : B ≤ 3) : ∀ (n t : Nat) (D : Dk) (fs : List (Int × Int)) (l3 l5 : Sl), lentS l3 = false → lentS l5 = false → fs.length + n * B ≤ 20 →
    ∃ (D' : Dk) (gs : List (Int × Int)) (l3' l5' : Sl), forS (gN 3) y3__law_places ((List.range' t n).map fun (k : Nat) => PyData.int (0 + (k : Int))) [.ow true (.l (dkT D)), .v (nT B), .ow false (.l (fs.map cT)), l3, .un, l5] = .ok .nx [.ow true (.l (dkT D')), .v (nT B), .ow false (.l (gs.map cT)), l3', .un, l5'] ∧
      gs.Perm (fs ++ (List.range' t n).flatMap fun x => lnOf B x)
  | 0, t, D, fs, l3, l5, _, _, _ => ⟨D, fs, l3, l5, rfl, by simp⟩
  | n + 1, t, D, fs, l3, l5, a3, a5, hl => by
    have e : (0 : Int) + (t : Int) = (t : Int) := by omega
    rw [Nat.succ_mul] at hl
    obtain ⟨D1, f1, l51, a51, h1, h2⟩ := pl_l2 B t hB .un B 0 D fs l5 a5 (by omega)
    have hlen : f1.length = fs.length + B := by rw [h2.length_eq]; simp
    obtain ⟨D2, f2, l32, l52, h3, h4⟩ := pl_l3 B hB n (t + 1) D1 f1 (.v (nT t)) l51 rfl a51 (by omega)
    refine ⟨D2, f2, l32, l52, ?_, ?_⟩
    · have hg : gN 3 (PyData.int (0 + (t : Int))) [.ow true (.l (dkT D)), .v (nT B), .ow false (.l (fs.map cT)), l3, .un, l5] = some [.ow true (.l (dkT D)), .v (nT B), .ow false (.l (fs.map cT)), .v (nT t), .un, l5] := by rw [e]; simp only [a3, nT, eMut, gAppend, gInsert, eRev, eIndex, eLenSet, gInt, gLen, gTuple, gList, gAbs, gMax2, gMin2, gDivmod, gEq_int, runFn, sSeq, sIf, sSet, sSetIx, sRet, sRetN, sNil, sDrop, sAsg, sFor, sPar, sNever, setO, retO, setOs, presc, eVar, eK, eTwo, v2, eFn, eDisp, eTup, eLst, eCall, eCallR, eCallK, pick, toSl, toSls, sIdx, wb, bk, esc, escs, vals, aNil, aCons, tb, Ev.tNot, Ev.tAnd, Ev.tOr, gGt, gLt, gGe, gLe, gSub, gMod, gDiv, gPow, gAdd, gMul, gInt, mulOk, g1, g2, fInt, fLen, fTuple, fList, fAbs, eAnd, eOr, eNot, eIf, eNeg, eIsi, gII, gIx, gIsN, gN, gT, gsNil, gsCons, isLent_eq, lentO, lentS_v, lentS_un, lentS_f, lentS_t, lentS_z, finE, okArg, Out.bind, Od.val, slVal, Bx.tr, Bx.t, isN, L2.ixN, L2.atI, isInt, isBool, isTuple, isList, isStr, isDict, isTL, Nat.zero_le, id_eq, eq_self, Pu.c0, Pu.c1, Pu.c2, Pu.c3, Pu.c4, Pu.c5, Pu.c6, Pu.c7, Pu.c8, Pu.c9, Pu.s1, Pu.s2, Pu.s3, Pu.s4, Pu.s5, Pu.s6, Pu.s7, Pu.s8, Pu.s9, Int.reduceEq, Nat.reduceMul, Int.ofNat_eq_natCast, wipeE, restE, exists_eq_left', Option.some.injEq, Out.ok.injEq, Prod.mk.injEq, Option.bind_some, Option.bind_none, Option.bind_eq_bind, List.getElem?_cons_zero, List.getElem?_cons_succ, List.getElem?_nil, List.set_cons_zero, List.set_cons_succ, List.set_nil, List.length_cons, List.length_nil, List.replicate_succ, List.replicate_zero, List.cons_append, List.nil_append, List.append_nil, List.all_cons, List.all_nil, Bool.and_true, Bool.true_and, Bool.and_false, Bool.false_and, if_true, if_false, ite_true, ite_false, List.nodup_cons, List.nodup_nil, List.not_mem_nil, List.mem_cons, not_false_eq_true, and_true, true_and, reduceIte, Nat.reduceAdd, Nat.reduceSub, Nat.reduceEqDiff, Nat.reduceLT, Nat.reduceLeDiff, Option.map_some, Option.map_none, Option.getD_some, reduceCtorEq, or_self, or_false, false_or, not_true_eq_false, decide_true, decide_false, Bool.not_true, Bool.not_false, Bool.false_eq_true, Nat.zero_add, Nat.add_zero, forall_const, Int.reduceLT, Int.reduceLE, Int.reduceNeg, Int.reduceToNat, Int.toNat_natCast, and_self]
      rw [List.range'_succ, List.map_cons]
      have hi := iR1_nat (m := aCons (eVar 1) aNil) (e := [.ow true (.l (dkT D)), .v (nT B), .ow false (.l (fs.map cT)), .v (nT t), .un, l5]) (e1 := [.ow true (.l (dkT D)), .v (nT B), .ow false (.l (fs.map cT)), .v (nT t), .un, l5]) (rs := [.r (nT B)]) (n := B) rfl rfl (by omega)
      have hy : y3__law_places [.ow true (.l (dkT D)), .v (nT B), .ow false (.l (fs.map cT)), .v (nT t), .un, l5] = .ok .nx [.ow true (.l (dkT D1)), .v (nT B), .ow false (.l (f1.map cT)), .v (nT t), .un, l51] := by
        unfold y3__law_places l2__law_places
        rw [sFor_eq hi, List.range_eq_range']
        exact h1
      exact (forS_step hg hy).trans h3
    · rw [List.range'_succ, List.flatMap_cons]
      refine h4.trans ((List.Perm.append_right _ h2).trans ?_)
      rw [List.append_assoc, ← List.range_eq_range']
      exact List.Perm.refl _
theorem pl_1 (m : FSem) (y1 y3 : SemS) (d d' ts : List T) (t1 : T) (s0 l3 l4 l5 : Sl) (h : m [.ow true (.l d), .v (.int 3)] = .ok (.r (.int 0)) [.ow true (.l d'), .v (.int 3)])
    (h1 : y1 [.ow true (.l d'), .v t1, .ow false (.l []), .un, .un, .un] = .ok .nx [.ow true (.l d'), .v t1, .ow false (.l ts), l3, l4, l5]) :
    runFn 6 (sSeq (sSet 2 (eLst aNil)) (sSeq (sIf (tb (eOp2 (gEq id) (eCall 2 m (aCons (eVar 0) (aCons (eK (.int 3)) aNil))) (eK (.int 0)))) (sSeq y1 (sRet (eVar 2))) sNil) (sSeq y3 (sRet (eVar 2))))) [.ow true (.l d), .v t1] = .ok (.b (.l ts)) [.ow true (.l d'), .v t1] := by
  simp only [h, h1, eMut, gAppend, gInsert, eRev, eIndex, eLenSet, gInt, gLen, gTuple, gList, gAbs, gMax2, gMin2, gDivmod, gEq_int, runFn, sSeq, sIf, sSet, sSetIx, sRet, sRetN, sNil, sDrop, sAsg, sFor, sPar, sNever, setO, retO, setOs, presc, eVar, eK, eTwo, v2, eFn, eDisp, eTup, eLst, eCall, eCallR, eCallK, pick, toSl, toSls, sIdx, wb, bk, esc, escs, vals, aNil, aCons, tb, Ev.tNot, Ev.tAnd, Ev.tOr, gGt, gLt, gGe, gLe, gSub, gMod, gDiv, gPow, gAdd, gMul, gInt, mulOk, g1, g2, fInt, fLen, fTuple, fList, fAbs, eAnd, eOr, eNot, eIf, eNeg, eIsi, gII, gIx, gIsN, gN, gT, gsNil, gsCons, isLent_eq, lentO, lentS_v, lentS_un, lentS_f, lentS_t, lentS_z, finE, okArg, Out.bind, Od.val, slVal, Bx.tr, Bx.t, isN, L2.ixN, L2.atI, isInt, isBool, isTuple, isList, isStr, isDict, isTL, Nat.zero_le, id_eq, eq_self, Pu.c0, Pu.c1, Pu.c2, Pu.c3, Pu.c4, Pu.c5, Pu.c6, Pu.c7, Pu.c8, Pu.c9, Pu.s1, Pu.s2, Pu.s3, Pu.s4, Pu.s5, Pu.s6, Pu.s7, Pu.s8, Pu.s9, Int.reduceEq, Nat.reduceMul, Int.ofNat_eq_natCast, wipeE, restE, exists_eq_left', Option.some.injEq, Out.ok.injEq, Prod.mk.injEq, Option.bind_some, Option.bind_none, Option.bind_eq_bind, List.getElem?_cons_zero, List.getElem?_cons_succ, List.getElem?_nil, List.set_cons_zero, List.set_cons_succ, List.set_nil, List.length_cons, List.length_nil, List.replicate_succ, List.replicate_zero, List.cons_append, List.nil_append, List.append_nil, List.all_cons, List.all_nil, Bool.and_true, Bool.true_and, Bool.and_false, Bool.false_and, if_true, if_false, ite_true, ite_false, List.nodup_cons, List.nodup_nil, List.not_mem_nil, List.mem_cons, not_false_eq_true, and_true, true_and, reduceIte, Nat.reduceAdd, Nat.reduceSub, Nat.reduceEqDiff, Nat.reduceLT, Nat.reduceLeDiff, Option.map_some, Option.map_none, Option.getD_some, reduceCtorEq, or_self, or_false, false_or, not_true_eq_false, decide_true, decide_false, Bool.not_true, Bool.not_false, Bool.false_eq_true, Nat.zero_add, Nat.add_zero, forall_const, Int.reduceLT, Int.reduceLE, Int.reduceNeg, Int.reduceToNat, Int.toNat_natCast, and_self]
theorem pl_2 (m : FSem) (y1 y3 : SemS) (d d1 d' ts : List T) (t1 : T) (v : Int) (hv : ¬ v = 0) (l3 l4 l5 : Sl) (h : m [.ow true (.l d), .v (.int 3)] = .ok (.r (.int v)) [.ow true (.l d1), .v (.int 3)])
    (h1 : y3 [.ow true (.l d1), .v t1, .ow false (.l []), .un, .un, .un] = .ok .nx [.ow true (.l d'), .v t1, .ow false (.l ts), l3, l4, l5]) :
    runFn 6 (sSeq (sSet 2 (eLst aNil)) (sSeq (sIf (tb (eOp2 (gEq id) (eCall 2 m (aCons (eVar 0) (aCons (eK (.int 3)) aNil))) (eK (.int 0)))) (sSeq y1 (sRet (eVar 2))) sNil) (sSeq y3 (sRet (eVar 2))))) [.ow true (.l d), .v t1] = .ok (.b (.l ts)) [.ow true (.l d'), .v t1] := by
  simp only [h, h1, hv, eMut, gAppend, gInsert, eRev, eIndex, eLenSet, gInt, gLen, gTuple, gList, gAbs, gMax2, gMin2, gDivmod, gEq_int, runFn, sSeq, sIf, sSet, sSetIx, sRet, sRetN, sNil, sDrop, sAsg, sFor, sPar, sNever, setO, retO, setOs, presc, eVar, eK, eTwo, v2, eFn, eDisp, eTup, eLst, eCall, eCallR, eCallK, pick, toSl, toSls, sIdx, wb, bk, esc, escs, vals, aNil, aCons, tb, Ev.tNot, Ev.tAnd, Ev.tOr, gGt, gLt, gGe, gLe, gSub, gMod, gDiv, gPow, gAdd, gMul, gInt, mulOk, g1, g2, fInt, fLen, fTuple, fList, fAbs, eAnd, eOr, eNot, eIf, eNeg, eIsi, gII, gIx, gIsN, gN, gT, gsNil, gsCons, isLent_eq, lentO, lentS_v, lentS_un, lentS_f, lentS_t, lentS_z, finE, okArg, Out.bind, Od.val, slVal, Bx.tr, Bx.t, isN, L2.ixN, L2.atI, isInt, isBool, isTuple, isList, isStr, isDict, isTL, Nat.zero_le, id_eq, eq_self, Pu.c0, Pu.c1, Pu.c2, Pu.c3, Pu.c4, Pu.c5, Pu.c6, Pu.c7, Pu.c8, Pu.c9, Pu.s1, Pu.s2, Pu.s3, Pu.s4, Pu.s5, Pu.s6, Pu.s7, Pu.s8, Pu.s9, Int.reduceEq, Nat.reduceMul, Int.ofNat_eq_natCast, wipeE, restE, exists_eq_left', Option.some.injEq, Out.ok.injEq, Prod.mk.injEq, Option.bind_some, Option.bind_none, Option.bind_eq_bind, List.getElem?_cons_zero, List.getElem?_cons_succ, List.getElem?_nil, List.set_cons_zero, List.set_cons_succ, List.set_nil, List.length_cons, List.length_nil, List.replicate_succ, List.replicate_zero, List.cons_append, List.nil_append, List.append_nil, List.all_cons, List.all_nil, Bool.and_true, Bool.true_and, Bool.and_false, Bool.false_and, if_true, if_false, ite_true, ite_false, List.nodup_cons, List.nodup_nil, List.not_mem_nil, List.mem_cons, not_false_eq_true, and_true, true_and, reduceIte, Nat.reduceAdd, Nat.reduceSub, Nat.reduceEqDiff, Nat.reduceLT, Nat.reduceLeDiff, Option.map_some, Option.map_none, Option.getD_some, reduceCtorEq, or_self, or_false, false_or, not_true_eq_false, decide_true, decide_false, Bool.not_true, Bool.not_false, Bool.false_eq_true, Nat.zero_add, Nat.add_zero, forall_const, Int.reduceLT, Int.reduceLE, Int.reduceNeg, Int.reduceToNat, Int.toNat_natCast, and_self]
theorem places_law (D : Dk) {B : Nat} (hb : B = 2 ∨ B = 3) : ∃ (D' : Dk) (ps : List (Int × Int)), m__law_places [.ow true (.l (dkT D)), .v (nT B)] = .ok (.b (.l (ps.map cT))) [.ow true (.l (dkT D')), .v (nT B)] ∧ PlOk B ps := by
  have hB : B ≤ 3 := by omega
  have tk := tk_ok D 3 (by omega) (by omega)
  by_cases hv : tkV D 3 = 0
  · obtain ⟨l3, l4, h⟩ := pl_l1 B hB (.ow true (.l (dkT (tkD D 3))))
    rw [hv] at tk
    exact ⟨_, _, pl_1 m__law_take l1__law_places l3__law_places _ _ _ _ (.ow true (.l (dkT (tkD D 3)))) l3 l4 _ tk h, zig_ok hb⟩
  · obtain ⟨D', gs, l3, l5, h, p⟩ := pl_l3 B hB B 0 (tkD D 3) [] .un .un rfl rfl (by have : B * B ≤ 9 := Nat.mul_le_mul hB hB; simp only [List.length_nil]; omega)
    have hi := iR1_nat (m := aCons (eVar 1) aNil) (e := [.ow true (.l (dkT (tkD D 3))), .v (nT B), .ow false (.l []), .un, .un, .un]) (e1 := [.ow true (.l (dkT (tkD D 3))), .v (nT B), .ow false (.l []), .un, .un, .un]) (rs := [.r (nT B)]) (n := B) rfl rfl (by omega)
    have hy : l3__law_places [.ow true (.l (dkT (tkD D 3))), .v (nT B), .ow false (.l []), .un, .un, .un] = .ok .nx [.ow true (.l (dkT D')), .v (nT B), .ow false (.l (gs.map cT)), l3, .un, l5] := by
      unfold l3__law_places
      rw [sFor_eq hi, List.range_eq_range']
      exact h
    refine ⟨D', gs, pl_2 m__law_take l1__law_places l3__law_places _ _ _ _ _ (tkV D 3 : Int) (by omega) l3 _ l5 tk hy, (all_ok hb).perm ?_⟩
    rw [List.nil_append, ← List.range_eq_range'] at p
    exact p
end Lw

set_option linter.all false
set_option maxRecDepth 100000
set_option maxHeartbeats 4000000
namespace Lw
open PySem PySem.Spec Ev Pu Mt
/-! ### trees of ints, tuples and lists -/
inductive Pl : Nat → T → Prop
  | int (n : Nat) (i : Int) : Pl n (.int i)
  | tup {n : Nat} {xs : List T} : (∀ x ∈ xs, Pl n x) → xs.length ≤ 100000 → Pl (n + 1) (.tuple xs)
  | lst {n : Nat} {xs : List T} : (∀ x ∈ xs, Pl n x) → xs.length ≤ 100000 → Pl (n + 1) (.list xs)
theorem layAll {xs : List T} (h : ∀ x ∈ xs, PyData.canLay0 x = true) : PyData.canLayAll0 xs = true := by
  induction xs with
  | nil => rfl
  | cons x xs ih => rw [PyData.canLayAll0, h x List.mem_cons_self, ih fun y hy => h y (List.mem_cons_of_mem _ hy)]; rfl
theorem depAll {n : Nat} {xs : List T} (h : ∀ x ∈ xs, PyData.depth x ≤ n) : PyData.depthAll xs ≤ n := by
  induction xs with
  | nil => exact Nat.zero_le _
  | cons x xs ih => rw [PyData.depthAll]; exact Nat.max_le.mpr ⟨h x List.mem_cons_self, ih fun y hy => h y (List.mem_cons_of_mem _ hy)⟩
theorem Pl.lay {n : Nat} {t : T} (h : Pl n t) : PyData.canLay0 t = true ∧ PyData.depth t ≤ n := by
  induction h with
  | int n i => exact ⟨rfl, Nat.zero_le _⟩
  | tup h hl ih => exact ⟨by rw [PyData.canLay0]; exact layAll fun x hx => (ih x hx).1, by rw [PyData.depth]; exact Nat.succ_le_succ (depAll fun x hx => (ih x hx).2)⟩
  | lst h hl ih => exact ⟨by rw [PyData.canLay0]; exact layAll fun x hx => (ih x hx).1, by rw [PyData.depth]; exact Nat.succ_le_succ (depAll fun x hx => (ih x hx).2)⟩
theorem Pl.shaped {n : Nat} {t : T} (h : Pl n t) (hn : n ≤ 64) : SeqAt.shaped t = true := by
  unfold SeqAt.shaped
  rw [h.lay.1, Bool.true_and]
  exact decide_eq_true (Nat.le_trans h.lay.2 hn)
theorem gEq_bool (k : Bool → Bool) (a b : Bool) : gEq k (.bool a) (.bool b) = some (.r (.bool (k (a == b)))) := rfl
theorem gEq_nil : gEq id (.list []) (.list []) = some (.r (.bool true)) := rfl
theorem beqT : (true == true) = true := rfl
theorem beqF : (false == false) = true := rfl
theorem sm_i (m : FSem) (x : SemE) (i : Int) : runFn 3 (sSeq (sIf (tb (eIsi isTL (eVar 1))) (sSeq (sIf (tOr (tb (eOp2 (gEq not) (eIsi isTuple (eVar 0)) (eIsi isTuple (eVar 1)))) (tb (eOp2 (gEq not) (eIsi isList (eVar 0)) (eIsi isList (eVar 1))))) (sRet (eK (.bool false))) sNil) (sSeq (sIf (tb (eOp2 (gEq not) (eFn gLen (aCons (eVar 0) aNil)) (eFn gLen (aCons (eVar 1) aNil)))) (sRet (eK (.bool false))) sNil) (sRet (eOp2 (gEq id) x (eLst aNil))))) sNil) (sSeq (sIf (tb (eOp2 (gIsN id) (eVar 1) (eK .none))) (sRet (eOp2 (gIsN id) (eVar 0) (eK .none))) sNil) (sSeq (sIf (tb (eIsi isStr (eVar 1))) (sRet (eAnd (eIsi isStr (eVar 0)) (eOp2 (gEq id) (eVar 0) (eVar 1)))) sNil) (sSeq (sIf (tOr (tb (eIsi isBool (eVar 1))) (tb (eIsi isBool (eVar 0)))) (sRet (eAnd (eIsi isBool (eVar 1)) (eAnd (eIsi isBool (eVar 0)) (eOp2 (gEq id) (eVar 0) (eVar 1))))) sNil) (sRet (eAnd (eIsi isInt (eVar 0)) (eOp2 (gEq id) (eVar 0) (eVar 1)))))))) [.v (.int i), .v (.int i)] = .ok (.r (.bool true)) [.v (.int i), .v (.int i)] := by
  simp only [gEq_bool, eMut, gAppend, gInsert, eRev, eIndex, eLenSet, gInt, gLen, gTuple, gList, gAbs, gMax2, gMin2, gDivmod, gEq_int, runFn, sSeq, sIf, sSet, sSetIx, sRet, sRetN, sNil, sDrop, sAsg, sFor, sPar, sNever, setO, retO, setOs, presc, eVar, eK, eTwo, v2, eFn, eDisp, eTup, eLst, eCall, eCallR, eCallK, pick, toSl, toSls, sIdx, wb, bk, esc, escs, vals, aNil, aCons, tb, Ev.tNot, Ev.tAnd, Ev.tOr, gGt, gLt, gGe, gLe, gSub, gMod, gDiv, gPow, gAdd, gMul, gInt, mulOk, g1, g2, fInt, fLen, fTuple, fList, fAbs, eAnd, eOr, eNot, eIf, eNeg, eIsi, gII, gIx, gIsN, gN, gT, gsNil, gsCons, isLent_eq, lentO, lentS_v, lentS_un, lentS_f, lentS_t, lentS_z, finE, okArg, Out.bind, Od.val, slVal, Bx.tr, Bx.t, isN, L2.ixN, L2.atI, isInt, isBool, isTuple, isList, isStr, isDict, isTL, Nat.zero_le, id_eq, eq_self, Pu.c0, Pu.c1, Pu.c2, Pu.c3, Pu.c4, Pu.c5, Pu.c6, Pu.c7, Pu.c8, Pu.c9, Pu.s1, Pu.s2, Pu.s3, Pu.s4, Pu.s5, Pu.s6, Pu.s7, Pu.s8, Pu.s9, Int.reduceEq, Nat.reduceMul, Int.ofNat_eq_natCast, wipeE, restE, exists_eq_left', Option.some.injEq, Out.ok.injEq, Prod.mk.injEq, Option.bind_some, Option.bind_none, Option.bind_eq_bind, List.getElem?_cons_zero, List.getElem?_cons_succ, List.getElem?_nil, List.set_cons_zero, List.set_cons_succ, List.set_nil, List.length_cons, List.length_nil, List.replicate_succ, List.replicate_zero, List.cons_append, List.nil_append, List.append_nil, List.all_cons, List.all_nil, Bool.and_true, Bool.true_and, Bool.and_false, Bool.false_and, if_true, if_false, ite_true, ite_false, List.nodup_cons, List.nodup_nil, List.not_mem_nil, List.mem_cons, not_false_eq_true, and_true, true_and, reduceIte, Nat.reduceAdd, Nat.reduceSub, Nat.reduceEqDiff, Nat.reduceLT, Nat.reduceLeDiff, Option.map_some, Option.map_none, Option.getD_some, reduceCtorEq, or_self, or_false, false_or, not_true_eq_false, decide_true, decide_false, Bool.not_true, Bool.not_false, Bool.false_eq_true, Nat.zero_add, Nat.add_zero, forall_const, Int.reduceLT, Int.reduceLE, Int.reduceNeg, Int.reduceToNat, Int.toNat_natCast, and_self]
theorem sm_t (x : SemE) (xs ys : List T) (he : xs.length = ys.length) (h : x [.v (.tuple xs), .v (.tuple ys), .un] = .ok (.b (.l [])) [.v (.tuple xs), .v (.tuple ys), .un]) : runFn 3 (sSeq (sIf (tb (eIsi isTL (eVar 1))) (sSeq (sIf (tOr (tb (eOp2 (gEq not) (eIsi isTuple (eVar 0)) (eIsi isTuple (eVar 1)))) (tb (eOp2 (gEq not) (eIsi isList (eVar 0)) (eIsi isList (eVar 1))))) (sRet (eK (.bool false))) sNil) (sSeq (sIf (tb (eOp2 (gEq not) (eFn gLen (aCons (eVar 0) aNil)) (eFn gLen (aCons (eVar 1) aNil)))) (sRet (eK (.bool false))) sNil) (sRet (eOp2 (gEq id) x (eLst aNil))))) sNil) (sSeq (sIf (tb (eOp2 (gIsN id) (eVar 1) (eK .none))) (sRet (eOp2 (gIsN id) (eVar 0) (eK .none))) sNil) (sSeq (sIf (tb (eIsi isStr (eVar 1))) (sRet (eAnd (eIsi isStr (eVar 0)) (eOp2 (gEq id) (eVar 0) (eVar 1)))) sNil) (sSeq (sIf (tOr (tb (eIsi isBool (eVar 1))) (tb (eIsi isBool (eVar 0)))) (sRet (eAnd (eIsi isBool (eVar 1)) (eAnd (eIsi isBool (eVar 0)) (eOp2 (gEq id) (eVar 0) (eVar 1))))) sNil) (sRet (eAnd (eIsi isInt (eVar 0)) (eOp2 (gEq id) (eVar 0) (eVar 1)))))))) [.v (.tuple xs), .v (.tuple ys)] = .ok (.r (.bool true)) [.v (.tuple xs), .v (.tuple ys)] := by
  simp only [gEq_bool, gEq_nil, beqT, beqF, he, h, eMut, gAppend, gInsert, eRev, eIndex, eLenSet, gInt, gLen, gTuple, gList, gAbs, gMax2, gMin2, gDivmod, gEq_int, runFn, sSeq, sIf, sSet, sSetIx, sRet, sRetN, sNil, sDrop, sAsg, sFor, sPar, sNever, setO, retO, setOs, presc, eVar, eK, eTwo, v2, eFn, eDisp, eTup, eLst, eCall, eCallR, eCallK, pick, toSl, toSls, sIdx, wb, bk, esc, escs, vals, aNil, aCons, tb, Ev.tNot, Ev.tAnd, Ev.tOr, gGt, gLt, gGe, gLe, gSub, gMod, gDiv, gPow, gAdd, gMul, gInt, mulOk, g1, g2, fInt, fLen, fTuple, fList, fAbs, eAnd, eOr, eNot, eIf, eNeg, eIsi, gII, gIx, gIsN, gN, gT, gsNil, gsCons, isLent_eq, lentO, lentS_v, lentS_un, lentS_f, lentS_t, lentS_z, finE, okArg, Out.bind, Od.val, slVal, Bx.tr, Bx.t, isN, L2.ixN, L2.atI, isInt, isBool, isTuple, isList, isStr, isDict, isTL, Nat.zero_le, id_eq, eq_self, Pu.c0, Pu.c1, Pu.c2, Pu.c3, Pu.c4, Pu.c5, Pu.c6, Pu.c7, Pu.c8, Pu.c9, Pu.s1, Pu.s2, Pu.s3, Pu.s4, Pu.s5, Pu.s6, Pu.s7, Pu.s8, Pu.s9, Int.reduceEq, Nat.reduceMul, Int.ofNat_eq_natCast, wipeE, restE, exists_eq_left', Option.some.injEq, Out.ok.injEq, Prod.mk.injEq, Option.bind_some, Option.bind_none, Option.bind_eq_bind, List.getElem?_cons_zero, List.getElem?_cons_succ, List.getElem?_nil, List.set_cons_zero, List.set_cons_succ, List.set_nil, List.length_cons, List.length_nil, List.replicate_succ, List.replicate_zero, List.cons_append, List.nil_append, List.append_nil, List.all_cons, List.all_nil, Bool.and_true, Bool.true_and, Bool.and_false, Bool.false_and, if_true, if_false, ite_true, ite_false, List.nodup_cons, List.nodup_nil, List.not_mem_nil, List.mem_cons, not_false_eq_true, and_true, true_and, reduceIte, Nat.reduceAdd, Nat.reduceSub, Nat.reduceEqDiff, Nat.reduceLT, Nat.reduceLeDiff, Option.map_some, Option.map_none, Option.getD_some, reduceCtorEq, or_self, or_false, false_or, not_true_eq_false, decide_true, decide_false, Bool.not_true, Bool.not_false, Bool.false_eq_true, Nat.zero_add, Nat.add_zero, forall_const, Int.reduceLT, Int.reduceLE, Int.reduceNeg, Int.reduceToNat, Int.toNat_natCast, and_self]
/-- how a list comes: in a name of its own, or not -/
def Lsl (xs : List T) (s : Sl) : Prop := s = .v (.list xs) ∨ s = .ow true (.l xs)
theorem sm_l (x : SemE) (xs ys : List T) (he : xs.length = ys.length) (s0 s1 : Sl) (h0 : Lsl xs s0) (h1 : Lsl ys s1) (h : x [s0, s1, .un] = .ok (.b (.l [])) [s0, s1, .un]) : runFn 3 (sSeq (sIf (tb (eIsi isTL (eVar 1))) (sSeq (sIf (tOr (tb (eOp2 (gEq not) (eIsi isTuple (eVar 0)) (eIsi isTuple (eVar 1)))) (tb (eOp2 (gEq not) (eIsi isList (eVar 0)) (eIsi isList (eVar 1))))) (sRet (eK (.bool false))) sNil) (sSeq (sIf (tb (eOp2 (gEq not) (eFn gLen (aCons (eVar 0) aNil)) (eFn gLen (aCons (eVar 1) aNil)))) (sRet (eK (.bool false))) sNil) (sRet (eOp2 (gEq id) x (eLst aNil))))) sNil) (sSeq (sIf (tb (eOp2 (gIsN id) (eVar 1) (eK .none))) (sRet (eOp2 (gIsN id) (eVar 0) (eK .none))) sNil) (sSeq (sIf (tb (eIsi isStr (eVar 1))) (sRet (eAnd (eIsi isStr (eVar 0)) (eOp2 (gEq id) (eVar 0) (eVar 1)))) sNil) (sSeq (sIf (tOr (tb (eIsi isBool (eVar 1))) (tb (eIsi isBool (eVar 0)))) (sRet (eAnd (eIsi isBool (eVar 1)) (eAnd (eIsi isBool (eVar 0)) (eOp2 (gEq id) (eVar 0) (eVar 1))))) sNil) (sRet (eAnd (eIsi isInt (eVar 0)) (eOp2 (gEq id) (eVar 0) (eVar 1)))))))) [s0, s1] = .ok (.r (.bool true)) [s0, s1] := by
  rcases h0 with rfl | rfl <;> rcases h1 with rfl | rfl <;> simp only [gEq_bool, gEq_nil, beqT, beqF, he, h, eMut, gAppend, gInsert, eRev, eIndex, eLenSet, gInt, gLen, gTuple, gList, gAbs, gMax2, gMin2, gDivmod, gEq_int, runFn, sSeq, sIf, sSet, sSetIx, sRet, sRetN, sNil, sDrop, sAsg, sFor, sPar, sNever, setO, retO, setOs, presc, eVar, eK, eTwo, v2, eFn, eDisp, eTup, eLst, eCall, eCallR, eCallK, pick, toSl, toSls, sIdx, wb, bk, esc, escs, vals, aNil, aCons, tb, Ev.tNot, Ev.tAnd, Ev.tOr, gGt, gLt, gGe, gLe, gSub, gMod, gDiv, gPow, gAdd, gMul, gInt, mulOk, g1, g2, fInt, fLen, fTuple, fList, fAbs, eAnd, eOr, eNot, eIf, eNeg, eIsi, gII, gIx, gIsN, gN, gT, gsNil, gsCons, isLent_eq, lentO, lentS_v, lentS_un, lentS_f, lentS_t, lentS_z, finE, okArg, Out.bind, Od.val, slVal, Bx.tr, Bx.t, isN, L2.ixN, L2.atI, isInt, isBool, isTuple, isList, isStr, isDict, isTL, Nat.zero_le, id_eq, eq_self, Pu.c0, Pu.c1, Pu.c2, Pu.c3, Pu.c4, Pu.c5, Pu.c6, Pu.c7, Pu.c8, Pu.c9, Pu.s1, Pu.s2, Pu.s3, Pu.s4, Pu.s5, Pu.s6, Pu.s7, Pu.s8, Pu.s9, Int.reduceEq, Nat.reduceMul, Int.ofNat_eq_natCast, wipeE, restE, exists_eq_left', Option.some.injEq, Out.ok.injEq, Prod.mk.injEq, Option.bind_some, Option.bind_none, Option.bind_eq_bind, List.getElem?_cons_zero, List.getElem?_cons_succ, List.getElem?_nil, List.set_cons_zero, List.set_cons_succ, List.set_nil, List.length_cons, List.length_nil, List.replicate_succ, List.replicate_zero, List.cons_append, List.nil_append, List.append_nil, List.all_cons, List.all_nil, Bool.and_true, Bool.true_and, Bool.and_false, Bool.false_and, if_true, if_false, ite_true, ite_false, List.nodup_cons, List.nodup_nil, List.not_mem_nil, List.mem_cons, not_false_eq_true, and_true, true_and, reduceIte, Nat.reduceAdd, Nat.reduceSub, Nat.reduceEqDiff, Nat.reduceLT, Nat.reduceLeDiff, Option.map_some, Option.map_none, Option.getD_some, reduceCtorEq, or_self, or_false, false_or, not_true_eq_false, decide_true, decide_false, Bool.not_true, Bool.not_false, Bool.false_eq_true, Nat.zero_add, Nat.add_zero, forall_const, Int.reduceLT, Int.reduceLE, Int.reduceNeg, Int.reduceToNat, Int.toNat_natCast, and_self]
theorem sm_c (m : FSem) (k : Int) (s0 s1 : Sl) (t0 t1 u u' : T) (h0 : s0 = .v t0 ∨ ∃ xs, t0 = .list xs ∧ s0 = .ow true (.l xs)) (h1 : s1 = .v t1 ∨ ∃ xs, t1 = .list xs ∧ s1 = .ow true (.l xs)) (i0 : gIx t0 (.int k) = some (.r u)) (i1 : gIx t1 (.int k) = some (.r u')) (h : m [.v u, .v u'] = .ok (.r (.bool true)) [.v u, .v u']) :
    Ev.tNot (tb (eCall 2 m (aCons (eOp2 gIx (eVar 0) (eVar 2)) (aCons (eOp2 gIx (eVar 1) (eVar 2)) aNil)))) [s0, s1, .v (.int k)] = .ok false [s0, s1, .v (.int k)] := by
  rcases h0 with rfl | ⟨xs, rfl, rfl⟩ <;> rcases h1 with rfl | ⟨ys, rfl, rfl⟩ <;> simp only [i0, i1, h, eMut, gAppend, gInsert, eRev, eIndex, eLenSet, gInt, gLen, gTuple, gList, gAbs, gMax2, gMin2, gDivmod, gEq_int, runFn, sSeq, sIf, sSet, sSetIx, sRet, sRetN, sNil, sDrop, sAsg, sFor, sPar, sNever, setO, retO, setOs, presc, eVar, eK, eTwo, v2, eFn, eDisp, eTup, eLst, eCall, eCallR, eCallK, pick, toSl, toSls, sIdx, wb, bk, esc, escs, vals, aNil, aCons, tb, Ev.tNot, Ev.tAnd, Ev.tOr, gGt, gLt, gGe, gLe, gSub, gMod, gDiv, gPow, gAdd, gMul, gInt, mulOk, g1, g2, fInt, fLen, fTuple, fList, fAbs, eAnd, eOr, eNot, eIf, eNeg, eIsi, gII, gIsN, gN, gT, gsNil, gsCons, isLent_eq, lentO, lentS_v, lentS_un, lentS_f, lentS_t, lentS_z, finE, okArg, Out.bind, Od.val, slVal, Bx.tr, Bx.t, isN, L2.ixN, L2.atI, isInt, isBool, isTuple, isList, isStr, isDict, isTL, Nat.zero_le, id_eq, eq_self, Pu.c0, Pu.c1, Pu.c2, Pu.c3, Pu.c4, Pu.c5, Pu.c6, Pu.c7, Pu.c8, Pu.c9, Pu.s1, Pu.s2, Pu.s3, Pu.s4, Pu.s5, Pu.s6, Pu.s7, Pu.s8, Pu.s9, Int.reduceEq, Nat.reduceMul, Int.ofNat_eq_natCast, wipeE, restE, exists_eq_left', Option.some.injEq, Out.ok.injEq, Prod.mk.injEq, Option.bind_some, Option.bind_none, Option.bind_eq_bind, List.getElem?_cons_zero, List.getElem?_cons_succ, List.getElem?_nil, List.set_cons_zero, List.set_cons_succ, List.set_nil, List.length_cons, List.length_nil, List.replicate_succ, List.replicate_zero, List.cons_append, List.nil_append, List.append_nil, List.all_cons, List.all_nil, Bool.and_true, Bool.true_and, Bool.and_false, Bool.false_and, if_true, if_false, ite_true, ite_false, List.nodup_cons, List.nodup_nil, List.not_mem_nil, List.mem_cons, not_false_eq_true, and_true, true_and, reduceIte, Nat.reduceAdd, Nat.reduceSub, Nat.reduceEqDiff, Nat.reduceLT, Nat.reduceLeDiff, Option.map_some, Option.map_none, Option.getD_some, reduceCtorEq, or_self, or_false, false_or, not_true_eq_false, decide_true, decide_false, Bool.not_true, Bool.not_false, Bool.false_eq_true, Nat.zero_add, Nat.add_zero, forall_const, Int.reduceLT, Int.reduceLE, Int.reduceNeg, Int.reduceToNat, Int.toNat_natCast, and_self]
theorem ix_list (xs : List T) (k : Nat) (x : T) (h : xs[k]? = some x) : gIx (.list xs) (.int (k : Int)) = some (.r x) := by
  obtain ⟨hk, e⟩ := List.getElem?_eq_some_iff.mp h
  simp [gIx, L2.atI, L2.ixN, hk, e]
theorem ix_tup (xs : List T) (k : Nat) (x : T) (h : xs[k]? = some x) : gIx (.tuple xs) (.int (k : Int)) = some (.r x) := by
  obtain ⟨hk, e⟩ := List.getElem?_eq_some_iff.mp h
  simp [gIx, L2.atI, L2.ixN, hk, e]
theorem sm_n (s0 s1 : Sl) (t1 : T) (n : Nat) (h1 : s1 = .v t1 ∨ ∃ xs, t1 = .list xs ∧ s1 = .ow true (.l xs)) (hl : gLen [t1] = some (.r (.int (n : Int)))) (hn : n ≤ 100000) : iR1 (aCons (eFn gLen (aCons (eVar 1) aNil)) aNil) [s0, s1, .un] = .ok ((List.range n).map fun (k : Nat) => PyData.int (0 + (k : Int))) [s0, s1, .un] := by
  refine iR1_nat (rs := [.r (.int (n : Int))]) ?_ rfl (by omega)
  rcases h1 with rfl | ⟨ys, rfl, rfl⟩ <;> simp only [eFn, aCons, aNil, eVar, vals, Od.val, slVal, Bx.tr, Out.bind, List.getElem?_cons_zero, List.getElem?_cons_succ, hl]
/-- nothing is different -/
theorem sm_x (m : FSem) (s0 s1 : Sl) (t0 t1 : T) (n : Nat) (h0 : s0 = .v t0 ∨ ∃ xs, t0 = .list xs ∧ s0 = .ow true (.l xs)) (h1 : s1 = .v t1 ∨ ∃ xs, t1 = .list xs ∧ s1 = .ow true (.l xs)) (hl : gLen [t1] = some (.r (.int (n : Int)))) (hn : n ≤ 100000)
    (h : ∀ k, k < n → ∃ u u', gIx t0 (.int (k : Int)) = some (.r u) ∧ gIx t1 (.int (k : Int)) = some (.r u') ∧ m [.v u, .v u'] = .ok (.r (.bool true)) [.v u, .v u']) :
    eComp (iR1 (aCons (eFn gLen (aCons (eVar 1) aNil)) aNil)) (gN 2) (Ev.tNot (tb (eCall 2 m (aCons (eOp2 gIx (eVar 0) (eVar 2)) (aCons (eOp2 gIx (eVar 1) (eVar 2)) aNil))))) (eVar 2) [2] [s0, s1, .un] = .ok (.b (.l [])) [s0, s1, .un] := by
  unfold eComp
  rw [sm_n s0 s1 t1 n h1 hl hn]
  have := comp_filter (g := gN 2) (c := Ev.tNot (tb (eCall 2 m (aCons (eOp2 gIx (eVar 0) (eVar 2)) (aCons (eOp2 gIx (eVar 1) (eVar 2)) aNil))))) (m := eVar 2) (vs := [2]) (fun _ => false) (fun t => t) ((List.range n).map fun (k : Nat) => PyData.int (0 + (k : Int))) [] [s0, s1, .un] (by rw [List.length_map, List.length_range, List.length_nil]; unfold sizeLine; omega) fun t ht => by
    obtain ⟨k, hk, rfl⟩ := List.mem_map.mp ht
    obtain ⟨u, u', i0, i1, h2⟩ := h k (List.mem_range.mp hk)
    have e : (0 : Int) + (k : Int) = (k : Int) := by omega
    refine ⟨[s0, s1, .v (.int (k : Int))], ?_, [s0, s1, .v (.int (k : Int))], sm_c m _ s0 s1 t0 t1 u u' h0 h1 i0 i1 h2, fun _ => rfl, fun z => by cases z⟩
    rw [e]; rfl
  rw [show ((List.range n).map fun (k : Nat) => PyData.int (0 + (k : Int))).filter (fun _ => false) = [] by simp] at this
  exact this
theorem same_t : ∀ (n : Nat) (t : T), Pl n t → ∀ fuel, n < fuel → m__law_same fuel [.v t, .v t] = .ok (.r (.bool true)) [.v t, .v t] := by
  intro n t h
  induction h with
  | int n i =>
    intro fuel hf
    obtain ⟨f, rfl⟩ : ∃ f, fuel = f + 1 := ⟨fuel - 1, by omega⟩
    exact sm_i (m__law_same f) _ i
  | @tup n xs h hl ih =>
    intro fuel hf
    obtain ⟨f, rfl⟩ : ∃ f, fuel = f + 1 := ⟨fuel - 1, by omega⟩
    refine sm_t _ xs xs rfl ?_
    refine sm_x (m__law_same f) _ _ (.tuple xs) (.tuple xs) xs.length (.inl rfl) (.inl rfl) rfl hl fun k hk => ?_
    have e := List.getElem?_eq_getElem hk
    exact ⟨_, _, ix_tup _ _ _ e, ix_tup _ _ _ e, ih _ (List.getElem_mem hk) f (by omega)⟩
  | @lst n xs h hl ih =>
    intro fuel hf
    obtain ⟨f, rfl⟩ : ∃ f, fuel = f + 1 := ⟨fuel - 1, by omega⟩
    refine sm_l _ xs xs rfl _ _ (.inl rfl) (.inl rfl) ?_
    refine sm_x (m__law_same f) _ _ (.list xs) (.list xs) xs.length (.inl rfl) (.inl rfl) rfl hl fun k hk => ?_
    have e := List.getElem?_eq_getElem hk
    exact ⟨_, _, ix_list _ _ _ e, ix_list _ _ _ e, ih _ (List.getElem_mem hk) f (by omega)⟩
/-- two lists, however they come -/
theorem same_l (n : Nat) (xs : List T) (h : ∀ x ∈ xs, Pl n x) (hl : xs.length ≤ 100000) (hn : n < 7) (s0 s1 : Sl) (h0 : Lsl xs s0) (h1 : Lsl xs s1) : m__law_same 8 [s0, s1] = .ok (.r (.bool true)) [s0, s1] := by
  refine sm_l _ xs xs rfl s0 s1 h0 h1 ?_
  refine sm_x (m__law_same 7) s0 s1 (.list xs) (.list xs) xs.length (h0.imp id fun z => ⟨xs, rfl, z⟩) (h1.imp id fun z => ⟨xs, rfl, z⟩) rfl hl fun k hk => ?_
  have e := List.getElem?_eq_getElem hk
  exact ⟨_, _, ix_list _ _ _ e, ix_list _ _ _ e, same_t n _ (h _ (List.getElem_mem hk)) 7 (by omega)⟩
end Lw

set_option linter.all false
set_option maxRecDepth 100000
set_option maxHeartbeats 4000000
namespace Lw
open PySem PySem.Spec Ev Pu Mt
/-! ### postures -/
def pT (p : Nat × Nat) : T := poT p.1 p.2
def posesL : List (Nat × Nat) := (List.range 4).flatMap fun w => [(w, 0), (w, 1)]
theorem poses_lt : ∀ p ∈ posesL, p.1 < 4 ∧ p.2 < 2 := by decide
theorem poses_len : posesL.length = 8 := by decide
theorem ap_y (ts : List T) (w : Int) (hs : ts.length + 2 ≤ sizeLine) : (sSet 0 (eOp2 gAdd (eVar 0) (eLst (aCons (eTup (aCons (eVar 1) (aCons (eK (.int 0)) aNil))) (aCons (eTup (aCons (eVar 1) (aCons (eK (.int 1)) aNil))) aNil))))) [.ow false (.l ts), .v (.int w)] = .ok .nx [.ow false (.l (ts ++ [.tuple [.int w, .int 0], .tuple [.int w, .int 1]])), .v (.int w)] := by
  simp only [hs, eMut, gAppend, gInsert, eRev, eIndex, eLenSet, gInt, gLen, gTuple, gList, gAbs, gMax2, gMin2, gDivmod, gEq_int, runFn, sSeq, sIf, sSet, sSetIx, sRet, sRetN, sNil, sDrop, sAsg, sFor, sPar, sNever, setO, retO, setOs, presc, eVar, eK, eTwo, v2, eFn, eDisp, eTup, eLst, eCall, eCallR, eCallK, pick, toSl, toSls, sIdx, wb, bk, esc, escs, vals, aNil, aCons, tb, Ev.tNot, Ev.tAnd, Ev.tOr, gGt, gLt, gGe, gLe, gSub, gMod, gDiv, gPow, gAdd, gMul, gInt, mulOk, g1, g2, fInt, fLen, fTuple, fList, fAbs, eAnd, eOr, eNot, eIf, eNeg, eIsi, gII, gIx, gIsN, gN, gT, gsNil, gsCons, isLent_eq, lentO, lentS_v, lentS_un, lentS_f, lentS_t, lentS_z, finE, okArg, Out.bind, Od.val, slVal, Bx.tr, Bx.t, isN, L2.ixN, L2.atI, isInt, isBool, isTuple, isList, isStr, isDict, isTL, Nat.zero_le, id_eq, eq_self, Pu.c0, Pu.c1, Pu.c2, Pu.c3, Pu.c4, Pu.c5, Pu.c6, Pu.c7, Pu.c8, Pu.c9, Pu.s1, Pu.s2, Pu.s3, Pu.s4, Pu.s5, Pu.s6, Pu.s7, Pu.s8, Pu.s9, Int.reduceEq, Nat.reduceMul, Int.ofNat_eq_natCast, wipeE, restE, exists_eq_left', Option.some.injEq, Out.ok.injEq, Prod.mk.injEq, Option.bind_some, Option.bind_none, Option.bind_eq_bind, List.getElem?_cons_zero, List.getElem?_cons_succ, List.getElem?_nil, List.set_cons_zero, List.set_cons_succ, List.set_nil, List.length_cons, List.length_nil, List.replicate_succ, List.replicate_zero, List.cons_append, List.nil_append, List.append_nil, List.all_cons, List.all_nil, Bool.and_true, Bool.true_and, Bool.and_false, Bool.false_and, if_true, if_false, ite_true, ite_false, List.nodup_cons, List.nodup_nil, List.not_mem_nil, List.mem_cons, not_false_eq_true, and_true, true_and, reduceIte, Nat.reduceAdd, Nat.reduceSub, Nat.reduceEqDiff, Nat.reduceLT, Nat.reduceLeDiff, Option.map_some, Option.map_none, Option.getD_some, reduceCtorEq, or_self, or_false, false_or, not_true_eq_false, decide_true, decide_false, Bool.not_true, Bool.not_false, Bool.false_eq_true, Nat.zero_add, Nat.add_zero, forall_const, Int.reduceLT, Int.reduceLE, Int.reduceNeg, Int.reduceToNat, Int.toNat_natCast, and_self]
theorem ap_st (y : SemS) (ts : List T) (l : Sl) (h : y [.ow false (.l []), .un] = .ok .nx [.ow false (.l ts), l]) : runFn 2 (sSeq (sSet 0 (eLst aNil)) (sSeq y (sRet (eVar 0)))) [] = .ok (.b (.l ts)) [] := by
  simp only [h, eMut, gAppend, gInsert, eRev, eIndex, eLenSet, gInt, gLen, gTuple, gList, gAbs, gMax2, gMin2, gDivmod, gEq_int, runFn, sSeq, sIf, sSet, sSetIx, sRet, sRetN, sNil, sDrop, sAsg, sFor, sPar, sNever, setO, retO, setOs, presc, eVar, eK, eTwo, v2, eFn, eDisp, eTup, eLst, eCall, eCallR, eCallK, pick, toSl, toSls, sIdx, wb, bk, esc, escs, vals, aNil, aCons, tb, Ev.tNot, Ev.tAnd, Ev.tOr, gGt, gLt, gGe, gLe, gSub, gMod, gDiv, gPow, gAdd, gMul, gInt, mulOk, g1, g2, fInt, fLen, fTuple, fList, fAbs, eAnd, eOr, eNot, eIf, eNeg, eIsi, gII, gIx, gIsN, gN, gT, gsNil, gsCons, isLent_eq, lentO, lentS_v, lentS_un, lentS_f, lentS_t, lentS_z, finE, okArg, Out.bind, Od.val, slVal, Bx.tr, Bx.t, isN, L2.ixN, L2.atI, isInt, isBool, isTuple, isList, isStr, isDict, isTL, Nat.zero_le, id_eq, eq_self, Pu.c0, Pu.c1, Pu.c2, Pu.c3, Pu.c4, Pu.c5, Pu.c6, Pu.c7, Pu.c8, Pu.c9, Pu.s1, Pu.s2, Pu.s3, Pu.s4, Pu.s5, Pu.s6, Pu.s7, Pu.s8, Pu.s9, Int.reduceEq, Nat.reduceMul, Int.ofNat_eq_natCast, wipeE, restE, exists_eq_left', Option.some.injEq, Out.ok.injEq, Prod.mk.injEq, Option.bind_some, Option.bind_none, Option.bind_eq_bind, List.getElem?_cons_zero, List.getElem?_cons_succ, List.getElem?_nil, List.set_cons_zero, List.set_cons_succ, List.set_nil, List.length_cons, List.length_nil, List.replicate_succ, List.replicate_zero, List.cons_append, List.nil_append, List.append_nil, List.all_cons, List.all_nil, Bool.and_true, Bool.true_and, Bool.and_false, Bool.false_and, if_true, if_false, ite_true, ite_false, List.nodup_cons, List.nodup_nil, List.not_mem_nil, List.mem_cons, not_false_eq_true, and_true, true_and, reduceIte, Nat.reduceAdd, Nat.reduceSub, Nat.reduceEqDiff, Nat.reduceLT, Nat.reduceLeDiff, Option.map_some, Option.map_none, Option.getD_some, reduceCtorEq, or_self, or_false, false_or, not_true_eq_false, decide_true, decide_false, Bool.not_true, Bool.not_false, Bool.false_eq_true, Nat.zero_add, Nat.add_zero, forall_const, Int.reduceLT, Int.reduceLE, Int.reduceNeg, Int.reduceToNat, Int.toNat_natCast, and_self]
theorem flat_len (don : List Nat) : (don.flatMap fun w => [(w, 0), (w, 1)]).length = 2 * don.length := by
  induction don with
  | nil => rfl
  | cons a l ih => rw [List.flatMap_cons, List.length_append, ih, List.length_cons]; simp only [List.length_cons, List.length_nil]; omega
theorem poses_ok : m__law_all_poses [] = .ok (.b (.l (posesL.map pT))) [] := by
  obtain ⟨e', h, l1, a1, rfl⟩ := for_on (g := gN 1) (b := y1__law_all_poses) (fun (k : Nat) => PyData.int (0 + (k : Int))) (fun don e => ∃ l1, lentS l1 = false ∧ e = [.ow false (.l ((don.flatMap fun w => [(w, 0), (w, 1)]).map pT)), l1]) 4 (List.range 4) [] [.ow false (.l []), .un] ⟨_, rfl, rfl⟩ (by decide) fun k _ don e hd ⟨l1, a1, he⟩ => by
    subst he
    have e : (0 : Int) + (k : Int) = (k : Int) := by omega
    have st := ap_y ((don.flatMap fun w => [(w, 0), (w, 1)]).map pT) (k : Int) (by rw [List.length_map, flat_len]; unfold sizeLine; omega)
    refine ⟨[.ow false (.l ((don.flatMap fun w => [(w, 0), (w, 1)]).map pT)), .v (.int (k : Int))], by rw [e]; simp only [a1, eMut, gAppend, gInsert, eRev, eIndex, eLenSet, gInt, gLen, gTuple, gList, gAbs, gMax2, gMin2, gDivmod, gEq_int, runFn, sSeq, sIf, sSet, sSetIx, sRet, sRetN, sNil, sDrop, sAsg, sFor, sPar, sNever, setO, retO, setOs, presc, eVar, eK, eTwo, v2, eFn, eDisp, eTup, eLst, eCall, eCallR, eCallK, pick, toSl, toSls, sIdx, wb, bk, esc, escs, vals, aNil, aCons, tb, Ev.tNot, Ev.tAnd, Ev.tOr, gGt, gLt, gGe, gLe, gSub, gMod, gDiv, gPow, gAdd, gMul, gInt, mulOk, g1, g2, fInt, fLen, fTuple, fList, fAbs, eAnd, eOr, eNot, eIf, eNeg, eIsi, gII, gIx, gIsN, gN, gT, gsNil, gsCons, isLent_eq, lentO, lentS_v, lentS_un, lentS_f, lentS_t, lentS_z, finE, okArg, Out.bind, Od.val, slVal, Bx.tr, Bx.t, isN, L2.ixN, L2.atI, isInt, isBool, isTuple, isList, isStr, isDict, isTL, Nat.zero_le, id_eq, eq_self, Pu.c0, Pu.c1, Pu.c2, Pu.c3, Pu.c4, Pu.c5, Pu.c6, Pu.c7, Pu.c8, Pu.c9, Pu.s1, Pu.s2, Pu.s3, Pu.s4, Pu.s5, Pu.s6, Pu.s7, Pu.s8, Pu.s9, Int.reduceEq, Nat.reduceMul, Int.ofNat_eq_natCast, wipeE, restE, exists_eq_left', Option.some.injEq, Out.ok.injEq, Prod.mk.injEq, Option.bind_some, Option.bind_none, Option.bind_eq_bind, List.getElem?_cons_zero, List.getElem?_cons_succ, List.getElem?_nil, List.set_cons_zero, List.set_cons_succ, List.set_nil, List.length_cons, List.length_nil, List.replicate_succ, List.replicate_zero, List.cons_append, List.nil_append, List.append_nil, List.all_cons, List.all_nil, Bool.and_true, Bool.true_and, Bool.and_false, Bool.false_and, if_true, if_false, ite_true, ite_false, List.nodup_cons, List.nodup_nil, List.not_mem_nil, List.mem_cons, not_false_eq_true, and_true, true_and, reduceIte, Nat.reduceAdd, Nat.reduceSub, Nat.reduceEqDiff, Nat.reduceLT, Nat.reduceLeDiff, Option.map_some, Option.map_none, Option.getD_some, reduceCtorEq, or_self, or_false, false_or, not_true_eq_false, decide_true, decide_false, Bool.not_true, Bool.not_false, Bool.false_eq_true, Nat.zero_add, Nat.add_zero, forall_const, Int.reduceLT, Int.reduceLE, Int.reduceNeg, Int.reduceToNat, Int.toNat_natCast, and_self], _, .inl st, .v (.int (k : Int)), rfl, ?_⟩
    rw [List.flatMap_append, List.map_append]
    rfl
  have hi := iR1_nat (m := aCons (eK (.int 4)) aNil) (e := [.ow false (.l []), .un]) (e1 := [.ow false (.l []), .un]) (rs := [.r (.int ((4 : Nat) : Int))]) (n := 4) rfl rfl (by omega)
  have hl : l1__law_all_poses [.ow false (.l []), .un] = .ok .nx [.ow false (.l (posesL.map pT)), l1] := by
    unfold l1__law_all_poses
    rw [sFor_eq hi]
    exact h
  exact ap_st l1__law_all_poses _ _ hl
def spots : List (Int × Int) := [(0, 0), (1, 0), (0, 1)]
theorem spots_few : ([] : List T).length + spots.length ≤ sizeLine := by show 0 + 3 ≤ sizeLine; unfold sizeLine; omega
theorem comp_eq {mi : SemI} {g : SemG} {c : SemT} {m : SemE} {vs : List Nat} {e e1 : En} {ts : List T} (h : mi e = .ok ts e1) : eComp mi g c m vs e = compS g c m vs ts [] e1 := by
  unfold eComp; rw [h]; rfl
theorem sp_i (e : En) (he : e.length = 5) : iOf (eLst (aCons (eTup (aCons (eK (.int 0)) (aCons (eK (.int 0)) aNil))) (aCons (eTup (aCons (eK (.int 1)) (aCons (eK (.int 0)) aNil))) (aCons (eTup (aCons (eK (.int 0)) (aCons (eK (.int 1)) aNil))) aNil)))) e = .ok (spots.map cT) e := by
  simp only [iOf, spots, cT, List.map_cons, List.map_nil, eMut, gAppend, gInsert, eRev, eIndex, eLenSet, gInt, gLen, gTuple, gList, gAbs, gMax2, gMin2, gDivmod, gEq_int, runFn, sSeq, sIf, sSet, sSetIx, sRet, sRetN, sNil, sDrop, sAsg, sFor, sPar, sNever, setO, retO, setOs, presc, eVar, eK, eTwo, v2, eFn, eDisp, eTup, eLst, eCall, eCallR, eCallK, pick, toSl, toSls, sIdx, wb, bk, esc, escs, vals, aNil, aCons, tb, Ev.tNot, Ev.tAnd, Ev.tOr, gGt, gLt, gGe, gLe, gSub, gMod, gDiv, gPow, gAdd, gMul, gInt, mulOk, g1, g2, fInt, fLen, fTuple, fList, fAbs, eAnd, eOr, eNot, eIf, eNeg, eIsi, gII, gIx, gIsN, gN, gT, gsNil, gsCons, isLent_eq, lentO, lentS_v, lentS_un, lentS_f, lentS_t, lentS_z, finE, okArg, Out.bind, Od.val, slVal, Bx.tr, Bx.t, isN, L2.ixN, L2.atI, isInt, isBool, isTuple, isList, isStr, isDict, isTL, Nat.zero_le, id_eq, eq_self, Pu.c0, Pu.c1, Pu.c2, Pu.c3, Pu.c4, Pu.c5, Pu.c6, Pu.c7, Pu.c8, Pu.c9, Pu.s1, Pu.s2, Pu.s3, Pu.s4, Pu.s5, Pu.s6, Pu.s7, Pu.s8, Pu.s9, Int.reduceEq, Nat.reduceMul, Int.ofNat_eq_natCast, wipeE, restE, exists_eq_left', Option.some.injEq, Out.ok.injEq, Prod.mk.injEq, Option.bind_some, Option.bind_none, Option.bind_eq_bind, List.getElem?_cons_zero, List.getElem?_cons_succ, List.getElem?_nil, List.set_cons_zero, List.set_cons_succ, List.set_nil, List.length_cons, List.length_nil, List.replicate_succ, List.replicate_zero, List.cons_append, List.nil_append, List.append_nil, List.all_cons, List.all_nil, Bool.and_true, Bool.true_and, Bool.and_false, Bool.false_and, if_true, if_false, ite_true, ite_false, List.nodup_cons, List.nodup_nil, List.not_mem_nil, List.mem_cons, not_false_eq_true, and_true, true_and, reduceIte, Nat.reduceAdd, Nat.reduceSub, Nat.reduceEqDiff, Nat.reduceLT, Nat.reduceLeDiff, Option.map_some, Option.map_none, Option.getD_some, reduceCtorEq, or_self, or_false, false_or, not_true_eq_false, decide_true, decide_false, Bool.not_true, Bool.not_false, Bool.false_eq_true, Nat.zero_add, Nat.add_zero, forall_const, Int.reduceLT, Int.reduceLE, Int.reduceNeg, Int.reduceToNat, Int.toNat_natCast, and_self]
theorem b1_e (m : FSem) (t0 t1 t4 u v : T) (l2 l3 : Sl) (h1 : m [.v (.int 2), .v t4, .v t1] = .ok (.r u) [.v (.int 2), .v t4, .v t1]) (h2 : m [.v (.int 2), .v u, .v t0] = .ok (.r v) [.v (.int 2), .v u, .v t0]) :
    (eCall 3 m (aCons (eK (.int 2)) (aCons (eCall 3 m (aCons (eK (.int 2)) (aCons (eVar 4) (aCons (eVar 1) aNil)))) (aCons (eVar 0) aNil)))) [.v t0, .v t1, l2, l3, .v t4] = .ok (.r v) [.v t0, .v t1, l2, l3, .v t4] := by
  simp only [h1, h2, eMut, gAppend, gInsert, eRev, eIndex, eLenSet, gInt, gLen, gTuple, gList, gAbs, gMax2, gMin2, gDivmod, gEq_int, runFn, sSeq, sIf, sSet, sSetIx, sRet, sRetN, sNil, sDrop, sAsg, sFor, sPar, sNever, setO, retO, setOs, presc, eVar, eK, eTwo, v2, eFn, eDisp, eTup, eLst, eCall, eCallR, eCallK, pick, toSl, toSls, sIdx, wb, bk, esc, escs, vals, aNil, aCons, tb, Ev.tNot, Ev.tAnd, Ev.tOr, gGt, gLt, gGe, gLe, gSub, gMod, gDiv, gPow, gAdd, gMul, gInt, mulOk, g1, g2, fInt, fLen, fTuple, fList, fAbs, eAnd, eOr, eNot, eIf, eNeg, eIsi, gII, gIx, gIsN, gN, gT, gsNil, gsCons, isLent_eq, lentO, lentS_v, lentS_un, lentS_f, lentS_t, lentS_z, finE, okArg, Out.bind, Od.val, slVal, Bx.tr, Bx.t, isN, L2.ixN, L2.atI, isInt, isBool, isTuple, isList, isStr, isDict, isTL, Nat.zero_le, id_eq, eq_self, Pu.c0, Pu.c1, Pu.c2, Pu.c3, Pu.c4, Pu.c5, Pu.c6, Pu.c7, Pu.c8, Pu.c9, Pu.s1, Pu.s2, Pu.s3, Pu.s4, Pu.s5, Pu.s6, Pu.s7, Pu.s8, Pu.s9, Int.reduceEq, Nat.reduceMul, Int.ofNat_eq_natCast, wipeE, restE, exists_eq_left', Option.some.injEq, Out.ok.injEq, Prod.mk.injEq, Option.bind_some, Option.bind_none, Option.bind_eq_bind, List.getElem?_cons_zero, List.getElem?_cons_succ, List.getElem?_nil, List.set_cons_zero, List.set_cons_succ, List.set_nil, List.length_cons, List.length_nil, List.replicate_succ, List.replicate_zero, List.cons_append, List.nil_append, List.append_nil, List.all_cons, List.all_nil, Bool.and_true, Bool.true_and, Bool.and_false, Bool.false_and, if_true, if_false, ite_true, ite_false, List.nodup_cons, List.nodup_nil, List.not_mem_nil, List.mem_cons, not_false_eq_true, and_true, true_and, reduceIte, Nat.reduceAdd, Nat.reduceSub, Nat.reduceEqDiff, Nat.reduceLT, Nat.reduceLeDiff, Option.map_some, Option.map_none, Option.getD_some, reduceCtorEq, or_self, or_false, false_or, not_true_eq_false, decide_true, decide_false, Bool.not_true, Bool.not_false, Bool.false_eq_true, Nat.zero_add, Nat.add_zero, forall_const, Int.reduceLT, Int.reduceLE, Int.reduceNeg, Int.reduceToNat, Int.toNat_natCast, and_self]
theorem b2_e (m : FSem) (t3 t4 u : T) (l0 l1 l2 : Sl) (h1 : m [.v (.int 2), .v t4, .v t3] = .ok (.r u) [.v (.int 2), .v t4, .v t3]) :
    (eCall 3 m (aCons (eK (.int 2)) (aCons (eVar 4) (aCons (eVar 3) aNil)))) [l0, l1, l2, .v t3, .v t4] = .ok (.r u) [l0, l1, l2, .v t3, .v t4] := by
  simp only [h1, eMut, gAppend, gInsert, eRev, eIndex, eLenSet, gInt, gLen, gTuple, gList, gAbs, gMax2, gMin2, gDivmod, gEq_int, runFn, sSeq, sIf, sSet, sSetIx, sRet, sRetN, sNil, sDrop, sAsg, sFor, sPar, sNever, setO, retO, setOs, presc, eVar, eK, eTwo, v2, eFn, eDisp, eTup, eLst, eCall, eCallR, eCallK, pick, toSl, toSls, sIdx, wb, bk, esc, escs, vals, aNil, aCons, tb, Ev.tNot, Ev.tAnd, Ev.tOr, gGt, gLt, gGe, gLe, gSub, gMod, gDiv, gPow, gAdd, gMul, gInt, mulOk, g1, g2, fInt, fLen, fTuple, fList, fAbs, eAnd, eOr, eNot, eIf, eNeg, eIsi, gII, gIx, gIsN, gN, gT, gsNil, gsCons, isLent_eq, lentO, lentS_v, lentS_un, lentS_f, lentS_t, lentS_z, finE, okArg, Out.bind, Od.val, slVal, Bx.tr, Bx.t, isN, L2.ixN, L2.atI, isInt, isBool, isTuple, isList, isStr, isDict, isTL, Nat.zero_le, id_eq, eq_self, Pu.c0, Pu.c1, Pu.c2, Pu.c3, Pu.c4, Pu.c5, Pu.c6, Pu.c7, Pu.c8, Pu.c9, Pu.s1, Pu.s2, Pu.s3, Pu.s4, Pu.s5, Pu.s6, Pu.s7, Pu.s8, Pu.s9, Int.reduceEq, Nat.reduceMul, Int.ofNat_eq_natCast, wipeE, restE, exists_eq_left', Option.some.injEq, Out.ok.injEq, Prod.mk.injEq, Option.bind_some, Option.bind_none, Option.bind_eq_bind, List.getElem?_cons_zero, List.getElem?_cons_succ, List.getElem?_nil, List.set_cons_zero, List.set_cons_succ, List.set_nil, List.length_cons, List.length_nil, List.replicate_succ, List.replicate_zero, List.cons_append, List.nil_append, List.append_nil, List.all_cons, List.all_nil, Bool.and_true, Bool.true_and, Bool.and_false, Bool.false_and, if_true, if_false, ite_true, ite_false, List.nodup_cons, List.nodup_nil, List.not_mem_nil, List.mem_cons, not_false_eq_true, and_true, true_and, reduceIte, Nat.reduceAdd, Nat.reduceSub, Nat.reduceEqDiff, Nat.reduceLT, Nat.reduceLeDiff, Option.map_some, Option.map_none, Option.getD_some, reduceCtorEq, or_self, or_false, false_or, not_true_eq_false, decide_true, decide_false, Bool.not_true, Bool.not_false, Bool.false_eq_true, Nat.zero_add, Nat.add_zero, forall_const, Int.reduceLT, Int.reduceLE, Int.reduceNeg, Int.reduceToNat, Int.toNat_natCast, and_self]
theorem bh_x1 (p o : Nat × Nat) (hp : p.1 < 4 ∧ p.2 < 2) (ho : o.1 < 4 ∧ o.2 < 2) (l2 l3 : Sl) : x1__law_behind [.v (pT p), .v (pT o), l2, l3, .un] = .ok (.b (.l (spots.map fun c => cT (pz 2 p.1 p.2 (pz 2 o.1 o.2 c))))) [.v (pT p), .v (pT o), l2, l3, .un] := by
  unfold x1__law_behind
  rw [comp_eq (sp_i _ rfl)]
  have hf := spots_few
  generalize spots = S at hf ⊢
  refine comp_on cT (fun c => cT (pz 2 p.1 p.2 (pz 2 o.1 o.2 c))) S [] [.v (pT p), .v (pT o), l2, l3, .un] hf fun c _ => ?_
  exact ⟨_, rfl, _, rfl, _, _, b1_e m__law_posed (pT p) (pT o) (cT c) _ _ l2 l3 (law_posed_ok 2 o.1 o.2 c ho.1 ho.2) (law_posed_ok 2 p.1 p.2 (pz 2 o.1 o.2 c) hp.1 hp.2), _, rfl, rfl⟩
theorem bh_x2 (p : Nat × Nat) (hp : p.1 < 4 ∧ p.2 < 2) (l0 l1 l2 : Sl) : x2__law_behind [l0, l1, l2, .v (pT p), .un] = .ok (.b (.l (spots.map fun c => cT (pz 2 p.1 p.2 c)))) [l0, l1, l2, .v (pT p), .un] := by
  unfold x2__law_behind
  rw [comp_eq (sp_i _ rfl)]
  have hf := spots_few
  generalize spots = S at hf ⊢
  refine comp_on cT (fun c => cT (pz 2 p.1 p.2 c)) S [] [l0, l1, l2, .v (pT p), .un] hf fun c _ => ?_
  exact ⟨_, rfl, _, rfl, _, _, b2_e m__law_posed (pT p) (cT c) _ l0 l1 l2 (law_posed_ok 2 p.1 p.2 c hp.1 hp.2), _, rfl, rfl⟩
theorem pl_cT (c : Int × Int) : Pl 1 (cT c) := .tup (fun x hx => by
  rcases List.mem_cons.mp hx with rfl | hx
  · exact .int _ _
  · rcases List.mem_cons.mp hx with rfl | hx
    · exact .int _ _
    · cases hx) (by simp)
theorem pl_pT (p : Nat × Nat) : Pl 1 (pT p) := .tup (fun x hx => by
  rcases List.mem_cons.mp hx with rfl | hx
  · exact .int _ _
  · rcases List.mem_cons.mp hx with rfl | hx
    · exact .int _ _
    · cases hx) (by simp)
theorem pl_map {α : Type} {n : Nat} (f : α → T) (h : ∀ a, Pl n (f a)) (l : List α) (hl : l.length ≤ 100000) : Pl (n + 1) (.list (l.map f)) := .lst (fun x hx => by obtain ⟨a, _, rfl⟩ := List.mem_map.mp hx; exact h a) (by rw [List.length_map]; exact hl)
theorem bh_y (x : SemE) (t0 t1 t3 : T) (ms xs : List T) (hm : SeqAt.shaped (.list ms) = true) (hx : SeqAt.shaped (.list xs) = true) (h : x [.v t0, .v t1, .ow false (.l ms), .v t3, .un] = .ok (.b (.l xs)) [.v t0, .v t1, .ow false (.l ms), .v t3, .un]) :
    (sIf (tb (eOp2 (gEq id) x (eVar 2))) (sRet (eVar 3)) sNil) [.v t0, .v t1, .ow false (.l ms), .v t3, .un] = (if PyData.eqv (.list xs) (.list ms) then .ok (.rt (.r t3)) [.v t0, .v t1, .ow false (.l ms), .v t3, .un] else .ok .nx [.v t0, .v t1, .ow false (.l ms), .v t3, .un]) := by
  cases q : PyData.eqv (.list xs) (.list ms) with
  | true => simp only [h, gEq, hm, hx, q, eMut, gAppend, gInsert, eRev, eIndex, eLenSet, gInt, gLen, gTuple, gList, gAbs, gMax2, gMin2, gDivmod, gEq_int, runFn, sSeq, sIf, sSet, sSetIx, sRet, sRetN, sNil, sDrop, sAsg, sFor, sPar, sNever, setO, retO, setOs, presc, eVar, eK, eTwo, v2, eFn, eDisp, eTup, eLst, eCall, eCallR, eCallK, pick, toSl, toSls, sIdx, wb, bk, esc, escs, vals, aNil, aCons, tb, Ev.tNot, Ev.tAnd, Ev.tOr, gGt, gLt, gGe, gLe, gSub, gMod, gDiv, gPow, gAdd, gMul, gInt, mulOk, g1, g2, fInt, fLen, fTuple, fList, fAbs, eAnd, eOr, eNot, eIf, eNeg, eIsi, gII, gIx, gIsN, gN, gT, gsNil, gsCons, isLent_eq, lentO, lentS_v, lentS_un, lentS_f, lentS_t, lentS_z, finE, okArg, Out.bind, Od.val, slVal, Bx.tr, Bx.t, isN, L2.ixN, L2.atI, isInt, isBool, isTuple, isList, isStr, isDict, isTL, Nat.zero_le, id_eq, eq_self, Pu.c0, Pu.c1, Pu.c2, Pu.c3, Pu.c4, Pu.c5, Pu.c6, Pu.c7, Pu.c8, Pu.c9, Pu.s1, Pu.s2, Pu.s3, Pu.s4, Pu.s5, Pu.s6, Pu.s7, Pu.s8, Pu.s9, Int.reduceEq, Nat.reduceMul, Int.ofNat_eq_natCast, wipeE, restE, exists_eq_left', Option.some.injEq, Out.ok.injEq, Prod.mk.injEq, Option.bind_some, Option.bind_none, Option.bind_eq_bind, List.getElem?_cons_zero, List.getElem?_cons_succ, List.getElem?_nil, List.set_cons_zero, List.set_cons_succ, List.set_nil, List.length_cons, List.length_nil, List.replicate_succ, List.replicate_zero, List.cons_append, List.nil_append, List.append_nil, List.all_cons, List.all_nil, Bool.and_true, Bool.true_and, Bool.and_false, Bool.false_and, if_true, if_false, ite_true, ite_false, List.nodup_cons, List.nodup_nil, List.not_mem_nil, List.mem_cons, not_false_eq_true, and_true, true_and, reduceIte, Nat.reduceAdd, Nat.reduceSub, Nat.reduceEqDiff, Nat.reduceLT, Nat.reduceLeDiff, Option.map_some, Option.map_none, Option.getD_some, reduceCtorEq, or_self, or_false, false_or, not_true_eq_false, decide_true, decide_false, Bool.not_true, Bool.not_false, Bool.false_eq_true, Nat.zero_add, Nat.add_zero, forall_const, Int.reduceLT, Int.reduceLE, Int.reduceNeg, Int.reduceToNat, Int.toNat_natCast, and_self]
  | false => simp only [h, gEq, hm, hx, q, eMut, gAppend, gInsert, eRev, eIndex, eLenSet, gInt, gLen, gTuple, gList, gAbs, gMax2, gMin2, gDivmod, gEq_int, runFn, sSeq, sIf, sSet, sSetIx, sRet, sRetN, sNil, sDrop, sAsg, sFor, sPar, sNever, setO, retO, setOs, presc, eVar, eK, eTwo, v2, eFn, eDisp, eTup, eLst, eCall, eCallR, eCallK, pick, toSl, toSls, sIdx, wb, bk, esc, escs, vals, aNil, aCons, tb, Ev.tNot, Ev.tAnd, Ev.tOr, gGt, gLt, gGe, gLe, gSub, gMod, gDiv, gPow, gAdd, gMul, gInt, mulOk, g1, g2, fInt, fLen, fTuple, fList, fAbs, eAnd, eOr, eNot, eIf, eNeg, eIsi, gII, gIx, gIsN, gN, gT, gsNil, gsCons, isLent_eq, lentO, lentS_v, lentS_un, lentS_f, lentS_t, lentS_z, finE, okArg, Out.bind, Od.val, slVal, Bx.tr, Bx.t, isN, L2.ixN, L2.atI, isInt, isBool, isTuple, isList, isStr, isDict, isTL, Nat.zero_le, id_eq, eq_self, Pu.c0, Pu.c1, Pu.c2, Pu.c3, Pu.c4, Pu.c5, Pu.c6, Pu.c7, Pu.c8, Pu.c9, Pu.s1, Pu.s2, Pu.s3, Pu.s4, Pu.s5, Pu.s6, Pu.s7, Pu.s8, Pu.s9, Int.reduceEq, Nat.reduceMul, Int.ofNat_eq_natCast, wipeE, restE, exists_eq_left', Option.some.injEq, Out.ok.injEq, Prod.mk.injEq, Option.bind_some, Option.bind_none, Option.bind_eq_bind, List.getElem?_cons_zero, List.getElem?_cons_succ, List.getElem?_nil, List.set_cons_zero, List.set_cons_succ, List.set_nil, List.length_cons, List.length_nil, List.replicate_succ, List.replicate_zero, List.cons_append, List.nil_append, List.append_nil, List.all_cons, List.all_nil, Bool.and_true, Bool.true_and, Bool.and_false, Bool.false_and, if_true, if_false, ite_true, ite_false, List.nodup_cons, List.nodup_nil, List.not_mem_nil, List.mem_cons, not_false_eq_true, and_true, true_and, reduceIte, Nat.reduceAdd, Nat.reduceSub, Nat.reduceEqDiff, Nat.reduceLT, Nat.reduceLeDiff, Option.map_some, Option.map_none, Option.getD_some, reduceCtorEq, or_self, or_false, false_or, not_true_eq_false, decide_true, decide_false, Bool.not_true, Bool.not_false, Bool.false_eq_true, Nat.zero_add, Nat.add_zero, forall_const, Int.reduceLT, Int.reduceLE, Int.reduceNeg, Int.reduceToNat, Int.toNat_natCast, and_self]
theorem bh_st1 (x : SemE) (y : SemS) (t0 t1 r : T) (ms : List T) (l3 l4 : Sl) (h : x [.v t0, .v t1, .un, .un, .un] = .ok (.b (.l ms)) [.v t0, .v t1, .un, .un, .un]) (hy : y [.v t0, .v t1, .ow false (.l ms), .un, .un] = .ok (.rt (.r r)) [.v t0, .v t1, .ow false (.l ms), l3, l4]) :
    runFn 5 (sSeq (sSet 2 x) (sSeq y (sRet (eTup (aCons (eK (.int 0)) (aCons (eK (.int 0)) aNil)))))) [.v t0, .v t1] = .ok (.r r) [.v t0, .v t1] := by
  simp only [h, hy, eMut, gAppend, gInsert, eRev, eIndex, eLenSet, gInt, gLen, gTuple, gList, gAbs, gMax2, gMin2, gDivmod, gEq_int, runFn, sSeq, sIf, sSet, sSetIx, sRet, sRetN, sNil, sDrop, sAsg, sFor, sPar, sNever, setO, retO, setOs, presc, eVar, eK, eTwo, v2, eFn, eDisp, eTup, eLst, eCall, eCallR, eCallK, pick, toSl, toSls, sIdx, wb, bk, esc, escs, vals, aNil, aCons, tb, Ev.tNot, Ev.tAnd, Ev.tOr, gGt, gLt, gGe, gLe, gSub, gMod, gDiv, gPow, gAdd, gMul, gInt, mulOk, g1, g2, fInt, fLen, fTuple, fList, fAbs, eAnd, eOr, eNot, eIf, eNeg, eIsi, gII, gIx, gIsN, gN, gT, gsNil, gsCons, isLent_eq, lentO, lentS_v, lentS_un, lentS_f, lentS_t, lentS_z, finE, okArg, Out.bind, Od.val, slVal, Bx.tr, Bx.t, isN, L2.ixN, L2.atI, isInt, isBool, isTuple, isList, isStr, isDict, isTL, Nat.zero_le, id_eq, eq_self, Pu.c0, Pu.c1, Pu.c2, Pu.c3, Pu.c4, Pu.c5, Pu.c6, Pu.c7, Pu.c8, Pu.c9, Pu.s1, Pu.s2, Pu.s3, Pu.s4, Pu.s5, Pu.s6, Pu.s7, Pu.s8, Pu.s9, Int.reduceEq, Nat.reduceMul, Int.ofNat_eq_natCast, wipeE, restE, exists_eq_left', Option.some.injEq, Out.ok.injEq, Prod.mk.injEq, Option.bind_some, Option.bind_none, Option.bind_eq_bind, List.getElem?_cons_zero, List.getElem?_cons_succ, List.getElem?_nil, List.set_cons_zero, List.set_cons_succ, List.set_nil, List.length_cons, List.length_nil, List.replicate_succ, List.replicate_zero, List.cons_append, List.nil_append, List.append_nil, List.all_cons, List.all_nil, Bool.and_true, Bool.true_and, Bool.and_false, Bool.false_and, if_true, if_false, ite_true, ite_false, List.nodup_cons, List.nodup_nil, List.not_mem_nil, List.mem_cons, not_false_eq_true, and_true, true_and, reduceIte, Nat.reduceAdd, Nat.reduceSub, Nat.reduceEqDiff, Nat.reduceLT, Nat.reduceLeDiff, Option.map_some, Option.map_none, Option.getD_some, reduceCtorEq, or_self, or_false, false_or, not_true_eq_false, decide_true, decide_false, Bool.not_true, Bool.not_false, Bool.false_eq_true, Nat.zero_add, Nat.add_zero, forall_const, Int.reduceLT, Int.reduceLE, Int.reduceNeg, Int.reduceToNat, Int.toNat_natCast, and_self]
theorem bh_st2 (x : SemE) (y : SemS) (t0 t1 : T) (ms : List T) (l3 l4 : Sl) (h : x [.v t0, .v t1, .un, .un, .un] = .ok (.b (.l ms)) [.v t0, .v t1, .un, .un, .un]) (hy : y [.v t0, .v t1, .ow false (.l ms), .un, .un] = .ok .nx [.v t0, .v t1, .ow false (.l ms), l3, l4]) :
    runFn 5 (sSeq (sSet 2 x) (sSeq y (sRet (eTup (aCons (eK (.int 0)) (aCons (eK (.int 0)) aNil)))))) [.v t0, .v t1] = .ok (.r (.tuple [.int 0, .int 0])) [.v t0, .v t1] := by
  simp only [h, hy, eMut, gAppend, gInsert, eRev, eIndex, eLenSet, gInt, gLen, gTuple, gList, gAbs, gMax2, gMin2, gDivmod, gEq_int, runFn, sSeq, sIf, sSet, sSetIx, sRet, sRetN, sNil, sDrop, sAsg, sFor, sPar, sNever, setO, retO, setOs, presc, eVar, eK, eTwo, v2, eFn, eDisp, eTup, eLst, eCall, eCallR, eCallK, pick, toSl, toSls, sIdx, wb, bk, esc, escs, vals, aNil, aCons, tb, Ev.tNot, Ev.tAnd, Ev.tOr, gGt, gLt, gGe, gLe, gSub, gMod, gDiv, gPow, gAdd, gMul, gInt, mulOk, g1, g2, fInt, fLen, fTuple, fList, fAbs, eAnd, eOr, eNot, eIf, eNeg, eIsi, gII, gIx, gIsN, gN, gT, gsNil, gsCons, isLent_eq, lentO, lentS_v, lentS_un, lentS_f, lentS_t, lentS_z, finE, okArg, Out.bind, Od.val, slVal, Bx.tr, Bx.t, isN, L2.ixN, L2.atI, isInt, isBool, isTuple, isList, isStr, isDict, isTL, Nat.zero_le, id_eq, eq_self, Pu.c0, Pu.c1, Pu.c2, Pu.c3, Pu.c4, Pu.c5, Pu.c6, Pu.c7, Pu.c8, Pu.c9, Pu.s1, Pu.s2, Pu.s3, Pu.s4, Pu.s5, Pu.s6, Pu.s7, Pu.s8, Pu.s9, Int.reduceEq, Nat.reduceMul, Int.ofNat_eq_natCast, wipeE, restE, exists_eq_left', Option.some.injEq, Out.ok.injEq, Prod.mk.injEq, Option.bind_some, Option.bind_none, Option.bind_eq_bind, List.getElem?_cons_zero, List.getElem?_cons_succ, List.getElem?_nil, List.set_cons_zero, List.set_cons_succ, List.set_nil, List.length_cons, List.length_nil, List.replicate_succ, List.replicate_zero, List.cons_append, List.nil_append, List.append_nil, List.all_cons, List.all_nil, Bool.and_true, Bool.true_and, Bool.and_false, Bool.false_and, if_true, if_false, ite_true, ite_false, List.nodup_cons, List.nodup_nil, List.not_mem_nil, List.mem_cons, not_false_eq_true, and_true, true_and, reduceIte, Nat.reduceAdd, Nat.reduceSub, Nat.reduceEqDiff, Nat.reduceLT, Nat.reduceLeDiff, Option.map_some, Option.map_none, Option.getD_some, reduceCtorEq, or_self, or_false, false_or, not_true_eq_false, decide_true, decide_false, Bool.not_true, Bool.not_false, Bool.false_eq_true, Nat.zero_add, Nat.add_zero, forall_const, Int.reduceLT, Int.reduceLE, Int.reduceNeg, Int.reduceToNat, Int.toNat_natCast, and_self]
theorem bh_i (m : FSem) (e : En) (ts : List T) (h : m [] = .ok (.b (.l ts)) []) : iOf (eCall 0 m aNil) e = .ok ts e := by
  simp only [iOf, h, eMut, gAppend, gInsert, eRev, eIndex, eLenSet, gInt, gLen, gTuple, gList, gAbs, gMax2, gMin2, gDivmod, gEq_int, runFn, sSeq, sIf, sSet, sSetIx, sRet, sRetN, sNil, sDrop, sAsg, sFor, sPar, sNever, setO, retO, setOs, presc, eVar, eK, eTwo, v2, eFn, eDisp, eTup, eLst, eCall, eCallR, eCallK, pick, toSl, toSls, sIdx, wb, bk, esc, escs, vals, aNil, aCons, tb, Ev.tNot, Ev.tAnd, Ev.tOr, gGt, gLt, gGe, gLe, gSub, gMod, gDiv, gPow, gAdd, gMul, gInt, mulOk, g1, g2, fInt, fLen, fTuple, fList, fAbs, eAnd, eOr, eNot, eIf, eNeg, eIsi, gII, gIx, gIsN, gN, gT, gsNil, gsCons, isLent_eq, lentO, lentS_v, lentS_un, lentS_f, lentS_t, lentS_z, finE, okArg, Out.bind, Od.val, slVal, Bx.tr, Bx.t, isN, L2.ixN, L2.atI, isInt, isBool, isTuple, isList, isStr, isDict, isTL, Nat.zero_le, id_eq, eq_self, Pu.c0, Pu.c1, Pu.c2, Pu.c3, Pu.c4, Pu.c5, Pu.c6, Pu.c7, Pu.c8, Pu.c9, Pu.s1, Pu.s2, Pu.s3, Pu.s4, Pu.s5, Pu.s6, Pu.s7, Pu.s8, Pu.s9, Int.reduceEq, Nat.reduceMul, Int.ofNat_eq_natCast, wipeE, restE, exists_eq_left', Option.some.injEq, Out.ok.injEq, Prod.mk.injEq, Option.bind_some, Option.bind_none, Option.bind_eq_bind, List.getElem?_cons_zero, List.getElem?_cons_succ, List.getElem?_nil, List.set_cons_zero, List.set_cons_succ, List.set_nil, List.length_cons, List.length_nil, List.replicate_succ, List.replicate_zero, List.cons_append, List.nil_append, List.append_nil, List.all_cons, List.all_nil, Bool.and_true, Bool.true_and, Bool.and_false, Bool.false_and, if_true, if_false, ite_true, ite_false, List.nodup_cons, List.nodup_nil, List.not_mem_nil, List.mem_cons, not_false_eq_true, and_true, true_and, reduceIte, Nat.reduceAdd, Nat.reduceSub, Nat.reduceEqDiff, Nat.reduceLT, Nat.reduceLeDiff, Option.map_some, Option.map_none, Option.getD_some, reduceCtorEq, or_self, or_false, false_or, not_true_eq_false, decide_true, decide_false, Bool.not_true, Bool.not_false, Bool.false_eq_true, Nat.zero_add, Nat.add_zero, forall_const, Int.reduceLT, Int.reduceLE, Int.reduceNeg, Int.reduceToNat, Int.toNat_natCast, and_self]
/-- one posture behind another is one -/
theorem behind_ok (p o : Nat × Nat) (hp : p.1 < 4 ∧ p.2 < 2) (ho : o.1 < 4 ∧ o.2 < 2) : ∃ r ∈ posesL, m__law_behind [.v (pT p), .v (pT o)] = .ok (.r (pT r)) [.v (pT p), .v (pT o)] := by
  let ms : List T := spots.map fun c => cT (pz 2 p.1 p.2 (pz 2 o.1 o.2 c))
  have hm : SeqAt.shaped (.list ms) = true := (pl_map (fun c => cT (pz 2 p.1 p.2 (pz 2 o.1 o.2 c))) (fun c => pl_cT _) spots (by decide)).shaped (by decide)
  have hx := bh_x1 p o hp ho .un .un
  have hl : l1__law_behind [.v (pT p), .v (pT o), .ow false (.l ms), .un, .un] = forS (gN 3) y1__law_behind (posesL.map pT) [.v (pT p), .v (pT o), .ow false (.l ms), .un, .un] := by
    unfold l1__law_behind
    rw [sFor_eq (bh_i m__law_all_poses _ _ poses_ok)]
  obtain ⟨e', h⟩ := for_ret (g := gN 3) (b := y1__law_behind) (fun _ e => ∃ l3, lentS l3 = false ∧ e = [.v (pT p), .v (pT o), .ow false (.l ms), l3, .un]) (fun r e => ∃ q ∈ posesL, r = .r (pT q) ∧ ∃ l3, e = [.v (pT p), .v (pT o), .ow false (.l ms), l3, .un]) (posesL.map pT) 0 [.v (pT p), .v (pT o), .ow false (.l ms), .un, .un] ⟨_, rfl, rfl⟩ fun j t e hj ⟨l3, a3, he⟩ => by
    subst he
    obtain ⟨q, hq, rfl⟩ := List.mem_map.mp (List.mem_of_getElem? hj)
    have hq2 := poses_lt q hq
    have hxs : SeqAt.shaped (.list (spots.map fun c => cT (pz 2 q.1 q.2 c))) = true := (pl_map (fun c => cT (pz 2 q.1 q.2 c)) (fun c => pl_cT _) spots (by decide)).shaped (by decide)
    have st := bh_y x2__law_behind (pT p) (pT o) (pT q) ms _ hm hxs (bh_x2 q hq2 _ _ _)
    refine ⟨[.v (pT p), .v (pT o), .ow false (.l ms), .v (pT q), .un], by simp only [a3, eMut, gAppend, gInsert, eRev, eIndex, eLenSet, gInt, gLen, gTuple, gList, gAbs, gMax2, gMin2, gDivmod, gEq_int, runFn, sSeq, sIf, sSet, sSetIx, sRet, sRetN, sNil, sDrop, sAsg, sFor, sPar, sNever, setO, retO, setOs, presc, eVar, eK, eTwo, v2, eFn, eDisp, eTup, eLst, eCall, eCallR, eCallK, pick, toSl, toSls, sIdx, wb, bk, esc, escs, vals, aNil, aCons, tb, Ev.tNot, Ev.tAnd, Ev.tOr, gGt, gLt, gGe, gLe, gSub, gMod, gDiv, gPow, gAdd, gMul, gInt, mulOk, g1, g2, fInt, fLen, fTuple, fList, fAbs, eAnd, eOr, eNot, eIf, eNeg, eIsi, gII, gIx, gIsN, gN, gT, gsNil, gsCons, isLent_eq, lentO, lentS_v, lentS_un, lentS_f, lentS_t, lentS_z, finE, okArg, Out.bind, Od.val, slVal, Bx.tr, Bx.t, isN, L2.ixN, L2.atI, isInt, isBool, isTuple, isList, isStr, isDict, isTL, Nat.zero_le, id_eq, eq_self, Pu.c0, Pu.c1, Pu.c2, Pu.c3, Pu.c4, Pu.c5, Pu.c6, Pu.c7, Pu.c8, Pu.c9, Pu.s1, Pu.s2, Pu.s3, Pu.s4, Pu.s5, Pu.s6, Pu.s7, Pu.s8, Pu.s9, Int.reduceEq, Nat.reduceMul, Int.ofNat_eq_natCast, wipeE, restE, exists_eq_left', Option.some.injEq, Out.ok.injEq, Prod.mk.injEq, Option.bind_some, Option.bind_none, Option.bind_eq_bind, List.getElem?_cons_zero, List.getElem?_cons_succ, List.getElem?_nil, List.set_cons_zero, List.set_cons_succ, List.set_nil, List.length_cons, List.length_nil, List.replicate_succ, List.replicate_zero, List.cons_append, List.nil_append, List.append_nil, List.all_cons, List.all_nil, Bool.and_true, Bool.true_and, Bool.and_false, Bool.false_and, if_true, if_false, ite_true, ite_false, List.nodup_cons, List.nodup_nil, List.not_mem_nil, List.mem_cons, not_false_eq_true, and_true, true_and, reduceIte, Nat.reduceAdd, Nat.reduceSub, Nat.reduceEqDiff, Nat.reduceLT, Nat.reduceLeDiff, Option.map_some, Option.map_none, Option.getD_some, reduceCtorEq, or_self, or_false, false_or, not_true_eq_false, decide_true, decide_false, Bool.not_true, Bool.not_false, Bool.false_eq_true, Nat.zero_add, Nat.add_zero, forall_const, Int.reduceLT, Int.reduceLE, Int.reduceNeg, Int.reduceToNat, Int.toNat_natCast, and_self], [.v (pT p), .v (pT o), .ow false (.l ms), .v (pT q), .un], ?_⟩
    split at st
    · exact .inr ⟨_, st, q, hq, rfl, _, rfl⟩
    · exact .inl ⟨.inl st, _, rfl, rfl⟩
  rcases h with ⟨h, l3, _, rfl⟩ | ⟨r, h, q, hq, rfl, l3, rfl⟩
  · exact ⟨(0, 0), by decide, bh_st2 x1__law_behind l1__law_behind _ _ _ _ _ hx (hl.trans h)⟩
  · exact ⟨q, hq, bh_st1 x1__law_behind l1__law_behind _ _ _ _ _ _ hx (hl.trans h)⟩
end Lw

set_option linter.all false
set_option maxRecDepth 100000
set_option maxHeartbeats 4000000
namespace Lw
open PySem PySem.Spec Ev Pu Mt
/-! ### a book of postures -/
structure RowOk (B n : Nat) (ps : List Pt) : Prop where
  len : ps.length = B * B
  rng : ∀ p ∈ ps, (0 ≤ p.1 ∧ p.1 < (B : Int)) ∧ (0 ≤ p.2.1 ∧ p.2.1 < (B : Int)) ∧ p.2.2 < n
  nod : (ps.map fun p => (p.1, p.2.1)).Nodup
theorem row_of {B n : Nat} {cs : List (Int × Int)} {ps : List Pt} (h : PlOk B cs) (e : (ps.map fun p => (p.1, p.2.1)) = cs) (hn : ∀ p ∈ ps, p.2.2 < n) : RowOk B n ps := by
  refine ⟨?_, fun p hp => ?_, by rw [e]; exact h.nod⟩
  · rw [← h.len, ← e, List.length_map]
  · have := h.rng (p.1, p.2.1) (by rw [← e]; exact List.mem_map_of_mem (f := fun p : Pt => (p.1, p.2.1)) hp)
    exact ⟨this.1, this.2, hn p hp⟩
theorem good_of {B : Nat} {ks : List (List Pt)} (hb : B = 2 ∨ B = 3) (h0 : 0 < ks.length) (h1 : ks.length ≤ 20) (h : ∀ ps ∈ ks, RowOk B ks.length ps) : Good B ks :=
  ⟨hb, h0, h1, fun ps hp => (h ps hp).len, fun ps hp => (h ps hp).rng, fun ps hp => (h ps hp).nod⟩
theorem pz_rng {w : Int} {way mir : Nat} {c : Int × Int} (hc : (0 ≤ c.1 ∧ c.1 < w) ∧ (0 ≤ c.2 ∧ c.2 < w)) (h : way < 4) (h2 : mir < 2) : (0 ≤ (pz w way mir c).1 ∧ (pz w way mir c).1 < w) ∧ (0 ≤ (pz w way mir c).2 ∧ (pz w way mir c).2 < w) := by
  have hw : way = 0 ∨ way = 1 ∨ way = 2 ∨ way = 3 := by omega
  have hm : mir = 0 ∨ mir = 1 := by omega
  rcases hw with rfl | rfl | rfl | rfl <;> rcases hm with rfl | rfl <;> simp only [pz, pz1] <;> omega
theorem pz_inj {w : Int} {way mir : Nat} {c d : Int × Int} (h : way < 4) (h2 : mir < 2) (e : pz w way mir c = pz w way mir d) : c = d := by
  obtain ⟨x, y⟩ := c
  obtain ⟨u, v⟩ := d
  have hw : way = 0 ∨ way = 1 ∨ way = 2 ∨ way = 3 := by omega
  have hm : mir = 0 ∨ mir = 1 := by omega
  rcases hw with rfl | rfl | rfl | rfl <;> rcases hm with rfl | rfl <;> simp only [pz, pz1, Prod.mk.injEq] at e ⊢ <;> omega
theorem pz_pl {B : Nat} {cs : List (Int × Int)} (h : PlOk B cs) {way mir : Nat} (h1 : way < 4) (h2 : mir < 2) : PlOk B (cs.map (pz (B : Int) way mir)) :=
  ⟨by rw [List.length_map]; exact h.len, List.Pairwise.map _ (fun a b hab z => hab (pz_inj h1 h2 z)) h.nod, fun c hc => by
    obtain ⟨d, hd, rfl⟩ := List.mem_map.mp hc
    exact pz_rng (h.rng d hd) h1 h2⟩
theorem f2_take {α β : Type} {P : α → T → Prop} {Q : β → Prop} (f : β → T) (h : ∀ a u, P a u → ∃ b, u = f b ∧ Q b) : ∀ {xs : List α} {us : List T}, F2 P xs us → ∃ bs : List β, us = bs.map f ∧ bs.length = xs.length ∧ ∀ b ∈ bs, Q b
  | _, _, .nil => ⟨[], rfl, rfl, fun b hb => by cases hb⟩
  | _, _, .cons p q => by
    obtain ⟨b, rfl, hb⟩ := h _ _ p
    obtain ⟨bs, rfl, hl, hq⟩ := f2_take f h q
    exact ⟨b :: bs, rfl, by rw [List.length_cons, List.length_cons, hl], fun x hx => by
      rcases List.mem_cons.mp hx with rfl | hx
      · exact hb
      · exact hq x hx⟩
theorem ix_map {α : Type} (f : α → T) (l : List α) (k : Nat) (h : k < l.length) : ∃ a ∈ l, gIx (.list (l.map f)) (.int (k : Int)) = some (.r (f a)) ∧ l[k]? = some a :=
  ⟨l[k], List.getElem_mem h, ix_list _ _ _ (by rw [List.getElem?_map, List.getElem?_eq_getElem h]; rfl), List.getElem?_eq_getElem h⟩
/-- a drawn item of a list -/
theorem pp_e (m : FSem) (d d' po : List T) (k : Int) (u : T) (l1 l3 l4 l5 l6 l7 l8 l9 : Sl) (h : m [.ow true (.l d), .v (.int 8)] = .ok (.r (.int k)) [.ow true (.l d'), .v (.int 8)]) (hi : gIx (.list po) (.int k) = some (.r u)) :
    (eOp2 gIx (eVar 2) (eCall 2 m (aCons (eVar 0) (aCons (eK (.int 8)) aNil)))) [.ow true (.l d), l1, .ow false (.l po), l3, l4, l5, l6, l7, l8, l9] = .ok (.r u) [.ow true (.l d'), l1, .ow false (.l po), l3, l4, l5, l6, l7, l8, l9] := by
  simp only [h, hi, eMut, gAppend, gInsert, eRev, eIndex, eLenSet, gInt, gLen, gTuple, gList, gAbs, gMax2, gMin2, gDivmod, gEq_int, runFn, sSeq, sIf, sSet, sSetIx, sRet, sRetN, sNil, sDrop, sAsg, sFor, sPar, sNever, setO, retO, setOs, presc, eVar, eK, eTwo, v2, eFn, eDisp, eTup, eLst, eCall, eCallR, eCallK, pick, toSl, toSls, sIdx, wb, bk, esc, escs, vals, aNil, aCons, tb, Ev.tNot, Ev.tAnd, Ev.tOr, gGt, gLt, gGe, gLe, gSub, gMod, gDiv, gPow, gAdd, gMul, gInt, mulOk, g1, g2, fInt, fLen, fTuple, fList, fAbs, eAnd, eOr, eNot, eIf, eNeg, eIsi, gII, gIsN, gN, gT, gsNil, gsCons, isLent_eq, lentO, lentS_v, lentS_un, lentS_f, lentS_t, lentS_z, finE, okArg, Out.bind, Od.val, slVal, Bx.tr, Bx.t, isN, L2.ixN, L2.atI, isInt, isBool, isTuple, isList, isStr, isDict, isTL, Nat.zero_le, id_eq, eq_self, Pu.c0, Pu.c1, Pu.c2, Pu.c3, Pu.c4, Pu.c5, Pu.c6, Pu.c7, Pu.c8, Pu.c9, Pu.s1, Pu.s2, Pu.s3, Pu.s4, Pu.s5, Pu.s6, Pu.s7, Pu.s8, Pu.s9, Int.reduceEq, Nat.reduceMul, Int.ofNat_eq_natCast, wipeE, restE, exists_eq_left', Option.some.injEq, Out.ok.injEq, Prod.mk.injEq, Option.bind_some, Option.bind_none, Option.bind_eq_bind, List.getElem?_cons_zero, List.getElem?_cons_succ, List.getElem?_nil, List.set_cons_zero, List.set_cons_succ, List.set_nil, List.length_cons, List.length_nil, List.replicate_succ, List.replicate_zero, List.cons_append, List.nil_append, List.append_nil, List.all_cons, List.all_nil, Bool.and_true, Bool.true_and, Bool.and_false, Bool.false_and, if_true, if_false, ite_true, ite_false, List.nodup_cons, List.nodup_nil, List.not_mem_nil, List.mem_cons, not_false_eq_true, and_true, true_and, reduceIte, Nat.reduceAdd, Nat.reduceSub, Nat.reduceEqDiff, Nat.reduceLT, Nat.reduceLeDiff, Option.map_some, Option.map_none, Option.getD_some, reduceCtorEq, or_self, or_false, false_or, not_true_eq_false, decide_true, decide_false, Bool.not_true, Bool.not_false, Bool.false_eq_true, Nat.zero_add, Nat.add_zero, forall_const, Int.reduceLT, Int.reduceLE, Int.reduceNeg, Int.reduceToNat, Int.toNat_natCast, and_self]
theorem pp_x (D : Dk) (B : Nat) (cs : List (Int × Int)) (hc : cs.length ≤ 9) : ∃ (D' : Dk) (ms : List (Nat × Nat)), x1__law_posed_page [.ow true (.l (dkT D)), .v (nT B), .ow false (.l (posesL.map pT)), .ow false (.l (cs.map cT)), .un, .un, .un, .un, .un, .un] = .ok (.b (.l (ms.map pT))) [.ow true (.l (dkT D')), .v (nT B), .ow false (.l (posesL.map pT)), .v (.list (cs.map cT)), .un, .un, .un, .un, .un, .un] ∧ ms.length = cs.length ∧ ∀ q ∈ ms, q ∈ posesL := by
  have hi : iOf (eVar 3) [.ow true (.l (dkT D)), .v (nT B), .ow false (.l (posesL.map pT)), .ow false (.l (cs.map cT)), .un, .un, .un, .un, .un, .un] = .ok (cs.map cT) [.ow true (.l (dkT D)), .v (nT B), .ow false (.l (posesL.map pT)), .v (.list (cs.map cT)), .un, .un, .un, .un, .un, .un] := rfl
  have hl := poses_len
  obtain ⟨us, e', h1, ⟨D', rfl⟩, h3⟩ := comp_go (g := gN 8) (c := tTrue) (m := eOp2 gIx (eVar 2) (eCall 2 m__law_take (aCons (eVar 0) (aCons (eK (.int 8)) aNil)))) (vs := [8]) (fun e => ∃ D : Dk, e = [.ow true (.l (dkT D)), .v (nT B), .ow false (.l (posesL.map pT)), .v (.list (cs.map cT)), .un, .un, .un, .un, .un, .un]) (fun _ u => ∃ q, u = pT q ∧ q ∈ posesL) cT cs [] _ ⟨D, rfl⟩ (by rw [List.length_nil]; unfold sizeLine; omega) fun c hc e ⟨D, he⟩ => by
    subst he
    have tk := tk_ok D 8 (by omega) (by omega)
    have tl := tkV_lt D (n := 8) (by omega)
    generalize posesL = po at hl ⊢
    obtain ⟨q, hq, hx, _⟩ := ix_map pT po (tkV D 8) (by omega)
    exact ⟨_, rfl, _, rfl, _, _, pp_e m__law_take _ _ _ _ _ _ _ _ _ _ _ _ _ tk hx, _, _, rfl, ⟨q, rfl, hq⟩, tkD D 8, rfl⟩
  obtain ⟨ms, rfl, h4, h5⟩ := f2_take (Q := fun q => q ∈ posesL) pT (fun a u h => h) h3
  refine ⟨D', ms, ?_, h4, h5⟩
  unfold x1__law_posed_page
  rw [comp_eq hi]
  exact h1
theorem find_pose : ∀ r ∈ posesL, (match findT (posesL.map pT) (pT r) with | some j => decide (j < 8) | none => false) = true := by decide +kernel
theorem find_pose2 {r : Nat × Nat} (h : r ∈ posesL) : ∃ j, j < 8 ∧ findT (posesL.map pT) (pT r) = some j := by
  have := find_pose r h
  split at this
  · exact ⟨_, of_decide_eq_true this, by assumption⟩
  · cases this
theorem pp_y (m1 m2 : FSem) (t1 tp c q tr a b : T) (po ts : List T) (j : Nat) (s0 s3 s4 s5 : Sl) (h1 : m1 [.v t1, .v c, .v tp] = .ok (.r (.tuple [a, b])) [.v t1, .v c, .v tp]) (h2 : m2 [.v tp, .v q] = .ok (.r tr) [.v tp, .v q])
    (k1 : SeqAt.shaped (.list po) = true) (k2 : SeqAt.shaped tr = true) (hf : findT po tr = some j) (hs : ts.length < sizeLine) :
    (sDrop (eMut 7 gAppend (aCons (eOp2 gAdd (eCall 3 m1 (aCons (eVar 1) (aCons (eVar 8) (aCons (eVar 6) aNil)))) (eTup (aCons (eIndex (eVar 2) (aCons (eCall 2 m2 (aCons (eVar 6) (aCons (eVar 9) aNil))) aNil)) aNil))) aNil))) [s0, .v t1, .v (.list po), s3, s4, s5, .v tp, .ow false (.l ts), .v c, .v q] = .ok .nx [s0, .v t1, .v (.list po), s3, s4, s5, .v tp, .ow false (.l (ts ++ [.tuple [a, b, .int (j : Int)]])), .v c, .v q] := by
  simp only [h1, h2, k1, k2, hf, hs, eMut, gAppend, gInsert, eRev, eIndex, eLenSet, gInt, gLen, gTuple, gList, gAbs, gMax2, gMin2, gDivmod, gEq_int, runFn, sSeq, sIf, sSet, sSetIx, sRet, sRetN, sNil, sDrop, sAsg, sFor, sPar, sNever, setO, retO, setOs, presc, eVar, eK, eTwo, v2, eFn, eDisp, eTup, eLst, eCall, eCallR, eCallK, pick, toSl, toSls, sIdx, wb, bk, esc, escs, vals, aNil, aCons, tb, Ev.tNot, Ev.tAnd, Ev.tOr, gGt, gLt, gGe, gLe, gSub, gMod, gDiv, gPow, gAdd, gMul, gInt, mulOk, g1, g2, fInt, fLen, fTuple, fList, fAbs, eAnd, eOr, eNot, eIf, eNeg, eIsi, gII, gIx, gIsN, gN, gT, gsNil, gsCons, isLent_eq, lentO, lentS_v, lentS_un, lentS_f, lentS_t, lentS_z, finE, okArg, Out.bind, Od.val, slVal, Bx.tr, Bx.t, isN, L2.ixN, L2.atI, isInt, isBool, isTuple, isList, isStr, isDict, isTL, Nat.zero_le, id_eq, eq_self, Pu.c0, Pu.c1, Pu.c2, Pu.c3, Pu.c4, Pu.c5, Pu.c6, Pu.c7, Pu.c8, Pu.c9, Pu.s1, Pu.s2, Pu.s3, Pu.s4, Pu.s5, Pu.s6, Pu.s7, Pu.s8, Pu.s9, Int.reduceEq, Nat.reduceMul, Int.ofNat_eq_natCast, wipeE, restE, exists_eq_left', Option.some.injEq, Out.ok.injEq, Prod.mk.injEq, Option.bind_some, Option.bind_none, Option.bind_eq_bind, List.getElem?_cons_zero, List.getElem?_cons_succ, List.getElem?_nil, List.set_cons_zero, List.set_cons_succ, List.set_nil, List.length_cons, List.length_nil, List.replicate_succ, List.replicate_zero, List.cons_append, List.nil_append, List.append_nil, List.all_cons, List.all_nil, Bool.and_true, Bool.true_and, Bool.and_false, Bool.false_and, if_true, if_false, ite_true, ite_false, List.nodup_cons, List.nodup_nil, List.not_mem_nil, List.mem_cons, not_false_eq_true, and_true, true_and, reduceIte, Nat.reduceAdd, Nat.reduceSub, Nat.reduceEqDiff, Nat.reduceLT, Nat.reduceLeDiff, Option.map_some, Option.map_none, Option.getD_some, reduceCtorEq, or_self, or_false, false_or, not_true_eq_false, decide_true, decide_false, Bool.not_true, Bool.not_false, Bool.false_eq_true, Nat.zero_add, Nat.add_zero, forall_const, Int.reduceLT, Int.reduceLE, Int.reduceNeg, Int.reduceToNat, Int.toNat_natCast, and_self]
def inZ (x : (Int × Int) × (Nat × Nat)) : T := .tuple [cT x.1, pT x.2]
theorem pairs_zip (cs : List (Int × Int)) (ms : List (Nat × Nat)) : pairs (cs.map cT) (ms.map pT) = (cs.zip ms).map inZ := by
  unfold pairs
  rw [List.zip_map, List.map_map]
  rfl
theorem pp_g (c q : T) (s0 s1 s2 s3 s4 s5 s6 s7 l8 l9 : Sl) (a8 : lentS l8 = false) (a9 : lentS l9 = false) : gT 2 (gsCons (gN 8) (gsCons (gN 9) gsNil)) (.tuple [c, q]) [s0, s1, s2, s3, s4, s5, s6, s7, l8, l9] = some [s0, s1, s2, s3, s4, s5, s6, s7, .v c, .v q] := by
  simp only [a8, a9, eMut, gAppend, gInsert, eRev, eIndex, eLenSet, gInt, gLen, gTuple, gList, gAbs, gMax2, gMin2, gDivmod, gEq_int, runFn, sSeq, sIf, sSet, sSetIx, sRet, sRetN, sNil, sDrop, sAsg, sFor, sPar, sNever, setO, retO, setOs, presc, eVar, eK, eTwo, v2, eFn, eDisp, eTup, eLst, eCall, eCallR, eCallK, pick, toSl, toSls, sIdx, wb, bk, esc, escs, vals, aNil, aCons, tb, Ev.tNot, Ev.tAnd, Ev.tOr, gGt, gLt, gGe, gLe, gSub, gMod, gDiv, gPow, gAdd, gMul, gInt, mulOk, g1, g2, fInt, fLen, fTuple, fList, fAbs, eAnd, eOr, eNot, eIf, eNeg, eIsi, gII, gIx, gIsN, gN, gT, gsNil, gsCons, isLent_eq, lentO, lentS_v, lentS_un, lentS_f, lentS_t, lentS_z, finE, okArg, Out.bind, Od.val, slVal, Bx.tr, Bx.t, isN, L2.ixN, L2.atI, isInt, isBool, isTuple, isList, isStr, isDict, isTL, Nat.zero_le, id_eq, eq_self, Pu.c0, Pu.c1, Pu.c2, Pu.c3, Pu.c4, Pu.c5, Pu.c6, Pu.c7, Pu.c8, Pu.c9, Pu.s1, Pu.s2, Pu.s3, Pu.s4, Pu.s5, Pu.s6, Pu.s7, Pu.s8, Pu.s9, Int.reduceEq, Nat.reduceMul, Int.ofNat_eq_natCast, wipeE, restE, exists_eq_left', Option.some.injEq, Out.ok.injEq, Prod.mk.injEq, Option.bind_some, Option.bind_none, Option.bind_eq_bind, List.getElem?_cons_zero, List.getElem?_cons_succ, List.getElem?_nil, List.set_cons_zero, List.set_cons_succ, List.set_nil, List.length_cons, List.length_nil, List.replicate_succ, List.replicate_zero, List.cons_append, List.nil_append, List.append_nil, List.all_cons, List.all_nil, Bool.and_true, Bool.true_and, Bool.and_false, Bool.false_and, if_true, if_false, ite_true, ite_false, List.nodup_cons, List.nodup_nil, List.not_mem_nil, List.mem_cons, not_false_eq_true, and_true, true_and, reduceIte, Nat.reduceAdd, Nat.reduceSub, Nat.reduceEqDiff, Nat.reduceLT, Nat.reduceLeDiff, Option.map_some, Option.map_none, Option.getD_some, reduceCtorEq, or_self, or_false, false_or, not_true_eq_false, decide_true, decide_false, Bool.not_true, Bool.not_false, Bool.false_eq_true, Nat.zero_add, Nat.add_zero, forall_const, Int.reduceLT, Int.reduceLE, Int.reduceNeg, Int.reduceToNat, Int.toNat_natCast, and_self]
/-- one kind -/
theorem pp_l1 (B : Nat) (p : Nat × Nat) (hp : p.1 < 4 ∧ p.2 < 2) (cs : List (Int × Int)) (ms : List (Nat × Nat)) (hc : cs.length ≤ 9) (hl : ms.length = cs.length) (hm : ∀ q ∈ ms, q ∈ posesL) (s0 s5 : Sl) (s4 l8 l9 : Sl) (h4 : s4 = .ow false (.l (ms.map pT)) ∨ s4 = .v (.list (ms.map pT))) (a8 : lentS l8 = false) (a9 : lentS l9 = false) :
    ∃ (ps : List Pt) (l8' l9' : Sl), l1__law_posed_page [s0, .v (nT B), .v (.list (posesL.map pT)), .v (.list (cs.map cT)), s4, s5, .v (pT p), .ow false (.l []), l8, l9] = .ok .nx [s0, .v (nT B), .v (.list (posesL.map pT)), .v (.list (cs.map cT)), .v (.list (ms.map pT)), s5, .v (pT p), .ow false (.l (ps.map ptT)), l8', l9'] ∧ (lentS l8' = false ∧ lentS l9' = false) ∧ (ps.map fun p => (p.1, p.2.1)) = cs.map (pz (B : Int) p.1 p.2) ∧ ∀ p ∈ ps, p.2.2 < 8 := by
  have hi : iZip (aCons (eVar 3) (aCons (eVar 4) aNil)) [s0, .v (nT B), .v (.list (posesL.map pT)), .v (.list (cs.map cT)), s4, s5, .v (pT p), .ow false (.l []), l8, l9] = .ok ((cs.zip ms).map inZ) [s0, .v (nT B), .v (.list (posesL.map pT)), .v (.list (cs.map cT)), .v (.list (ms.map pT)), s5, .v (pT p), .ow false (.l []), l8, l9] := by
    rw [← pairs_zip]
    rcases h4 with rfl | rfl <;> rfl
  have kpo : SeqAt.shaped (.list (posesL.map pT)) = true := (pl_map pT pl_pT posesL (by decide)).shaped (by decide)
  have hzl : (cs.zip ms).length ≤ 9 := by rw [List.length_zip]; omega
  obtain ⟨e', h, ps, l8', l9', ⟨b8, b9⟩, h1, h2, rfl⟩ := for_on (g := gT 2 (gsCons (gN 8) (gsCons (gN 9) gsNil))) (b := y1__law_posed_page) inZ (fun don e => ∃ (ps : List Pt) (l8 l9 : Sl), (lentS l8 = false ∧ lentS l9 = false) ∧ (ps.map fun p => (p.1, p.2.1)) = don.map (fun x => pz (B : Int) p.1 p.2 x.1) ∧ (∀ p ∈ ps, p.2.2 < 8) ∧
      e = [s0, .v (nT B), .v (.list (posesL.map pT)), .v (.list (cs.map cT)), .v (.list (ms.map pT)), s5, .v (pT p), .ow false (.l (ps.map ptT)), l8, l9]) 9 (cs.zip ms) [] _ ⟨[], l8, l9, ⟨a8, a9⟩, rfl, (fun p hp => by cases hp), rfl⟩ (by rw [List.length_nil]; omega) fun x hx don e hd ⟨ps, l8, l9, ⟨a8, a9⟩, e1, e2, he⟩ => by
    subst he
    obtain ⟨c, q⟩ := x
    have hq : q ∈ posesL := hm q (List.of_mem_zip hx).2
    obtain ⟨r, hr, hb⟩ := behind_ok p q hp (poses_lt q hq)
    obtain ⟨j, hj, hf⟩ := find_pose2 hr
    have hlen : ps.length = don.length := by
      have := congrArg List.length e1
      rwa [List.length_map, List.length_map] at this
    have st := pp_y m__law_posed m__law_behind (nT B) (pT p) (cT c) (pT q) (pT r) (.int (pz (B : Int) p.1 p.2 c).1) (.int (pz (B : Int) p.1 p.2 c).2) (posesL.map pT) (ps.map ptT) j s0 (.v (.list (cs.map cT))) (.v (.list (ms.map pT))) s5 (law_posed_ok (B : Int) p.1 p.2 c hp.1 hp.2) hb kpo ((pl_pT r).shaped (by decide)) hf (by rw [List.length_map, hlen]; unfold sizeLine; omega)
    refine ⟨_, pp_g (cT c) (pT q) _ _ _ _ _ _ _ _ l8 l9 a8 a9, _, .inl st, ps ++ [((pz (B : Int) p.1 p.2 c).1, (pz (B : Int) p.1 p.2 c).2, j)], .v (cT c), .v (pT q), ⟨rfl, rfl⟩, ?_, fun p hp => ?_, ?_⟩
    · rw [List.map_append, List.map_append, e1]; rfl
    · rcases List.mem_append.mp hp with hp | hp
      · exact e2 p hp
      · rw [List.mem_singleton.mp hp]; exact hj
    · rw [List.map_append]; rfl
  refine ⟨ps, l8', l9', ?_, ⟨b8, b9⟩, ?_, h2⟩
  · unfold l1__law_posed_page
    rw [sFor_eq hi]
    exact h
  · rw [h1, List.nil_append, show (fun x : (Int × Int) × (Nat × Nat) => pz (B : Int) p.1 p.2 x.1) = (pz (B : Int) p.1 p.2) ∘ Prod.fst from rfl, ← List.map_map, List.map_fst_zip (by omega)]
theorem pp_y2 (y : SemS) (t1 tpo tp : T) (kds ps : List T) (s0 s3 s4 s4' l7 l8 l9 l8' l9' : Sl) (a7 : lentS l7 = false) (hs : kds.length < sizeLine) (h : y [s0, .v t1, .v tpo, s3, s4, .ow false (.l kds), .v tp, .ow false (.l []), l8, l9] = .ok .nx [s0, .v t1, .v tpo, s3, s4', .ow false (.l kds), .v tp, .ow false (.l ps), l8', l9']) :
    (sSeq (sSet 7 (eLst aNil)) (sSeq y (sDrop (eMut 5 gAppend (aCons (eFn gTuple (aCons (eVar 7) aNil)) aNil))))) [s0, .v t1, .v tpo, s3, s4, .ow false (.l kds), .v tp, l7, l8, l9] = .ok .nx [s0, .v t1, .v tpo, s3, s4', .ow false (.l (kds ++ [.tuple ps])), .v tp, .ow false (.l ps), l8', l9'] := by
  simp only [h, hs, a7, eMut, gAppend, gInsert, eRev, eIndex, eLenSet, gInt, gLen, gTuple, gList, gAbs, gMax2, gMin2, gDivmod, gEq_int, runFn, sSeq, sIf, sSet, sSetIx, sRet, sRetN, sNil, sDrop, sAsg, sFor, sPar, sNever, setO, retO, setOs, presc, eVar, eK, eTwo, v2, eFn, eDisp, eTup, eLst, eCall, eCallR, eCallK, pick, toSl, toSls, sIdx, wb, bk, esc, escs, vals, aNil, aCons, tb, Ev.tNot, Ev.tAnd, Ev.tOr, gGt, gLt, gGe, gLe, gSub, gMod, gDiv, gPow, gAdd, gMul, gInt, mulOk, g1, g2, fInt, fLen, fTuple, fList, fAbs, eAnd, eOr, eNot, eIf, eNeg, eIsi, gII, gIx, gIsN, gN, gT, gsNil, gsCons, isLent_eq, lentO, lentS_v, lentS_un, lentS_f, lentS_t, lentS_z, finE, okArg, Out.bind, Od.val, slVal, Bx.tr, Bx.t, isN, L2.ixN, L2.atI, isInt, isBool, isTuple, isList, isStr, isDict, isTL, Nat.zero_le, id_eq, eq_self, Pu.c0, Pu.c1, Pu.c2, Pu.c3, Pu.c4, Pu.c5, Pu.c6, Pu.c7, Pu.c8, Pu.c9, Pu.s1, Pu.s2, Pu.s3, Pu.s4, Pu.s5, Pu.s6, Pu.s7, Pu.s8, Pu.s9, Int.reduceEq, Nat.reduceMul, Int.ofNat_eq_natCast, wipeE, restE, exists_eq_left', Option.some.injEq, Out.ok.injEq, Prod.mk.injEq, Option.bind_some, Option.bind_none, Option.bind_eq_bind, List.getElem?_cons_zero, List.getElem?_cons_succ, List.getElem?_nil, List.set_cons_zero, List.set_cons_succ, List.set_nil, List.length_cons, List.length_nil, List.replicate_succ, List.replicate_zero, List.cons_append, List.nil_append, List.append_nil, List.all_cons, List.all_nil, Bool.and_true, Bool.true_and, Bool.and_false, Bool.false_and, if_true, if_false, ite_true, ite_false, List.nodup_cons, List.nodup_nil, List.not_mem_nil, List.mem_cons, not_false_eq_true, and_true, true_and, reduceIte, Nat.reduceAdd, Nat.reduceSub, Nat.reduceEqDiff, Nat.reduceLT, Nat.reduceLeDiff, Option.map_some, Option.map_none, Option.getD_some, reduceCtorEq, or_self, or_false, false_or, not_true_eq_false, decide_true, decide_false, Bool.not_true, Bool.not_false, Bool.false_eq_true, Nat.zero_add, Nat.add_zero, forall_const, Int.reduceLT, Int.reduceLE, Int.reduceNeg, Int.reduceToNat, Int.toNat_natCast, and_self]
theorem pp_l2 (D : Dk) (B : Nat) (cs : List (Int × Int)) (ms : List (Nat × Nat)) (hc : PlOk B cs) (hB : B * B ≤ 9) (hl : ms.length = cs.length) (hm : ∀ q ∈ ms, q ∈ posesL) :
    ∃ (ks : List (List Pt)) (l4 l6 l7 l8 l9 : Sl), l2__law_posed_page [.ow true (.l (dkT D)), .v (nT B), .ow false (.l (posesL.map pT)), .v (.list (cs.map cT)), .ow false (.l (ms.map pT)), .ow false (.l []), .un, .un, .un, .un] = .ok .nx [.ow true (.l (dkT D)), .v (nT B), .v (.list (posesL.map pT)), .v (.list (cs.map cT)), l4, .ow false (.l (ks.map kT)), l6, l7, l8, l9] ∧ ks.length = 8 ∧ ∀ ps ∈ ks, RowOk B 8 ps := by
  have hi : iOf (eVar 2) [.ow true (.l (dkT D)), .v (nT B), .ow false (.l (posesL.map pT)), .v (.list (cs.map cT)), .ow false (.l (ms.map pT)), .ow false (.l []), .un, .un, .un, .un] = .ok (posesL.map pT) [.ow true (.l (dkT D)), .v (nT B), .v (.list (posesL.map pT)), .v (.list (cs.map cT)), .ow false (.l (ms.map pT)), .ow false (.l []), .un, .un, .un, .un] := rfl
  have hpl := poses_len
  obtain ⟨e', h, ks, s4, l6, l7, l8, l9, _, _, h1, h2, rfl⟩ := for_on (g := gN 6) (b := y2__law_posed_page) pT (fun don e => ∃ (ks : List (List Pt)) (s4 l6 l7 l8 l9 : Sl), (s4 = .ow false (.l (ms.map pT)) ∨ s4 = .v (.list (ms.map pT))) ∧ (lentS l6 = false ∧ lentS l7 = false ∧ lentS l8 = false ∧ lentS l9 = false) ∧ ks.length = don.length ∧ (∀ ps ∈ ks, RowOk B 8 ps) ∧
      e = [.ow true (.l (dkT D)), .v (nT B), .v (.list (posesL.map pT)), .v (.list (cs.map cT)), s4, .ow false (.l (ks.map kT)), l6, l7, l8, l9]) 8 posesL [] [.ow true (.l (dkT D)), .v (nT B), .v (.list (posesL.map pT)), .v (.list (cs.map cT)), .ow false (.l (ms.map pT)), .ow false (.l []), .un, .un, .un, .un] ⟨[], _, _, _, _, _, .inl rfl, ⟨rfl, rfl, rfl, rfl⟩, rfl, (fun p hp => by cases hp), rfl⟩ (by rw [List.length_nil]; omega) fun p hp don e hd ⟨ks, s4, l6, l7, l8, l9, h4, ⟨a6, a7, a8, a9⟩, e1, e2, he⟩ => by
    subst he
    obtain ⟨ps, l8', l9', q1, ⟨b8, b9⟩, q2, q3⟩ := pp_l1 B p (poses_lt p hp) cs ms (by rw [hc.len]; exact hB) hl hm (.ow true (.l (dkT D))) (.ow false (.l (ks.map kT))) s4 l8 l9 h4 a8 a9
    have st := pp_y2 l1__law_posed_page (nT B) (.list (posesL.map pT)) (pT p) (ks.map kT) (ps.map ptT) (.ow true (.l (dkT D))) (.v (.list (cs.map cT))) s4 (.v (.list (ms.map pT))) l7 l8 l9 l8' l9' a7 (by rw [List.length_map, e1]; unfold sizeLine; omega) q1
    refine ⟨[.ow true (.l (dkT D)), .v (nT B), .v (.list (posesL.map pT)), .v (.list (cs.map cT)), s4, .ow false (.l (ks.map kT)), .v (pT p), l7, l8, l9], by simp only [a6, eMut, gAppend, gInsert, eRev, eIndex, eLenSet, gInt, gLen, gTuple, gList, gAbs, gMax2, gMin2, gDivmod, gEq_int, runFn, sSeq, sIf, sSet, sSetIx, sRet, sRetN, sNil, sDrop, sAsg, sFor, sPar, sNever, setO, retO, setOs, presc, eVar, eK, eTwo, v2, eFn, eDisp, eTup, eLst, eCall, eCallR, eCallK, pick, toSl, toSls, sIdx, wb, bk, esc, escs, vals, aNil, aCons, tb, Ev.tNot, Ev.tAnd, Ev.tOr, gGt, gLt, gGe, gLe, gSub, gMod, gDiv, gPow, gAdd, gMul, gInt, mulOk, g1, g2, fInt, fLen, fTuple, fList, fAbs, eAnd, eOr, eNot, eIf, eNeg, eIsi, gII, gIx, gIsN, gN, gT, gsNil, gsCons, isLent_eq, lentO, lentS_v, lentS_un, lentS_f, lentS_t, lentS_z, finE, okArg, Out.bind, Od.val, slVal, Bx.tr, Bx.t, isN, L2.ixN, L2.atI, isInt, isBool, isTuple, isList, isStr, isDict, isTL, Nat.zero_le, id_eq, eq_self, Pu.c0, Pu.c1, Pu.c2, Pu.c3, Pu.c4, Pu.c5, Pu.c6, Pu.c7, Pu.c8, Pu.c9, Pu.s1, Pu.s2, Pu.s3, Pu.s4, Pu.s5, Pu.s6, Pu.s7, Pu.s8, Pu.s9, Int.reduceEq, Nat.reduceMul, Int.ofNat_eq_natCast, wipeE, restE, exists_eq_left', Option.some.injEq, Out.ok.injEq, Prod.mk.injEq, Option.bind_some, Option.bind_none, Option.bind_eq_bind, List.getElem?_cons_zero, List.getElem?_cons_succ, List.getElem?_nil, List.set_cons_zero, List.set_cons_succ, List.set_nil, List.length_cons, List.length_nil, List.replicate_succ, List.replicate_zero, List.cons_append, List.nil_append, List.append_nil, List.all_cons, List.all_nil, Bool.and_true, Bool.true_and, Bool.and_false, Bool.false_and, if_true, if_false, ite_true, ite_false, List.nodup_cons, List.nodup_nil, List.not_mem_nil, List.mem_cons, not_false_eq_true, and_true, true_and, reduceIte, Nat.reduceAdd, Nat.reduceSub, Nat.reduceEqDiff, Nat.reduceLT, Nat.reduceLeDiff, Option.map_some, Option.map_none, Option.getD_some, reduceCtorEq, or_self, or_false, false_or, not_true_eq_false, decide_true, decide_false, Bool.not_true, Bool.not_false, Bool.false_eq_true, Nat.zero_add, Nat.add_zero, forall_const, Int.reduceLT, Int.reduceLE, Int.reduceNeg, Int.reduceToNat, Int.toNat_natCast, and_self], _, .inl st, ks ++ [ps], .v (.list (ms.map pT)), .v (pT p), .ow false (.l (ps.map ptT)), l8', l9', .inr rfl, ⟨rfl, rfl, b8, b9⟩, by rw [List.length_append, List.length_append, e1]; rfl, fun x hx => ?_, by rw [List.map_append]; rfl⟩
    rcases List.mem_append.mp hx with hx | hx
    · exact e2 x hx
    · rw [List.mem_singleton.mp hx]
      exact row_of (pz_pl hc (poses_lt p hp).1 (poses_lt p hp).2) q2 q3
  refine ⟨ks, s4, l6, l7, l8, l9, ?_, by rw [h1, List.nil_append]; exact poses_len, h2⟩
  unfold l2__law_posed_page
  rw [sFor_eq hi]
  exact h
theorem pp_st (m1 m2 : FSem) (x : SemE) (y : SemS) (d0 d1 d2 : List T) (t1 tpo tcs : T) (po cs ms kds : List T) (l4 l6 l7 l8 l9 : Sl) (h1 : m1 [] = .ok (.b (.l po)) []) (h2 : m2 [.ow true (.l d0), .v t1] = .ok (.b (.l cs)) [.ow true (.l d1), .v t1])
    (hx : x [.ow true (.l d1), .v t1, .ow false (.l po), .ow false (.l cs), .un, .un, .un, .un, .un, .un] = .ok (.b (.l ms)) [.ow true (.l d2), .v t1, .ow false (.l po), .v tcs, .un, .un, .un, .un, .un, .un])
    (hy : y [.ow true (.l d2), .v t1, .ow false (.l po), .v tcs, .ow false (.l ms), .ow false (.l []), .un, .un, .un, .un] = .ok .nx [.ow true (.l d2), .v t1, .v tpo, .v tcs, l4, .ow false (.l kds), l6, l7, l8, l9]) :
    runFn 10 (sSeq (sPar [2, 3] (aCons (eCall 0 m1 aNil) (aCons (eCall 2 m2 (aCons (eVar 0) (aCons (eVar 1) aNil))) aNil))) (sSeq (sSet 4 x) (sSeq (sSet 5 (eLst aNil)) (sSeq y (sRet (eTup (aCons (eVar 1) (aCons (eFn gTuple (aCons (eVar 5) aNil)) aNil)))))))) [.ow true (.l d0), .v t1] = .ok (.r (.tuple [t1, .tuple kds])) [.ow true (.l d2), .v t1] := by
  simp only [h1, h2, hx, hy, eMut, gAppend, gInsert, eRev, eIndex, eLenSet, gInt, gLen, gTuple, gList, gAbs, gMax2, gMin2, gDivmod, gEq_int, runFn, sSeq, sIf, sSet, sSetIx, sRet, sRetN, sNil, sDrop, sAsg, sFor, sPar, sNever, setO, retO, setOs, presc, eVar, eK, eTwo, v2, eFn, eDisp, eTup, eLst, eCall, eCallR, eCallK, pick, toSl, toSls, sIdx, wb, bk, esc, escs, vals, aNil, aCons, tb, Ev.tNot, Ev.tAnd, Ev.tOr, gGt, gLt, gGe, gLe, gSub, gMod, gDiv, gPow, gAdd, gMul, gInt, mulOk, g1, g2, fInt, fLen, fTuple, fList, fAbs, eAnd, eOr, eNot, eIf, eNeg, eIsi, gII, gIx, gIsN, gN, gT, gsNil, gsCons, isLent_eq, lentO, lentS_v, lentS_un, lentS_f, lentS_t, lentS_z, finE, okArg, Out.bind, Od.val, slVal, Bx.tr, Bx.t, isN, L2.ixN, L2.atI, isInt, isBool, isTuple, isList, isStr, isDict, isTL, Nat.zero_le, id_eq, eq_self, Pu.c0, Pu.c1, Pu.c2, Pu.c3, Pu.c4, Pu.c5, Pu.c6, Pu.c7, Pu.c8, Pu.c9, Pu.s1, Pu.s2, Pu.s3, Pu.s4, Pu.s5, Pu.s6, Pu.s7, Pu.s8, Pu.s9, Int.reduceEq, Nat.reduceMul, Int.ofNat_eq_natCast, wipeE, restE, exists_eq_left', Option.some.injEq, Out.ok.injEq, Prod.mk.injEq, Option.bind_some, Option.bind_none, Option.bind_eq_bind, List.getElem?_cons_zero, List.getElem?_cons_succ, List.getElem?_nil, List.set_cons_zero, List.set_cons_succ, List.set_nil, List.length_cons, List.length_nil, List.replicate_succ, List.replicate_zero, List.cons_append, List.nil_append, List.append_nil, List.all_cons, List.all_nil, Bool.and_true, Bool.true_and, Bool.and_false, Bool.false_and, if_true, if_false, ite_true, ite_false, List.nodup_cons, List.nodup_nil, List.not_mem_nil, List.mem_cons, not_false_eq_true, and_true, true_and, reduceIte, Nat.reduceAdd, Nat.reduceSub, Nat.reduceEqDiff, Nat.reduceLT, Nat.reduceLeDiff, Option.map_some, Option.map_none, Option.getD_some, reduceCtorEq, or_self, or_false, false_or, not_true_eq_false, decide_true, decide_false, Bool.not_true, Bool.not_false, Bool.false_eq_true, Nat.zero_add, Nat.add_zero, forall_const, Int.reduceLT, Int.reduceLE, Int.reduceNeg, Int.reduceToNat, Int.toNat_natCast, and_self]
theorem posed_page_ok (D : Dk) {B : Nat} (hb : B = 2 ∨ B = 3) : ∃ (D' : Dk) (ks : List (List Pt)), m__law_posed_page [.ow true (.l (dkT D)), .v (nT B)] = .ok (.r (bkT B ks)) [.ow true (.l (dkT D')), .v (nT B)] ∧ Good B ks := by
  have hB : B * B ≤ 9 := by rcases hb with h | h <;> subst h <;> decide
  obtain ⟨D1, cs, h1, hc⟩ := places_law D hb
  obtain ⟨D2, ms, h2, hl, hm⟩ := pp_x D1 B cs (by rw [hc.len]; exact hB)
  obtain ⟨ks, l4, l6, l7, l8, l9, h3, hk, hr⟩ := pp_l2 D2 B cs ms hc hB hl hm
  exact ⟨D2, ks, pp_st m__law_all_poses m__law_places x1__law_posed_page l2__law_posed_page _ _ _ _ _ _ _ _ _ _ _ _ _ _ _ poses_ok h1 h2 h3, good_of hb (by omega) (by omega) (by rw [hk]; exact hr)⟩
end Lw

set_option linter.all false
set_option maxRecDepth 100000
set_option maxHeartbeats 4000000
namespace Lw
open PySem PySem.Spec Ev Pu Mt
/-! ### a drawn book -/
theorem pg_e (m : FSem) (d d' : List T) (t1 u : T) (us : List T) (hu : u = .list us) (l2 l3 l4 l5 l6 l7 l8 l9 l10 : Sl) (h : m [.ow true (.l d), .v t1] = .ok (.b (.l us)) [.ow true (.l d'), .v t1]) :
    (eCall 2 m (aCons (eVar 0) (aCons (eVar 1) aNil))) [.ow true (.l d), .v t1, l2, l3, l4, l5, l6, l7, l8, l9, l10] = .ok (.b (.l us)) [.ow true (.l d'), .v t1, l2, l3, l4, l5, l6, l7, l8, l9, l10] := by
  simp only [h, eMut, gAppend, gInsert, eRev, eIndex, eLenSet, gInt, gLen, gTuple, gList, gAbs, gMax2, gMin2, gDivmod, gEq_int, runFn, sSeq, sIf, sSet, sSetIx, sRet, sRetN, sNil, sDrop, sAsg, sFor, sPar, sNever, setO, retO, setOs, presc, eVar, eK, eTwo, v2, eFn, eDisp, eTup, eLst, eCall, eCallR, eCallK, pick, toSl, toSls, sIdx, wb, bk, esc, escs, vals, aNil, aCons, tb, Ev.tNot, Ev.tAnd, Ev.tOr, gGt, gLt, gGe, gLe, gSub, gMod, gDiv, gPow, gAdd, gMul, gInt, mulOk, g1, g2, fInt, fLen, fTuple, fList, fAbs, eAnd, eOr, eNot, eIf, eNeg, eIsi, gII, gIx, gIsN, gN, gT, gsNil, gsCons, isLent_eq, lentO, lentS_v, lentS_un, lentS_f, lentS_t, lentS_z, finE, okArg, Out.bind, Od.val, slVal, Bx.tr, Bx.t, isN, L2.ixN, L2.atI, isInt, isBool, isTuple, isList, isStr, isDict, isTL, Nat.zero_le, id_eq, eq_self, Pu.c0, Pu.c1, Pu.c2, Pu.c3, Pu.c4, Pu.c5, Pu.c6, Pu.c7, Pu.c8, Pu.c9, Pu.s1, Pu.s2, Pu.s3, Pu.s4, Pu.s5, Pu.s6, Pu.s7, Pu.s8, Pu.s9, Int.reduceEq, Nat.reduceMul, Int.ofNat_eq_natCast, wipeE, restE, exists_eq_left', Option.some.injEq, Out.ok.injEq, Prod.mk.injEq, Option.bind_some, Option.bind_none, Option.bind_eq_bind, List.getElem?_cons_zero, List.getElem?_cons_succ, List.getElem?_nil, List.set_cons_zero, List.set_cons_succ, List.set_nil, List.length_cons, List.length_nil, List.replicate_succ, List.replicate_zero, List.cons_append, List.nil_append, List.append_nil, List.all_cons, List.all_nil, Bool.and_true, Bool.true_and, Bool.and_false, Bool.false_and, if_true, if_false, ite_true, ite_false, List.nodup_cons, List.nodup_nil, List.not_mem_nil, List.mem_cons, not_false_eq_true, and_true, true_and, reduceIte, Nat.reduceAdd, Nat.reduceSub, Nat.reduceEqDiff, Nat.reduceLT, Nat.reduceLeDiff, Option.map_some, Option.map_none, Option.getD_some, reduceCtorEq, or_self, or_false, false_or, not_true_eq_false, decide_true, decide_false, Bool.not_true, Bool.not_false, Bool.false_eq_true, Nat.zero_add, Nat.add_zero, forall_const, Int.reduceLT, Int.reduceLE, Int.reduceNeg, Int.reduceToNat, Int.toNat_natCast, and_self]
def plT (ps : List (Int × Int)) : T := .list (ps.map cT)
theorem pg_i (s0 s1 s4 s5 s6 s7 s8 s9 s10 : Sl) (w n : Nat) (h1 : 1 ≤ w) (h2 : w < 5) (hn : 1 ≤ n ∧ n ≤ 8) : ∃ c : Nat, (1 ≤ c ∧ c ≤ 8 ∧ (w = 4 → c = n)) ∧ iR1 (aCons (eOp2 gIx (eLst (aCons (eVar 3) (aCons (eK (.int 2)) (aCons (eK (.int 1)) (aCons (eVar 3) aNil))))) (eOp2 gSub (eVar 2) (eK (.int 1)))) aNil) [s0, s1, .v (nT w), .v (nT n), s4, s5, s6, s7, s8, s9, s10] = .ok ((List.range c).map fun (k : Nat) => PyData.int (0 + (k : Int))) [s0, s1, .v (nT w), .v (nT n), s4, s5, s6, s7, s8, s9, s10] := by
  have hw : w = 1 ∨ w = 2 ∨ w = 3 ∨ w = 4 := by omega
  rcases hw with rfl | rfl | rfl | rfl
  · exact ⟨n, by omega, iR1_nat (rs := [.r (.int (n : Int))]) rfl rfl (by omega)⟩
  · exact ⟨2, by omega, iR1_nat (rs := [.r (.int ((2 : Nat) : Int))]) rfl rfl (by omega)⟩
  · exact ⟨1, by omega, iR1_nat (rs := [.r (.int ((1 : Nat) : Int))]) rfl rfl (by omega)⟩
  · exact ⟨n, by omega, iR1_nat (rs := [.r (.int (n : Int))]) rfl rfl (by omega)⟩
/-- the lines -/
theorem pg_x1 (D : Dk) {B : Nat} (hb : B = 2 ∨ B = 3) (w n : Nat) (h1 : 1 ≤ w) (h2 : w < 5) (hn : 1 ≤ n ∧ n ≤ 8) : ∃ (D' : Dk) (ls : List (List (Int × Int))), x1__law_page [.ow true (.l (dkT D)), .v (nT B), .v (nT w), .v (nT n), .un, .un, .un, .un, .un, .un, .un] = .ok (.b (.l (ls.map plT))) [.ow true (.l (dkT D')), .v (nT B), .v (nT w), .v (nT n), .un, .un, .un, .un, .un, .un, .un] ∧ (1 ≤ ls.length ∧ ls.length ≤ 8 ∧ (w = 4 → ls.length = n)) ∧ ∀ l ∈ ls, PlOk B l := by
  obtain ⟨c, hc, hi⟩ := pg_i (.ow true (.l (dkT D))) (.v (nT B)) .un .un .un .un .un .un .un w n h1 h2 hn
  obtain ⟨us, e', q1, ⟨D', rfl⟩, q3⟩ := comp_go (g := gN 8) (c := tTrue) (m := eCall 2 m__law_places (aCons (eVar 0) (aCons (eVar 1) aNil))) (vs := [8]) (fun e => ∃ D : Dk, e = [.ow true (.l (dkT D)), .v (nT B), .v (nT w), .v (nT n), .un, .un, .un, .un, .un, .un, .un]) (fun _ u => ∃ l, u = plT l ∧ PlOk B l) (fun (k : Nat) => PyData.int (0 + (k : Int))) (List.range c) [] _ ⟨D, rfl⟩ (by rw [List.length_nil, List.length_range]; unfold sizeLine; omega) fun k hk e ⟨D, he⟩ => by
    subst he
    obtain ⟨D', ps, hp, hok⟩ := places_law D hb
    exact ⟨_, rfl, _, rfl, _, _, pg_e m__law_places _ _ _ (plT ps) _ rfl _ _ _ _ _ _ _ _ _ hp, _, _, rfl, ⟨ps, rfl, hok⟩, D', rfl⟩
  obtain ⟨ls, rfl, h4, h5⟩ := f2_take (Q := fun l => PlOk B l) plT (fun a u h => h) q3
  rw [List.length_range] at h4
  refine ⟨D', ls, ?_, by rw [h4]; exact hc, h5⟩
  unfold x1__law_page
  rw [comp_eq hi]
  exact q1
theorem pg_r (m : FSem) (d d' : List T) (t3 x y : T) (k : Int) (s1 s2 s4 s5 s6 s7 s8 : Sl) (h : m [.ow true (.l d), .v t3] = .ok (.r (.int k)) [.ow true (.l d'), .v t3]) :
    (eTup (aCons (eVar 9) (aCons (eVar 10) (aCons (eCall 2 m (aCons (eVar 0) (aCons (eVar 3) aNil))) aNil)))) [.ow true (.l d), s1, s2, .v t3, s4, s5, s6, s7, s8, .v x, .v y] = .ok (.r (.tuple [x, y, .int k])) [.ow true (.l d'), s1, s2, .v t3, s4, s5, s6, s7, s8, .v x, .v y] := by
  simp only [h, eMut, gAppend, gInsert, eRev, eIndex, eLenSet, gInt, gLen, gTuple, gList, gAbs, gMax2, gMin2, gDivmod, gEq_int, runFn, sSeq, sIf, sSet, sSetIx, sRet, sRetN, sNil, sDrop, sAsg, sFor, sPar, sNever, setO, retO, setOs, presc, eVar, eK, eTwo, v2, eFn, eDisp, eTup, eLst, eCall, eCallR, eCallK, pick, toSl, toSls, sIdx, wb, bk, esc, escs, vals, aNil, aCons, tb, Ev.tNot, Ev.tAnd, Ev.tOr, gGt, gLt, gGe, gLe, gSub, gMod, gDiv, gPow, gAdd, gMul, gInt, mulOk, g1, g2, fInt, fLen, fTuple, fList, fAbs, eAnd, eOr, eNot, eIf, eNeg, eIsi, gII, gIx, gIsN, gN, gT, gsNil, gsCons, isLent_eq, lentO, lentS_v, lentS_un, lentS_f, lentS_t, lentS_z, finE, okArg, Out.bind, Od.val, slVal, Bx.tr, Bx.t, isN, L2.ixN, L2.atI, isInt, isBool, isTuple, isList, isStr, isDict, isTL, Nat.zero_le, id_eq, eq_self, Pu.c0, Pu.c1, Pu.c2, Pu.c3, Pu.c4, Pu.c5, Pu.c6, Pu.c7, Pu.c8, Pu.c9, Pu.s1, Pu.s2, Pu.s3, Pu.s4, Pu.s5, Pu.s6, Pu.s7, Pu.s8, Pu.s9, Int.reduceEq, Nat.reduceMul, Int.ofNat_eq_natCast, wipeE, restE, exists_eq_left', Option.some.injEq, Out.ok.injEq, Prod.mk.injEq, Option.bind_some, Option.bind_none, Option.bind_eq_bind, List.getElem?_cons_zero, List.getElem?_cons_succ, List.getElem?_nil, List.set_cons_zero, List.set_cons_succ, List.set_nil, List.length_cons, List.length_nil, List.replicate_succ, List.replicate_zero, List.cons_append, List.nil_append, List.append_nil, List.all_cons, List.all_nil, Bool.and_true, Bool.true_and, Bool.and_false, Bool.false_and, if_true, if_false, ite_true, ite_false, List.nodup_cons, List.nodup_nil, List.not_mem_nil, List.mem_cons, not_false_eq_true, and_true, true_and, reduceIte, Nat.reduceAdd, Nat.reduceSub, Nat.reduceEqDiff, Nat.reduceLT, Nat.reduceLeDiff, Option.map_some, Option.map_none, Option.getD_some, reduceCtorEq, or_self, or_false, false_or, not_true_eq_false, decide_true, decide_false, Bool.not_true, Bool.not_false, Bool.false_eq_true, Nat.zero_add, Nat.add_zero, forall_const, Int.reduceLT, Int.reduceLE, Int.reduceNeg, Int.reduceToNat, Int.toNat_natCast, and_self]
theorem pg_g (c : Int × Int) (s0 s1 s2 s3 s4 s5 s6 s7 s8 : Sl) : gT 2 (gsCons (gN 9) (gsCons (gN 10) gsNil)) (cT c) [s0, s1, s2, s3, s4, s5, s6, s7, s8, .un, .un] = some [s0, s1, s2, s3, s4, s5, s6, s7, s8, .v (.int c.1), .v (.int c.2)] := by
  simp only [cT, eMut, gAppend, gInsert, eRev, eIndex, eLenSet, gInt, gLen, gTuple, gList, gAbs, gMax2, gMin2, gDivmod, gEq_int, runFn, sSeq, sIf, sSet, sSetIx, sRet, sRetN, sNil, sDrop, sAsg, sFor, sPar, sNever, setO, retO, setOs, presc, eVar, eK, eTwo, v2, eFn, eDisp, eTup, eLst, eCall, eCallR, eCallK, pick, toSl, toSls, sIdx, wb, bk, esc, escs, vals, aNil, aCons, tb, Ev.tNot, Ev.tAnd, Ev.tOr, gGt, gLt, gGe, gLe, gSub, gMod, gDiv, gPow, gAdd, gMul, gInt, mulOk, g1, g2, fInt, fLen, fTuple, fList, fAbs, eAnd, eOr, eNot, eIf, eNeg, eIsi, gII, gIx, gIsN, gN, gT, gsNil, gsCons, isLent_eq, lentO, lentS_v, lentS_un, lentS_f, lentS_t, lentS_z, finE, okArg, Out.bind, Od.val, slVal, Bx.tr, Bx.t, isN, L2.ixN, L2.atI, isInt, isBool, isTuple, isList, isStr, isDict, isTL, Nat.zero_le, id_eq, eq_self, Pu.c0, Pu.c1, Pu.c2, Pu.c3, Pu.c4, Pu.c5, Pu.c6, Pu.c7, Pu.c8, Pu.c9, Pu.s1, Pu.s2, Pu.s3, Pu.s4, Pu.s5, Pu.s6, Pu.s7, Pu.s8, Pu.s9, Int.reduceEq, Nat.reduceMul, Int.ofNat_eq_natCast, wipeE, restE, exists_eq_left', Option.some.injEq, Out.ok.injEq, Prod.mk.injEq, Option.bind_some, Option.bind_none, Option.bind_eq_bind, List.getElem?_cons_zero, List.getElem?_cons_succ, List.getElem?_nil, List.set_cons_zero, List.set_cons_succ, List.set_nil, List.length_cons, List.length_nil, List.replicate_succ, List.replicate_zero, List.cons_append, List.nil_append, List.append_nil, List.all_cons, List.all_nil, Bool.and_true, Bool.true_and, Bool.and_false, Bool.false_and, if_true, if_false, ite_true, ite_false, List.nodup_cons, List.nodup_nil, List.not_mem_nil, List.mem_cons, not_false_eq_true, and_true, true_and, reduceIte, Nat.reduceAdd, Nat.reduceSub, Nat.reduceEqDiff, Nat.reduceLT, Nat.reduceLeDiff, Option.map_some, Option.map_none, Option.getD_some, reduceCtorEq, or_self, or_false, false_or, not_true_eq_false, decide_true, decide_false, Bool.not_true, Bool.not_false, Bool.false_eq_true, Nat.zero_add, Nat.add_zero, forall_const, Int.reduceLT, Int.reduceLE, Int.reduceNeg, Int.reduceToNat, Int.toNat_natCast, and_self]
/-- the parts of a kind -/
theorem pg_x2 (D : Dk) (B w n : Nat) (hn : 1 ≤ n ∧ n ≤ 8) (cs : List (Int × Int)) (hc : cs.length ≤ 9) (s4 s5 s6 s8 : Sl) : ∃ (D' : Dk) (ps : List Pt), x2__law_page [.ow true (.l (dkT D)), .v (nT B), .v (nT w), .v (nT n), s4, s5, s6, .v (plT cs), s8, .un, .un] = .ok (.b (.l (ps.map ptT))) [.ow true (.l (dkT D')), .v (nT B), .v (nT w), .v (nT n), s4, s5, s6, .v (plT cs), s8, .un, .un] ∧ (ps.map fun p => (p.1, p.2.1)) = cs ∧ ∀ p ∈ ps, p.2.2 < n := by
  have hi : iOf (eVar 7) [.ow true (.l (dkT D)), .v (nT B), .v (nT w), .v (nT n), s4, s5, s6, .v (plT cs), s8, .un, .un] = .ok (cs.map cT) [.ow true (.l (dkT D)), .v (nT B), .v (nT w), .v (nT n), s4, s5, s6, .v (plT cs), s8, .un, .un] := rfl
  obtain ⟨us, e', q1, ⟨D', rfl⟩, q3⟩ := comp_go (g := gT 2 (gsCons (gN 9) (gsCons (gN 10) gsNil))) (c := tTrue) (m := eTup (aCons (eVar 9) (aCons (eVar 10) (aCons (eCall 2 m__law_take (aCons (eVar 0) (aCons (eVar 3) aNil))) aNil)))) (vs := [9, 10]) (fun e => ∃ D : Dk, e = [.ow true (.l (dkT D)), .v (nT B), .v (nT w), .v (nT n), s4, s5, s6, .v (plT cs), s8, .un, .un]) (fun c u => ∃ k, k < n ∧ u = ptT (c.1, c.2, k)) cT cs [] _ ⟨D, rfl⟩ (by rw [List.length_nil]; unfold sizeLine; omega) fun c hc e ⟨D, he⟩ => by
    subst he
    have tk := tk_ok D n (by omega) (by omega)
    exact ⟨_, pg_g c _ _ _ _ _ _ _ _ _, _, rfl, _, _, pg_r m__law_take _ _ _ _ _ _ _ _ _ _ _ _ _ tk, _, _, rfl, ⟨_, tkV_lt D (by omega), rfl⟩, tkD D n, rfl⟩
  have key : ∀ {cs : List (Int × Int)} {us : List T}, F2 (fun c u => ∃ k, k < n ∧ u = ptT (c.1, c.2, k)) cs us → ∃ ps : List Pt, us = ps.map ptT ∧ (ps.map fun p => (p.1, p.2.1)) = cs ∧ ∀ p ∈ ps, p.2.2 < n := by
    intro cs us h
    induction h with
    | nil => exact ⟨[], rfl, rfl, fun p hp => by cases hp⟩
    | cons p _ ih =>
      obtain ⟨k, hk, rfl⟩ := p
      obtain ⟨ps, rfl, h2, h3⟩ := ih
      exact ⟨_ :: ps, rfl, by rw [List.map_cons, h2], fun x hx => by
        rcases List.mem_cons.mp hx with rfl | hx
        · exact hk
        · exact h3 x hx⟩
  obtain ⟨ps, rfl, h2, h3⟩ := key q3
  refine ⟨D', ps, ?_, h2, h3⟩
  unfold x2__law_page
  rw [comp_eq hi]
  exact q1
theorem pg_y1 (m : FSem) (x : SemE) (d d1 d2 : List T) (t1 u : T) (w k j : Int) (n : T) (ls ks ps : List T) (s6 l7 s8 : Sl) (s9 s10 : Sl) (a7 : lentS l7 = false) (hw : w < 4) (h : m [.ow true (.l d), .v (.int (ls.length : Int))] = .ok (.r (.int k)) [.ow true (.l d1), .v (.int (ls.length : Int))]) (hi : gIx (.list ls) (.int k) = some (.r u)) (hs : ks.length < sizeLine)
    (hx : x [.ow true (.l d1), .v t1, .v (.int w), .v n, .ow false (.l ls), .ow false (.l ks), .v (.int j), .v u, s8, s9, s10] = .ok (.b (.l ps)) [.ow true (.l d2), .v t1, .v (.int w), .v n, .ow false (.l ls), .ow false (.l ks), .v (.int j), .v u, s8, s9, s10]) :
    (sSeq (sSet 7 (eIf (tb (eOp2 gLt (eVar 2) (eK (.int 4)))) (eOp2 gIx (eVar 4) (eCall 2 m (aCons (eVar 0) (aCons (eFn gLen (aCons (eVar 4) aNil)) aNil)))) (eOp2 gIx (eVar 4) (eOp2 gDiv (eVar 6) (eK (.int 2)))))) (sDrop (eMut 5 gAppend (aCons (eFn gTuple (aCons x aNil)) aNil)))) [.ow true (.l d), .v t1, .v (.int w), .v n, .ow false (.l ls), .ow false (.l ks), .v (.int j), l7, s8, s9, s10] = .ok .nx [.ow true (.l d2), .v t1, .v (.int w), .v n, .ow false (.l ls), .ow false (.l (ks ++ [.tuple ps])), .v (.int j), .v u, s8, s9, s10] := by
  simp only [h, hi, hs, hx, hw, a7, eMut, gAppend, gInsert, eRev, eIndex, eLenSet, gInt, gLen, gTuple, gList, gAbs, gMax2, gMin2, gDivmod, gEq_int, runFn, sSeq, sIf, sSet, sSetIx, sRet, sRetN, sNil, sDrop, sAsg, sFor, sPar, sNever, setO, retO, setOs, presc, eVar, eK, eTwo, v2, eFn, eDisp, eTup, eLst, eCall, eCallR, eCallK, pick, toSl, toSls, sIdx, wb, bk, esc, escs, vals, aNil, aCons, tb, Ev.tNot, Ev.tAnd, Ev.tOr, gGt, gLt, gGe, gLe, gSub, gMod, gDiv, gPow, gAdd, gMul, gInt, mulOk, g1, g2, fInt, fLen, fTuple, fList, fAbs, eAnd, eOr, eNot, eIf, eNeg, eIsi, gII, gIsN, gN, gT, gsNil, gsCons, isLent_eq, lentO, lentS_v, lentS_un, lentS_f, lentS_t, lentS_z, finE, okArg, Out.bind, Od.val, slVal, Bx.tr, Bx.t, isN, L2.ixN, L2.atI, isInt, isBool, isTuple, isList, isStr, isDict, isTL, Nat.zero_le, id_eq, eq_self, Pu.c0, Pu.c1, Pu.c2, Pu.c3, Pu.c4, Pu.c5, Pu.c6, Pu.c7, Pu.c8, Pu.c9, Pu.s1, Pu.s2, Pu.s3, Pu.s4, Pu.s5, Pu.s6, Pu.s7, Pu.s8, Pu.s9, Int.reduceEq, Nat.reduceMul, Int.ofNat_eq_natCast, wipeE, restE, exists_eq_left', Option.some.injEq, Out.ok.injEq, Prod.mk.injEq, Option.bind_some, Option.bind_none, Option.bind_eq_bind, List.getElem?_cons_zero, List.getElem?_cons_succ, List.getElem?_nil, List.set_cons_zero, List.set_cons_succ, List.set_nil, List.length_cons, List.length_nil, List.replicate_succ, List.replicate_zero, List.cons_append, List.nil_append, List.append_nil, List.all_cons, List.all_nil, Bool.and_true, Bool.true_and, Bool.and_false, Bool.false_and, if_true, if_false, ite_true, ite_false, List.nodup_cons, List.nodup_nil, List.not_mem_nil, List.mem_cons, not_false_eq_true, and_true, true_and, reduceIte, Nat.reduceAdd, Nat.reduceSub, Nat.reduceEqDiff, Nat.reduceLT, Nat.reduceLeDiff, Option.map_some, Option.map_none, Option.getD_some, reduceCtorEq, or_self, or_false, false_or, not_true_eq_false, decide_true, decide_false, Bool.not_true, Bool.not_false, Bool.false_eq_true, Nat.zero_add, Nat.add_zero, forall_const, Int.reduceLT, Int.reduceLE, Int.reduceNeg, Int.reduceToNat, Int.toNat_natCast, and_self]
theorem pg_y2 (m : FSem) (x : SemE) (d d2 : List T) (t1 u : T) (w j j2 : Int) (n : T) (ls ks ps : List T) (s6 l7 s8 : Sl) (s9 s10 : Sl) (a7 : lentS l7 = false) (hw : ¬ w < 4) (hj : j / 2 = j2) (h2 : (2 : Int).natAbs.log2 < 9000) (hi : gIx (.list ls) (.int j2) = some (.r u)) (hs : ks.length < sizeLine)
    (hx : x [.ow true (.l d), .v t1, .v (.int w), .v n, .ow false (.l ls), .ow false (.l ks), .v (.int j), .v u, s8, s9, s10] = .ok (.b (.l ps)) [.ow true (.l d2), .v t1, .v (.int w), .v n, .ow false (.l ls), .ow false (.l ks), .v (.int j), .v u, s8, s9, s10]) :
    (sSeq (sSet 7 (eIf (tb (eOp2 gLt (eVar 2) (eK (.int 4)))) (eOp2 gIx (eVar 4) (eCall 2 m (aCons (eVar 0) (aCons (eFn gLen (aCons (eVar 4) aNil)) aNil)))) (eOp2 gIx (eVar 4) (eOp2 gDiv (eVar 6) (eK (.int 2)))))) (sDrop (eMut 5 gAppend (aCons (eFn gTuple (aCons x aNil)) aNil)))) [.ow true (.l d), .v t1, .v (.int w), .v n, .ow false (.l ls), .ow false (.l ks), .v (.int j), l7, s8, s9, s10] = .ok .nx [.ow true (.l d2), .v t1, .v (.int w), .v n, .ow false (.l ls), .ow false (.l (ks ++ [.tuple ps])), .v (.int j), .v u, s8, s9, s10] := by
  simp only [hj, h2, hi, hs, hx, hw, a7, eMut, gAppend, gInsert, eRev, eIndex, eLenSet, gInt, gLen, gTuple, gList, gAbs, gMax2, gMin2, gDivmod, gEq_int, runFn, sSeq, sIf, sSet, sSetIx, sRet, sRetN, sNil, sDrop, sAsg, sFor, sPar, sNever, setO, retO, setOs, presc, eVar, eK, eTwo, v2, eFn, eDisp, eTup, eLst, eCall, eCallR, eCallK, pick, toSl, toSls, sIdx, wb, bk, esc, escs, vals, aNil, aCons, tb, Ev.tNot, Ev.tAnd, Ev.tOr, gGt, gLt, gGe, gLe, gSub, gMod, gDiv, gPow, gAdd, gMul, gInt, mulOk, g1, g2, fInt, fLen, fTuple, fList, fAbs, eAnd, eOr, eNot, eIf, eNeg, eIsi, gII, gIsN, gN, gT, gsNil, gsCons, isLent_eq, lentO, lentS_v, lentS_un, lentS_f, lentS_t, lentS_z, finE, okArg, Out.bind, Od.val, slVal, Bx.tr, Bx.t, isN, L2.ixN, L2.atI, isInt, isBool, isTuple, isList, isStr, isDict, isTL, Nat.zero_le, id_eq, eq_self, Pu.c0, Pu.c1, Pu.c2, Pu.c3, Pu.c4, Pu.c5, Pu.c6, Pu.c7, Pu.c8, Pu.c9, Pu.s1, Pu.s2, Pu.s3, Pu.s4, Pu.s5, Pu.s6, Pu.s7, Pu.s8, Pu.s9, Int.reduceEq, Nat.reduceMul, Int.ofNat_eq_natCast, wipeE, restE, exists_eq_left', Option.some.injEq, Out.ok.injEq, Prod.mk.injEq, Option.bind_some, Option.bind_none, Option.bind_eq_bind, List.getElem?_cons_zero, List.getElem?_cons_succ, List.getElem?_nil, List.set_cons_zero, List.set_cons_succ, List.set_nil, List.length_cons, List.length_nil, List.replicate_succ, List.replicate_zero, List.cons_append, List.nil_append, List.append_nil, List.all_cons, List.all_nil, Bool.and_true, Bool.true_and, Bool.and_false, Bool.false_and, if_true, if_false, ite_true, ite_false, List.nodup_cons, List.nodup_nil, List.not_mem_nil, List.mem_cons, not_false_eq_true, and_true, true_and, reduceIte, Nat.reduceAdd, Nat.reduceSub, Nat.reduceEqDiff, Nat.reduceLT, Nat.reduceLeDiff, Option.map_some, Option.map_none, Option.getD_some, reduceCtorEq, or_self, or_false, false_or, not_true_eq_false, decide_true, decide_false, Bool.not_true, Bool.not_false, Bool.false_eq_true, Nat.zero_add, Nat.add_zero, forall_const, Int.reduceLT, Int.reduceLE, Int.reduceNeg, Int.reduceToNat, Int.toNat_natCast, and_self]
theorem pg_l1 (D : Dk) {B : Nat} (hB : B * B ≤ 9) (w n : Nat) (hn : 1 ≤ n ∧ n ≤ 8) (ls : List (List (Int × Int))) (h1 : 1 ≤ ls.length ∧ ls.length ≤ 8 ∧ (w = 4 → ls.length = n)) (hw : w < 5) (hl : ∀ l ∈ ls, PlOk B l) :
    ∃ (D' : Dk) (ks : List (List Pt)) (l6 l7 : Sl), l1__law_page [.ow true (.l (dkT D)), .v (nT B), .v (nT w), .v (nT n), .ow false (.l (ls.map plT)), .ow false (.l []), .un, .un, .un, .un, .un] = .ok .nx [.ow true (.l (dkT D')), .v (nT B), .v (nT w), .v (nT n), .ow false (.l (ls.map plT)), .ow false (.l (ks.map kT)), l6, l7, .un, .un, .un] ∧ ks.length = n ∧ ∀ ps ∈ ks, RowOk B n ps := by
  have hi := iR1_nat (m := aCons (eVar 3) aNil) (e := [.ow true (.l (dkT D)), .v (nT B), .v (nT w), .v (nT n), .ow false (.l (ls.map plT)), .ow false (.l []), .un, .un, .un, .un, .un]) (e1 := [.ow true (.l (dkT D)), .v (nT B), .v (nT w), .v (nT n), .ow false (.l (ls.map plT)), .ow false (.l []), .un, .un, .un, .un, .un]) (rs := [.r (nT n)]) (n := n) rfl rfl (by omega)
  have key : ∀ (m t : Nat) (D : Dk) (ks : List (List Pt)) (l6 l7 : Sl), lentS l6 = false → lentS l7 = false → m + t = n → ks.length = t → (∀ ps ∈ ks, RowOk B n ps) → ∃ (D' : Dk) (ks' : List (List Pt)) (l6' l7' : Sl), forS (gN 6) y1__law_page ((List.range' t m).map fun (k : Nat) => PyData.int (0 + (k : Int))) [.ow true (.l (dkT D)), .v (nT B), .v (nT w), .v (nT n), .ow false (.l (ls.map plT)), .ow false (.l (ks.map kT)), l6, l7, .un, .un, .un] = .ok .nx [.ow true (.l (dkT D')), .v (nT B), .v (nT w), .v (nT n), .ow false (.l (ls.map plT)), .ow false (.l (ks'.map kT)), l6', l7', .un, .un, .un] ∧ ks'.length = n ∧ ∀ ps ∈ ks', RowOk B n ps := by
    intro m
    induction m with
    | zero => intro t D ks l6 l7 a6 a7 ht hk hr; exact ⟨D, ks, l6, l7, rfl, by omega, hr⟩
    | succ m ih =>
      intro t D ks l6 l7 a6 a7 ht hk hr
      rw [List.range'_succ, List.map_cons]
      have e : (0 : Int) + (t : Int) = (t : Int) := by omega
      have hg : gN 6 (PyData.int (0 + (t : Int))) [.ow true (.l (dkT D)), .v (nT B), .v (nT w), .v (nT n), .ow false (.l (ls.map plT)), .ow false (.l (ks.map kT)), l6, l7, .un, .un, .un] = some [.ow true (.l (dkT D)), .v (nT B), .v (nT w), .v (nT n), .ow false (.l (ls.map plT)), .ow false (.l (ks.map kT)), .v (.int (t : Int)), l7, .un, .un, .un] := by rw [e]; simp only [a6, eMut, gAppend, gInsert, eRev, eIndex, eLenSet, gInt, gLen, gTuple, gList, gAbs, gMax2, gMin2, gDivmod, gEq_int, runFn, sSeq, sIf, sSet, sSetIx, sRet, sRetN, sNil, sDrop, sAsg, sFor, sPar, sNever, setO, retO, setOs, presc, eVar, eK, eTwo, v2, eFn, eDisp, eTup, eLst, eCall, eCallR, eCallK, pick, toSl, toSls, sIdx, wb, bk, esc, escs, vals, aNil, aCons, tb, Ev.tNot, Ev.tAnd, Ev.tOr, gGt, gLt, gGe, gLe, gSub, gMod, gDiv, gPow, gAdd, gMul, gInt, mulOk, g1, g2, fInt, fLen, fTuple, fList, fAbs, eAnd, eOr, eNot, eIf, eNeg, eIsi, gII, gIx, gIsN, gN, gT, gsNil, gsCons, isLent_eq, lentO, lentS_v, lentS_un, lentS_f, lentS_t, lentS_z, finE, okArg, Out.bind, Od.val, slVal, Bx.tr, Bx.t, isN, L2.ixN, L2.atI, isInt, isBool, isTuple, isList, isStr, isDict, isTL, Nat.zero_le, id_eq, eq_self, Pu.c0, Pu.c1, Pu.c2, Pu.c3, Pu.c4, Pu.c5, Pu.c6, Pu.c7, Pu.c8, Pu.c9, Pu.s1, Pu.s2, Pu.s3, Pu.s4, Pu.s5, Pu.s6, Pu.s7, Pu.s8, Pu.s9, Int.reduceEq, Nat.reduceMul, Int.ofNat_eq_natCast, wipeE, restE, exists_eq_left', Option.some.injEq, Out.ok.injEq, Prod.mk.injEq, Option.bind_some, Option.bind_none, Option.bind_eq_bind, List.getElem?_cons_zero, List.getElem?_cons_succ, List.getElem?_nil, List.set_cons_zero, List.set_cons_succ, List.set_nil, List.length_cons, List.length_nil, List.replicate_succ, List.replicate_zero, List.cons_append, List.nil_append, List.append_nil, List.all_cons, List.all_nil, Bool.and_true, Bool.true_and, Bool.and_false, Bool.false_and, if_true, if_false, ite_true, ite_false, List.nodup_cons, List.nodup_nil, List.not_mem_nil, List.mem_cons, not_false_eq_true, and_true, true_and, reduceIte, Nat.reduceAdd, Nat.reduceSub, Nat.reduceEqDiff, Nat.reduceLT, Nat.reduceLeDiff, Option.map_some, Option.map_none, Option.getD_some, reduceCtorEq, or_self, or_false, false_or, not_true_eq_false, decide_true, decide_false, Bool.not_true, Bool.not_false, Bool.false_eq_true, Nat.zero_add, Nat.add_zero, forall_const, Int.reduceLT, Int.reduceLE, Int.reduceNeg, Int.reduceToNat, Int.toNat_natCast, and_self]
      have hks : (ks.map kT).length < sizeLine := by rw [List.length_map]; unfold sizeLine; omega
      have go : ∀ (D2 : Dk) (l : List (Int × Int)) (ps : List Pt), PlOk B l → (ps.map fun p => (p.1, p.2.1)) = l → (∀ p ∈ ps, p.2.2 < n) → y1__law_page [.ow true (.l (dkT D)), .v (nT B), .v (nT w), .v (nT n), .ow false (.l (ls.map plT)), .ow false (.l (ks.map kT)), .v (.int (t : Int)), l7, .un, .un, .un] = .ok .nx [.ow true (.l (dkT D2)), .v (nT B), .v (nT w), .v (nT n), .ow false (.l (ls.map plT)), .ow false (.l (ks.map kT ++ [.tuple (ps.map ptT)])), .v (.int (t : Int)), .v (plT l), .un, .un, .un] → ∃ (D' : Dk) (ks' : List (List Pt)) (l6' l7' : Sl), forS (gN 6) y1__law_page (PyData.int (0 + (t : Int)) :: (List.range' (t + 1) m).map fun (k : Nat) => PyData.int (0 + (k : Int))) [.ow true (.l (dkT D)), .v (nT B), .v (nT w), .v (nT n), .ow false (.l (ls.map plT)), .ow false (.l (ks.map kT)), l6, l7, .un, .un, .un] = .ok .nx [.ow true (.l (dkT D')), .v (nT B), .v (nT w), .v (nT n), .ow false (.l (ls.map plT)), .ow false (.l (ks'.map kT)), l6', l7', .un, .un, .un] ∧ ks'.length = n ∧ ∀ ps ∈ ks', RowOk B n ps := by
        intro D2 l ps hl2 e1 e2 hy
        obtain ⟨D', ks', l6', l7', q1, q2, q3⟩ := ih (t + 1) D2 (ks ++ [ps]) (.v (.int (t : Int))) (.v (plT l)) rfl rfl (by omega) (by rw [List.length_append, hk]; rfl) fun x hx => by
          rcases List.mem_append.mp hx with hx | hx
          · exact hr x hx
          · rw [List.mem_singleton.mp hx]; exact row_of hl2 e1 e2
        refine ⟨D', ks', l6', l7', ?_, q2, q3⟩
        rw [List.map_append] at q1
        exact (forS_step hg hy).trans q1
      by_cases h4 : w < 4
      · have tk := tk_ok D ls.length (by omega) (by omega)
        have tl := tkV_lt D (n := ls.length) (by omega)
        obtain ⟨l, hlm, hix, _⟩ := ix_map plT ls (tkV D ls.length) tl
        obtain ⟨D2, ps, hx, e1, e2⟩ := pg_x2 (tkD D ls.length) B w n hn l (by rw [(hl l hlm).len]; exact hB) (.ow false (.l (ls.map plT))) (.ow false (.l (ks.map kT))) (.v (.int (t : Int))) .un
        exact go D2 l ps (hl l hlm) e1 e2 (pg_y1 m__law_take x2__law_page _ _ _ (nT B) (plT l) (w : Int) _ (t : Int) (nT n) _ _ _ .un l7 .un .un .un a7 (by omega) (by rw [List.length_map]; exact tk) hix hks hx)
      · have hj : t / 2 < ls.length := by have := h1.2.2 (by omega); omega
        obtain ⟨l, hlm, hix, _⟩ := ix_map plT ls (t / 2) hj
        obtain ⟨D2, ps, hx, e1, e2⟩ := pg_x2 D B w n hn l (by rw [(hl l hlm).len]; exact hB) (.ow false (.l (ls.map plT))) (.ow false (.l (ks.map kT))) (.v (.int (t : Int))) .un
        have h2 : (2 : Int).natAbs.log2 < 9000 := by have : (2 : Int).natAbs.log2 < 64 := log2_small (by decide) (by decide); omega
        exact go D2 l ps (hl l hlm) e1 e2 (pg_y2 m__law_take x2__law_page _ _ (nT B) (plT l) (w : Int) (t : Int) ((t / 2 : Nat) : Int) (nT n) _ _ _ .un l7 .un .un .un a7 (by omega) (by omega) h2 hix hks hx)
  obtain ⟨D', ks', l6', l7', q1, q2, q3⟩ := key n 0 D [] .un .un rfl rfl (by omega) rfl (fun p hp => by cases hp)
  rw [← List.range_eq_range'] at q1
  refine ⟨D', ks', l6', l7', ?_, q2, q3⟩
  unfold l1__law_page
  rw [sFor_eq hi]
  exact q1
theorem pg_s1 (m m2 : FSem) (x : SemE) (y : SemS) (d0 d1 d2 d3 d4 : List T) (v0 w n bb nn : Int) (r : T) (hb : 2 + (if v0 = 0 then 1 else 0) = bb) (hn : 1 + n = nn) (hw : w = 0) (h1 : m [.ow true (.l d0), .v (.int 3)] = .ok (.r (.int v0)) [.ow true (.l d1), .v (.int 3)]) (h2 : m [.ow true (.l d1), .v (.int 5)] = .ok (.r (.int w)) [.ow true (.l d2), .v (.int 5)]) (h3 : m [.ow true (.l d2), .v (.int 8)] = .ok (.r (.int n)) [.ow true (.l d3), .v (.int 8)])
    (h4 : m2 [.ow true (.l d3), .v (.int bb)] = .ok (.r r) [.ow true (.l d4), .v (.int bb)]) :
    runFn 11 (sSeq (sPar [1, 2, 3] (aCons (eOp2 gAdd (eK (.int 2)) (eFn gInt (aCons (eOp2 (gEq id) (eCall 2 m (aCons (eVar 0) (aCons (eK (.int 3)) aNil))) (eK (.int 0))) aNil))) (aCons (eCall 2 m (aCons (eVar 0) (aCons (eK (.int 5)) aNil))) (aCons (eOp2 gAdd (eK (.int 1)) (eCall 2 m (aCons (eVar 0) (aCons (eK (.int 8)) aNil)))) aNil)))) (sSeq (sIf (tb (eOp2 (gEq id) (eVar 2) (eK (.int 0)))) (sRet (eCall 2 m2 (aCons (eVar 0) (aCons (eVar 1) aNil)))) sNil) (sSeq (sPar [4, 5] (aCons x (aCons (eLst aNil) aNil))) (sSeq y (sRet (eTup (aCons (eVar 1) (aCons (eFn gTuple (aCons (eVar 5) aNil)) aNil)))))))) [.ow true (.l d0)] = .ok (.r r) [.ow true (.l d4)] := by
  simp only [h1, h2, h3, hw, hn, decide_eq_true_eq, hb, h4, eMut, gAppend, gInsert, eRev, eIndex, eLenSet, gInt, gLen, gTuple, gList, gAbs, gMax2, gMin2, gDivmod, gEq_int, runFn, sSeq, sIf, sSet, sSetIx, sRet, sRetN, sNil, sDrop, sAsg, sFor, sPar, sNever, setO, retO, setOs, presc, eVar, eK, eTwo, v2, eFn, eDisp, eTup, eLst, eCall, eCallR, eCallK, pick, toSl, toSls, sIdx, wb, bk, esc, escs, vals, aNil, aCons, tb, Ev.tNot, Ev.tAnd, Ev.tOr, gGt, gLt, gGe, gLe, gSub, gMod, gDiv, gPow, gAdd, gMul, gInt, mulOk, g1, g2, fInt, fLen, fTuple, fList, fAbs, eAnd, eOr, eNot, eIf, eNeg, eIsi, gII, gIx, gIsN, gN, gT, gsNil, gsCons, isLent_eq, lentO, lentS_v, lentS_un, lentS_f, lentS_t, lentS_z, finE, okArg, Out.bind, Od.val, slVal, Bx.tr, Bx.t, isN, L2.ixN, L2.atI, isInt, isBool, isTuple, isList, isStr, isDict, isTL, Nat.zero_le, id_eq, eq_self, Pu.c0, Pu.c1, Pu.c2, Pu.c3, Pu.c4, Pu.c5, Pu.c6, Pu.c7, Pu.c8, Pu.c9, Pu.s1, Pu.s2, Pu.s3, Pu.s4, Pu.s5, Pu.s6, Pu.s7, Pu.s8, Pu.s9, Int.reduceEq, Nat.reduceMul, Int.ofNat_eq_natCast, wipeE, restE, exists_eq_left', Option.some.injEq, Out.ok.injEq, Prod.mk.injEq, Option.bind_some, Option.bind_none, Option.bind_eq_bind, List.getElem?_cons_zero, List.getElem?_cons_succ, List.getElem?_nil, List.set_cons_zero, List.set_cons_succ, List.set_nil, List.length_cons, List.length_nil, List.replicate_succ, List.replicate_zero, List.cons_append, List.nil_append, List.append_nil, List.all_cons, List.all_nil, Bool.and_true, Bool.true_and, Bool.and_false, Bool.false_and, if_true, if_false, ite_true, ite_false, List.nodup_cons, List.nodup_nil, List.not_mem_nil, List.mem_cons, not_false_eq_true, and_true, true_and, reduceIte, Nat.reduceAdd, Nat.reduceSub, Nat.reduceEqDiff, Nat.reduceLT, Nat.reduceLeDiff, Option.map_some, Option.map_none, Option.getD_some, reduceCtorEq, or_self, or_false, false_or, not_true_eq_false, decide_true, decide_false, Bool.not_true, Bool.not_false, Bool.false_eq_true, Nat.zero_add, Nat.add_zero, forall_const, Int.reduceLT, Int.reduceLE, Int.reduceNeg, Int.reduceToNat, Int.toNat_natCast, and_self]
theorem pg_s2 (m m2 : FSem) (x : SemE) (y : SemS) (d0 d1 d2 d3 d4 d5 : List T) (v0 w n bb nn : Int) (ls ks : List T) (l6 l7 l8 l9 l10 : Sl) (hb : 2 + (if v0 = 0 then 1 else 0) = bb) (hn : 1 + n = nn) (hw : ¬ w = 0) (h1 : m [.ow true (.l d0), .v (.int 3)] = .ok (.r (.int v0)) [.ow true (.l d1), .v (.int 3)]) (h2 : m [.ow true (.l d1), .v (.int 5)] = .ok (.r (.int w)) [.ow true (.l d2), .v (.int 5)]) (h3 : m [.ow true (.l d2), .v (.int 8)] = .ok (.r (.int n)) [.ow true (.l d3), .v (.int 8)])
    (hx : x [.ow true (.l d3), .v (.int bb), .v (.int w), .v (.int nn), .un, .un, .un, .un, .un, .un, .un] = .ok (.b (.l ls)) [.ow true (.l d4), .v (.int bb), .v (.int w), .v (.int nn), .un, .un, .un, .un, .un, .un, .un])
    (hy : y [.ow true (.l d4), .v (.int bb), .v (.int w), .v (.int nn), .ow false (.l ls), .ow false (.l []), .un, .un, .un, .un, .un] = .ok .nx [.ow true (.l d5), .v (.int bb), .v (.int w), .v (.int nn), .ow false (.l ls), .ow false (.l ks), l6, l7, l8, l9, l10]) :
    runFn 11 (sSeq (sPar [1, 2, 3] (aCons (eOp2 gAdd (eK (.int 2)) (eFn gInt (aCons (eOp2 (gEq id) (eCall 2 m (aCons (eVar 0) (aCons (eK (.int 3)) aNil))) (eK (.int 0))) aNil))) (aCons (eCall 2 m (aCons (eVar 0) (aCons (eK (.int 5)) aNil))) (aCons (eOp2 gAdd (eK (.int 1)) (eCall 2 m (aCons (eVar 0) (aCons (eK (.int 8)) aNil)))) aNil)))) (sSeq (sIf (tb (eOp2 (gEq id) (eVar 2) (eK (.int 0)))) (sRet (eCall 2 m2 (aCons (eVar 0) (aCons (eVar 1) aNil)))) sNil) (sSeq (sPar [4, 5] (aCons x (aCons (eLst aNil) aNil))) (sSeq y (sRet (eTup (aCons (eVar 1) (aCons (eFn gTuple (aCons (eVar 5) aNil)) aNil)))))))) [.ow true (.l d0)] = .ok (.r (.tuple [.int bb, .tuple ks])) [.ow true (.l d5)] := by
  simp only [h1, h2, h3, hw, hn, decide_eq_true_eq, hb, hx, hy, eMut, gAppend, gInsert, eRev, eIndex, eLenSet, gInt, gLen, gTuple, gList, gAbs, gMax2, gMin2, gDivmod, gEq_int, runFn, sSeq, sIf, sSet, sSetIx, sRet, sRetN, sNil, sDrop, sAsg, sFor, sPar, sNever, setO, retO, setOs, presc, eVar, eK, eTwo, v2, eFn, eDisp, eTup, eLst, eCall, eCallR, eCallK, pick, toSl, toSls, sIdx, wb, bk, esc, escs, vals, aNil, aCons, tb, Ev.tNot, Ev.tAnd, Ev.tOr, gGt, gLt, gGe, gLe, gSub, gMod, gDiv, gPow, gAdd, gMul, gInt, mulOk, g1, g2, fInt, fLen, fTuple, fList, fAbs, eAnd, eOr, eNot, eIf, eNeg, eIsi, gII, gIx, gIsN, gN, gT, gsNil, gsCons, isLent_eq, lentO, lentS_v, lentS_un, lentS_f, lentS_t, lentS_z, finE, okArg, Out.bind, Od.val, slVal, Bx.tr, Bx.t, isN, L2.ixN, L2.atI, isInt, isBool, isTuple, isList, isStr, isDict, isTL, Nat.zero_le, id_eq, eq_self, Pu.c0, Pu.c1, Pu.c2, Pu.c3, Pu.c4, Pu.c5, Pu.c6, Pu.c7, Pu.c8, Pu.c9, Pu.s1, Pu.s2, Pu.s3, Pu.s4, Pu.s5, Pu.s6, Pu.s7, Pu.s8, Pu.s9, Int.reduceEq, Nat.reduceMul, Int.ofNat_eq_natCast, wipeE, restE, exists_eq_left', Option.some.injEq, Out.ok.injEq, Prod.mk.injEq, Option.bind_some, Option.bind_none, Option.bind_eq_bind, List.getElem?_cons_zero, List.getElem?_cons_succ, List.getElem?_nil, List.set_cons_zero, List.set_cons_succ, List.set_nil, List.length_cons, List.length_nil, List.replicate_succ, List.replicate_zero, List.cons_append, List.nil_append, List.append_nil, List.all_cons, List.all_nil, Bool.and_true, Bool.true_and, Bool.and_false, Bool.false_and, if_true, if_false, ite_true, ite_false, List.nodup_cons, List.nodup_nil, List.not_mem_nil, List.mem_cons, not_false_eq_true, and_true, true_and, reduceIte, Nat.reduceAdd, Nat.reduceSub, Nat.reduceEqDiff, Nat.reduceLT, Nat.reduceLeDiff, Option.map_some, Option.map_none, Option.getD_some, reduceCtorEq, or_self, or_false, false_or, not_true_eq_false, decide_true, decide_false, Bool.not_true, Bool.not_false, Bool.false_eq_true, Nat.zero_add, Nat.add_zero, forall_const, Int.reduceLT, Int.reduceLE, Int.reduceNeg, Int.reduceToNat, Int.toNat_natCast, and_self]
/-- a drawn book is right -/
theorem page_ok (D : Dk) : ∃ (D' : Dk) (B : Nat) (ks : List (List Pt)), m__law_page [.ow true (.l (dkT D))] = .ok (.r (bkT B ks)) [.ow true (.l (dkT D'))] ∧ Good B ks := by
  have t1 := tk_ok D 3 (by omega) (by omega)
  have t2 := tk_ok (tkD D 3) 5 (by omega) (by omega)
  have t3 := tk_ok (tkD (tkD D 3) 5) 8 (by omega) (by omega)
  have l2 := tkV_lt (tkD D 3) (n := 5) (by omega)
  have l3 := tkV_lt (tkD (tkD D 3) 5) (n := 8) (by omega)
  obtain ⟨B, hb, hB⟩ : ∃ B : Nat, (B = 2 ∨ B = 3) ∧ 2 + (if (tkV D 3 : Int) = 0 then 1 else 0) = (B : Int) := by
    by_cases h : (tkV D 3 : Int) = 0
    · exact ⟨3, .inr rfl, by rw [if_pos h]; rfl⟩
    · exact ⟨2, .inl rfl, by rw [if_neg h]; rfl⟩
  have hBB : B * B ≤ 9 := by rcases hb with h | h <;> subst h <;> decide
  have hn : 1 + (tkV (tkD (tkD D 3) 5) 8 : Int) = ((tkV (tkD (tkD D 3) 5) 8 + 1 : Nat) : Int) := by omega
  by_cases hw : tkV (tkD D 3) 5 = 0
  · obtain ⟨D', ks, h, g⟩ := posed_page_ok (tkD (tkD (tkD D 3) 5) 8) hb
    exact ⟨D', B, ks, pg_s1 m__law_take m__law_posed_page x1__law_page l1__law_page _ _ _ _ _ _ (tkV (tkD D 3) 5 : Int) _ _ _ _ hB hn (by omega) t1 t2 t3 h, g⟩
  · obtain ⟨D1, ls, h1, h2, h3⟩ := pg_x1 (tkD (tkD (tkD D 3) 5) 8) hb (tkV (tkD D 3) 5) (tkV (tkD (tkD D 3) 5) 8 + 1) (by omega) l2 (by omega)
    obtain ⟨D2, ks, l6, l7, h4, h5, h6⟩ := pg_l1 D1 hBB (tkV (tkD D 3) 5) (tkV (tkD (tkD D 3) 5) 8 + 1) (by omega) ls h2 l2 h3
    exact ⟨D2, B, ks, pg_s2 m__law_take m__law_posed_page x1__law_page l1__law_page _ _ _ _ _ _ _ (tkV (tkD D 3) 5 : Int) _ _ _ _ _ _ _ _ _ _ hB hn (by omega) t1 t2 t3 h1 h4, good_of hb (by omega) (by omega) (by rw [h5]; exact h6)⟩
/-- line and last: whose names hold them -/
def Two (xs : List T) (s : Sl) : Prop := s = .ow false (.l xs) ∨ s = .v (.list xs)
end Lw

set_option linter.all false
set_option maxRecDepth 100000
set_option maxHeartbeats 4000000
namespace Lw
open PySem PySem.Spec Ev Pu Mt
/-! ### the threads of all kinds -/
def linesT (B : Nat) (ks : List (List Pt)) (d : Nat) : List T := (List.range ks.length).map fun k => plT (lineOf B ks d k)
theorem ix_lines (B : Nat) (ks : List (List Pt)) (d k : Nat) (h : k < ks.length) : gIx (.list (linesT B ks d)) (.int (k : Int)) = some (.r (plT (lineOf B ks d k))) :=
  ix_list _ _ _ (by unfold linesT; rw [List.getElem?_map, List.getElem?_range h]; rfl)
theorem lt_e (x y w l o : Int) (s0 s1 s2 s3 s5 s6 s7 s8 s9 s12 : Sl) (hx : x.natAbs.log2 + w.natAbs.log2 < 1000000) (hy : y.natAbs.log2 + w.natAbs.log2 < 1000000) :
    (eTup (aCons (eOp2 gAdd (eOp2 gMul (eVar 10) (eVar 4)) (eVar 13)) (aCons (eOp2 gAdd (eOp2 gMul (eVar 11) (eVar 4)) (eVar 14)) aNil))) [s0, s1, s2, s3, .v (.int w), s5, s6, s7, s8, s9, .v (.int x), .v (.int y), s12, .v (.int l), .v (.int o)] = .ok (.r (.tuple [.int (x * w + l), .int (y * w + o)])) [s0, s1, s2, s3, .v (.int w), s5, s6, s7, s8, s9, .v (.int x), .v (.int y), s12, .v (.int l), .v (.int o)] := by
  simp only [hx, hy, eMut, gAppend, gInsert, eRev, eIndex, eLenSet, gInt, gLen, gTuple, gList, gAbs, gMax2, gMin2, gDivmod, gEq_int, runFn, sSeq, sIf, sSet, sSetIx, sRet, sRetN, sNil, sDrop, sAsg, sFor, sPar, sNever, setO, retO, setOs, presc, eVar, eK, eTwo, v2, eFn, eDisp, eTup, eLst, eCall, eCallR, eCallK, pick, toSl, toSls, sIdx, wb, bk, esc, escs, vals, aNil, aCons, tb, Ev.tNot, Ev.tAnd, Ev.tOr, gGt, gLt, gGe, gLe, gSub, gMod, gDiv, gPow, gAdd, gMul, gInt, mulOk, g1, g2, fInt, fLen, fTuple, fList, fAbs, eAnd, eOr, eNot, eIf, eNeg, eIsi, gII, gIx, gIsN, gN, gT, gsNil, gsCons, isLent_eq, lentO, lentS_v, lentS_un, lentS_f, lentS_t, lentS_z, finE, okArg, Out.bind, Od.val, slVal, Bx.tr, Bx.t, isN, L2.ixN, L2.atI, isInt, isBool, isTuple, isList, isStr, isDict, isTL, Nat.zero_le, id_eq, eq_self, Pu.c0, Pu.c1, Pu.c2, Pu.c3, Pu.c4, Pu.c5, Pu.c6, Pu.c7, Pu.c8, Pu.c9, Pu.s1, Pu.s2, Pu.s3, Pu.s4, Pu.s5, Pu.s6, Pu.s7, Pu.s8, Pu.s9, Int.reduceEq, Nat.reduceMul, Int.ofNat_eq_natCast, wipeE, restE, exists_eq_left', Option.some.injEq, Out.ok.injEq, Prod.mk.injEq, Option.bind_some, Option.bind_none, Option.bind_eq_bind, List.getElem?_cons_zero, List.getElem?_cons_succ, List.getElem?_nil, List.set_cons_zero, List.set_cons_succ, List.set_nil, List.length_cons, List.length_nil, List.replicate_succ, List.replicate_zero, List.cons_append, List.nil_append, List.append_nil, List.all_cons, List.all_nil, Bool.and_true, Bool.true_and, Bool.and_false, Bool.false_and, if_true, if_false, ite_true, ite_false, List.nodup_cons, List.nodup_nil, List.not_mem_nil, List.mem_cons, not_false_eq_true, and_true, true_and, reduceIte, Nat.reduceAdd, Nat.reduceSub, Nat.reduceEqDiff, Nat.reduceLT, Nat.reduceLeDiff, Option.map_some, Option.map_none, Option.getD_some, reduceCtorEq, or_self, or_false, false_or, not_true_eq_false, decide_true, decide_false, Bool.not_true, Bool.not_false, Bool.false_eq_true, Nat.zero_add, Nat.add_zero, forall_const, Int.reduceLT, Int.reduceLE, Int.reduceNeg, Int.reduceToNat, Int.toNat_natCast, and_self]
theorem lt_g (c : Int × Int) (s0 s1 s2 s3 s4 s5 s6 s7 s8 s9 s10 s11 s12 : Sl) : gT 2 (gsCons (gN 13) (gsCons (gN 14) gsNil)) (cT c) [s0, s1, s2, s3, s4, s5, s6, s7, s8, s9, s10, s11, s12, .un, .un] = some [s0, s1, s2, s3, s4, s5, s6, s7, s8, s9, s10, s11, s12, .v (.int c.1), .v (.int c.2)] := by
  simp only [cT, eMut, gAppend, gInsert, eRev, eIndex, eLenSet, gInt, gLen, gTuple, gList, gAbs, gMax2, gMin2, gDivmod, gEq_int, runFn, sSeq, sIf, sSet, sSetIx, sRet, sRetN, sNil, sDrop, sAsg, sFor, sPar, sNever, setO, retO, setOs, presc, eVar, eK, eTwo, v2, eFn, eDisp, eTup, eLst, eCall, eCallR, eCallK, pick, toSl, toSls, sIdx, wb, bk, esc, escs, vals, aNil, aCons, tb, Ev.tNot, Ev.tAnd, Ev.tOr, gGt, gLt, gGe, gLe, gSub, gMod, gDiv, gPow, gAdd, gMul, gInt, mulOk, g1, g2, fInt, fLen, fTuple, fList, fAbs, eAnd, eOr, eNot, eIf, eNeg, eIsi, gII, gIx, gIsN, gN, gT, gsNil, gsCons, isLent_eq, lentO, lentS_v, lentS_un, lentS_f, lentS_t, lentS_z, finE, okArg, Out.bind, Od.val, slVal, Bx.tr, Bx.t, isN, L2.ixN, L2.atI, isInt, isBool, isTuple, isList, isStr, isDict, isTL, Nat.zero_le, id_eq, eq_self, Pu.c0, Pu.c1, Pu.c2, Pu.c3, Pu.c4, Pu.c5, Pu.c6, Pu.c7, Pu.c8, Pu.c9, Pu.s1, Pu.s2, Pu.s3, Pu.s4, Pu.s5, Pu.s6, Pu.s7, Pu.s8, Pu.s9, Int.reduceEq, Nat.reduceMul, Int.ofNat_eq_natCast, wipeE, restE, exists_eq_left', Option.some.injEq, Out.ok.injEq, Prod.mk.injEq, Option.bind_some, Option.bind_none, Option.bind_eq_bind, List.getElem?_cons_zero, List.getElem?_cons_succ, List.getElem?_nil, List.set_cons_zero, List.set_cons_succ, List.set_nil, List.length_cons, List.length_nil, List.replicate_succ, List.replicate_zero, List.cons_append, List.nil_append, List.append_nil, List.all_cons, List.all_nil, Bool.and_true, Bool.true_and, Bool.and_false, Bool.false_and, if_true, if_false, ite_true, ite_false, List.nodup_cons, List.nodup_nil, List.not_mem_nil, List.mem_cons, not_false_eq_true, and_true, true_and, reduceIte, Nat.reduceAdd, Nat.reduceSub, Nat.reduceEqDiff, Nat.reduceLT, Nat.reduceLeDiff, Option.map_some, Option.map_none, Option.getD_some, reduceCtorEq, or_self, or_false, false_or, not_true_eq_false, decide_true, decide_false, Bool.not_true, Bool.not_false, Bool.false_eq_true, Nat.zero_add, Nat.add_zero, forall_const, Int.reduceLT, Int.reduceLE, Int.reduceNeg, Int.reduceToNat, Int.toNat_natCast, and_self]
theorem lt_i (k : Int) (ls ts : List T) (u : T) (hu : u = .list ts) (s0 s1 s2 s3 s4 s5 s6 s7 s8 s9 s10 s11 : Sl) (h5 : Two ls s5) (hi : gIx (.list ls) (.int k) = some (.r u)) :
    iOf (eOp2 gIx (eVar 5) (eVar 12)) [s0, s1, s2, s3, s4, s5, s6, s7, s8, s9, s10, s11, .v (.int k), .un, .un] = .ok ts [s0, s1, s2, s3, s4, s5, s6, s7, s8, s9, s10, s11, .v (.int k), .un, .un] := by
  subst hu
  rcases h5 with rfl | rfl <;> simp only [iOf, hi, eMut, gAppend, gInsert, eRev, eIndex, eLenSet, gInt, gLen, gTuple, gList, gAbs, gMax2, gMin2, gDivmod, gEq_int, runFn, sSeq, sIf, sSet, sSetIx, sRet, sRetN, sNil, sDrop, sAsg, sFor, sPar, sNever, setO, retO, setOs, presc, eVar, eK, eTwo, v2, eFn, eDisp, eTup, eLst, eCall, eCallR, eCallK, pick, toSl, toSls, sIdx, wb, bk, esc, escs, vals, aNil, aCons, tb, Ev.tNot, Ev.tAnd, Ev.tOr, gGt, gLt, gGe, gLe, gSub, gMod, gDiv, gPow, gAdd, gMul, gInt, mulOk, g1, g2, fInt, fLen, fTuple, fList, fAbs, eAnd, eOr, eNot, eIf, eNeg, eIsi, gII, gIsN, gN, gT, gsNil, gsCons, isLent_eq, lentO, lentS_v, lentS_un, lentS_f, lentS_t, lentS_z, finE, okArg, Out.bind, Od.val, slVal, Bx.tr, Bx.t, isN, L2.ixN, L2.atI, isInt, isBool, isTuple, isList, isStr, isDict, isTL, Nat.zero_le, id_eq, eq_self, Pu.c0, Pu.c1, Pu.c2, Pu.c3, Pu.c4, Pu.c5, Pu.c6, Pu.c7, Pu.c8, Pu.c9, Pu.s1, Pu.s2, Pu.s3, Pu.s4, Pu.s5, Pu.s6, Pu.s7, Pu.s8, Pu.s9, Int.reduceEq, Nat.reduceMul, Int.ofNat_eq_natCast, wipeE, restE, exists_eq_left', Option.some.injEq, Out.ok.injEq, Prod.mk.injEq, Option.bind_some, Option.bind_none, Option.bind_eq_bind, List.getElem?_cons_zero, List.getElem?_cons_succ, List.getElem?_nil, List.set_cons_zero, List.set_cons_succ, List.set_nil, List.length_cons, List.length_nil, List.replicate_succ, List.replicate_zero, List.cons_append, List.nil_append, List.append_nil, List.all_cons, List.all_nil, Bool.and_true, Bool.true_and, Bool.and_false, Bool.false_and, if_true, if_false, ite_true, ite_false, List.nodup_cons, List.nodup_nil, List.not_mem_nil, List.mem_cons, not_false_eq_true, and_true, true_and, reduceIte, Nat.reduceAdd, Nat.reduceSub, Nat.reduceEqDiff, Nat.reduceLT, Nat.reduceLeDiff, Option.map_some, Option.map_none, Option.getD_some, reduceCtorEq, or_self, or_false, false_or, not_true_eq_false, decide_true, decide_false, Bool.not_true, Bool.not_false, Bool.false_eq_true, Nat.zero_add, Nat.add_zero, forall_const, Int.reduceLT, Int.reduceLE, Int.reduceNeg, Int.reduceToNat, Int.toNat_natCast, and_self]
theorem small_mul {B : Nat} (hb : B = 2 ∨ B = 3) (x : Int) (hx : 0 ≤ x ∧ x < (B : Int)) (d : Nat) (hd : d ≤ 200) : x.natAbs.log2 + ((B : Int) ^ d).natAbs.log2 < 1000000 := by
  have h1 : x.natAbs.log2 < 10 := log2_small (by omega) (by decide)
  have h2 := pow_small (b := (B : Int)) (by omega) (by omega) d hd
  omega
theorem lt_x2 {B : Nat} {ks : List (List Pt)} (g : Good B ks) (d : Nat) (hd : d ≤ 200) (hs : (B * B) ^ d ≤ 100000) (p : Pt) (hp : (0 ≤ p.1 ∧ p.1 < (B : Int)) ∧ (0 ≤ p.2.1 ∧ p.2.1 < (B : Int)) ∧ p.2.2 < ks.length) (s0 s1 s2 s3 s5 s6 s7 s8 s9 : Sl) (h5 : Two (linesT B ks d) s5) :
    x2__law_threads [s0, s1, s2, s3, .v (.int ((B : Int) ^ d)), s5, s6, s7, s8, s9, .v (.int p.1), .v (.int p.2.1), .v (nT p.2.2), .un, .un] = .ok (.b (.l (((lineOf B ks d p.2.2).map (mv B d p)).map cT))) [s0, s1, s2, s3, .v (.int ((B : Int) ^ d)), s5, s6, s7, s8, s9, .v (.int p.1), .v (.int p.2.1), .v (nT p.2.2), .un, .un] := by
  have hi := lt_i (p.2.2 : Int) (linesT B ks d) _ (plT (lineOf B ks d p.2.2)) rfl s0 s1 s2 s3 (.v (.int ((B : Int) ^ d))) s5 s6 s7 s8 s9 (.v (.int p.1)) (.v (.int p.2.1)) h5 (ix_lines B ks d p.2.2 hp.2.2)
  unfold x2__law_threads
  have hi : iOf (eOp2 gIx (eVar 5) (eVar 12)) [s0, s1, s2, s3, .v (.int ((B : Int) ^ d)), s5, s6, s7, s8, s9, .v (.int p.1), .v (.int p.2.1), .v (nT p.2.2), .un, .un] = _ := hi
  rw [comp_eq hi, List.map_map]
  have hx := small_mul g.hb p.1 hp.1 d hd
  have hy := small_mul g.hb p.2.1 hp.2.1 d hd
  have hl : ([] : List T).length + (lineOf B ks d p.2.2).length ≤ sizeLine := by rw [line_len, List.length_nil]; unfold sizeLine; omega
  refine comp_on cT (cT ∘ mv B d p) (lineOf B ks d p.2.2) [] _ hl fun c hc => ?_
  exact ⟨_, lt_g c _ _ _ _ _ _ _ _ _ _ _ _ _, _, rfl, _, _, lt_e p.1 p.2.1 ((B : Int) ^ d) c.1 c.2 _ _ _ _ _ _ _ _ _ _ hx hy, _, rfl, rfl⟩
theorem lt_y1 (x2 : SemE) (ts us : List T) (s0 s1 s2 s3 s4 s5 s6 s7 s8 s10 s11 s12 : Sl) (hs : ts.length + us.length ≤ sizeLine) (h : x2 [s0, s1, s2, s3, s4, s5, s6, s7, s8, .ow false (.l ts), s10, s11, s12, .un, .un] = .ok (.b (.l us)) [s0, s1, s2, s3, s4, s5, s6, s7, s8, .ow false (.l ts), s10, s11, s12, .un, .un]) :
    (sSet 9 (eOp2 gAdd (eVar 9) x2)) [s0, s1, s2, s3, s4, s5, s6, s7, s8, .ow false (.l ts), s10, s11, s12, .un, .un] = .ok .nx [s0, s1, s2, s3, s4, s5, s6, s7, s8, .ow false (.l (ts ++ us)), s10, s11, s12, .un, .un] := by
  simp only [h, hs, eMut, gAppend, gInsert, eRev, eIndex, eLenSet, gInt, gLen, gTuple, gList, gAbs, gMax2, gMin2, gDivmod, gEq_int, runFn, sSeq, sIf, sSet, sSetIx, sRet, sRetN, sNil, sDrop, sAsg, sFor, sPar, sNever, setO, retO, setOs, presc, eVar, eK, eTwo, v2, eFn, eDisp, eTup, eLst, eCall, eCallR, eCallK, pick, toSl, toSls, sIdx, wb, bk, esc, escs, vals, aNil, aCons, tb, Ev.tNot, Ev.tAnd, Ev.tOr, gGt, gLt, gGe, gLe, gSub, gMod, gDiv, gPow, gAdd, gMul, gInt, mulOk, g1, g2, fInt, fLen, fTuple, fList, fAbs, eAnd, eOr, eNot, eIf, eNeg, eIsi, gII, gIx, gIsN, gN, gT, gsNil, gsCons, isLent_eq, lentO, lentS_v, lentS_un, lentS_f, lentS_t, lentS_z, finE, okArg, Out.bind, Od.val, slVal, Bx.tr, Bx.t, isN, L2.ixN, L2.atI, isInt, isBool, isTuple, isList, isStr, isDict, isTL, Nat.zero_le, id_eq, eq_self, Pu.c0, Pu.c1, Pu.c2, Pu.c3, Pu.c4, Pu.c5, Pu.c6, Pu.c7, Pu.c8, Pu.c9, Pu.s1, Pu.s2, Pu.s3, Pu.s4, Pu.s5, Pu.s6, Pu.s7, Pu.s8, Pu.s9, Int.reduceEq, Nat.reduceMul, Int.ofNat_eq_natCast, wipeE, restE, exists_eq_left', Option.some.injEq, Out.ok.injEq, Prod.mk.injEq, Option.bind_some, Option.bind_none, Option.bind_eq_bind, List.getElem?_cons_zero, List.getElem?_cons_succ, List.getElem?_nil, List.set_cons_zero, List.set_cons_succ, List.set_nil, List.length_cons, List.length_nil, List.replicate_succ, List.replicate_zero, List.cons_append, List.nil_append, List.append_nil, List.all_cons, List.all_nil, Bool.and_true, Bool.true_and, Bool.and_false, Bool.false_and, if_true, if_false, ite_true, ite_false, List.nodup_cons, List.nodup_nil, List.not_mem_nil, List.mem_cons, not_false_eq_true, and_true, true_and, reduceIte, Nat.reduceAdd, Nat.reduceSub, Nat.reduceEqDiff, Nat.reduceLT, Nat.reduceLeDiff, Option.map_some, Option.map_none, Option.getD_some, reduceCtorEq, or_self, or_false, false_or, not_true_eq_false, decide_true, decide_false, Bool.not_true, Bool.not_false, Bool.false_eq_true, Nat.zero_add, Nat.add_zero, forall_const, Int.reduceLT, Int.reduceLE, Int.reduceNeg, Int.reduceToNat, Int.toNat_natCast, and_self]
theorem lt_g3 (p : Pt) (s0 s1 s2 s3 s4 s5 s6 s7 s8 s9 l10 l11 l12 : Sl) (a10 : lentS l10 = false) (a11 : lentS l11 = false) (a12 : lentS l12 = false) : gT 3 (gsCons (gN 10) (gsCons (gN 11) (gsCons (gN 12) gsNil))) (ptT p) [s0, s1, s2, s3, s4, s5, s6, s7, s8, s9, l10, l11, l12, .un, .un] = some [s0, s1, s2, s3, s4, s5, s6, s7, s8, s9, .v (.int p.1), .v (.int p.2.1), .v (nT p.2.2), .un, .un] := by
  simp only [ptT, nT, a10, a11, a12, eMut, gAppend, gInsert, eRev, eIndex, eLenSet, gInt, gLen, gTuple, gList, gAbs, gMax2, gMin2, gDivmod, gEq_int, runFn, sSeq, sIf, sSet, sSetIx, sRet, sRetN, sNil, sDrop, sAsg, sFor, sPar, sNever, setO, retO, setOs, presc, eVar, eK, eTwo, v2, eFn, eDisp, eTup, eLst, eCall, eCallR, eCallK, pick, toSl, toSls, sIdx, wb, bk, esc, escs, vals, aNil, aCons, tb, Ev.tNot, Ev.tAnd, Ev.tOr, gGt, gLt, gGe, gLe, gSub, gMod, gDiv, gPow, gAdd, gMul, gInt, mulOk, g1, g2, fInt, fLen, fTuple, fList, fAbs, eAnd, eOr, eNot, eIf, eNeg, eIsi, gII, gIx, gIsN, gN, gT, gsNil, gsCons, isLent_eq, lentO, lentS_v, lentS_un, lentS_f, lentS_t, lentS_z, finE, okArg, Out.bind, Od.val, slVal, Bx.tr, Bx.t, isN, L2.ixN, L2.atI, isInt, isBool, isTuple, isList, isStr, isDict, isTL, Nat.zero_le, id_eq, eq_self, Pu.c0, Pu.c1, Pu.c2, Pu.c3, Pu.c4, Pu.c5, Pu.c6, Pu.c7, Pu.c8, Pu.c9, Pu.s1, Pu.s2, Pu.s3, Pu.s4, Pu.s5, Pu.s6, Pu.s7, Pu.s8, Pu.s9, Int.reduceEq, Nat.reduceMul, Int.ofNat_eq_natCast, wipeE, restE, exists_eq_left', Option.some.injEq, Out.ok.injEq, Prod.mk.injEq, Option.bind_some, Option.bind_none, Option.bind_eq_bind, List.getElem?_cons_zero, List.getElem?_cons_succ, List.getElem?_nil, List.set_cons_zero, List.set_cons_succ, List.set_nil, List.length_cons, List.length_nil, List.replicate_succ, List.replicate_zero, List.cons_append, List.nil_append, List.append_nil, List.all_cons, List.all_nil, Bool.and_true, Bool.true_and, Bool.and_false, Bool.false_and, if_true, if_false, ite_true, ite_false, List.nodup_cons, List.nodup_nil, List.not_mem_nil, List.mem_cons, not_false_eq_true, and_true, true_and, reduceIte, Nat.reduceAdd, Nat.reduceSub, Nat.reduceEqDiff, Nat.reduceLT, Nat.reduceLeDiff, Option.map_some, Option.map_none, Option.getD_some, reduceCtorEq, or_self, or_false, false_or, not_true_eq_false, decide_true, decide_false, Bool.not_true, Bool.not_false, Bool.false_eq_true, Nat.zero_add, Nat.add_zero, forall_const, Int.reduceLT, Int.reduceLE, Int.reduceNeg, Int.reduceToNat, Int.toNat_natCast, and_self]
def pre (B : Nat) (ks : List (List Pt)) (d : Nat) (ps : List Pt) : List (Int × Int) := ps.flatMap fun p => (lineOf B ks d p.2.2).map (mv B d p)
theorem pre_len (B : Nat) (ks : List (List Pt)) (d : Nat) : ∀ ps, (pre B ks d ps).length = ps.length * (B * B) ^ d
  | [] => by simp [pre]
  | p :: ps => by
    have := pre_len B ks d ps
    unfold pre at this ⊢
    rw [List.flatMap_cons, List.length_append, this, List.length_map, line_len, List.length_cons, Nat.succ_mul, Nat.add_comm]
theorem lt_l1 {B : Nat} {ks : List (List Pt)} (g : Good B ks) (d : Nat) (hd : d ≤ 200) (hs : (B * B) ^ (d + 1) ≤ 100000) (ps : List Pt) (hps : ps ∈ ks) (s0 s1 s2 s3 s5 s6 s7 l10 l11 l12 : Sl) (h5 : Two (linesT B ks d) s5) (a10 : lentS l10 = false) (a11 : lentS l11 = false) (a12 : lentS l12 = false) :
    ∃ l10' l11' l12', l1__law_threads [s0, s1, s2, s3, .v (.int ((B : Int) ^ d)), s5, s6, s7, .v (kT ps), .ow false (.l []), l10, l11, l12, .un, .un] = .ok .nx [s0, s1, s2, s3, .v (.int ((B : Int) ^ d)), s5, s6, s7, .v (kT ps), .ow false (.l ((pre B ks d ps).map cT)), l10', l11', l12', .un, .un] ∧ lentS l10' = false ∧ lentS l11' = false ∧ lentS l12' = false := by
  have hi : iOf (eVar 8) [s0, s1, s2, s3, .v (.int ((B : Int) ^ d)), s5, s6, s7, .v (kT ps), .ow false (.l []), l10, l11, l12, .un, .un] = .ok (ps.map ptT) [s0, s1, s2, s3, .v (.int ((B : Int) ^ d)), s5, s6, s7, .v (kT ps), .ow false (.l []), l10, l11, l12, .un, .un] := rfl
  have hlen := g.len ps hps
  have hN : 0 < B * B := by rcases g.hb with h | h <;> subst h <;> decide
  have hsd : (B * B) ^ d ≤ 100000 := Nat.le_trans (Nat.pow_le_pow_right hN (by omega)) hs
  obtain ⟨e', h, l10', l11', l12', ⟨b10, b11, b12⟩, _, rfl⟩ := for_on (g := gT 3 (gsCons (gN 10) (gsCons (gN 11) (gsCons (gN 12) gsNil)))) (b := y1__law_threads) ptT (fun don e => ∃ l10 l11 l12, (lentS l10 = false ∧ lentS l11 = false ∧ lentS l12 = false) ∧ (don.length ≤ B * B) ∧ e = [s0, s1, s2, s3, .v (.int ((B : Int) ^ d)), s5, s6, s7, .v (kT ps), .ow false (.l ((pre B ks d don).map cT)), l10, l11, l12, .un, .un]) (B * B) ps [] _ ⟨l10, l11, l12, ⟨a10, a11, a12⟩, Nat.zero_le _, rfl⟩ (by rw [List.length_nil]; omega) fun p hp don e hdn ⟨l10, l11, l12, ⟨a10, a11, a12⟩, _, he⟩ => by
    subst he
    have x2 := lt_x2 g d hd hsd p (g.rng ps hps p hp) s0 s1 s2 s3 s5 s6 s7 (.v (kT ps)) (.ow false (.l ((pre B ks d don).map cT))) h5
    have hsz : ((pre B ks d don).map cT).length + (((lineOf B ks d p.2.2).map (mv B d p)).map cT).length ≤ sizeLine := by
      rw [List.length_map, pre_len, List.length_map, List.length_map, line_len]
      have : (don.length + 1) * (B * B) ^ d ≤ (B * B) ^ (d + 1) := by rw [Nat.pow_succ']; exact Nat.mul_le_mul_right _ (by omega)
      rw [Nat.succ_mul] at this
      unfold sizeLine; omega
    have st := lt_y1 x2__law_threads _ _ s0 s1 s2 s3 (.v (.int ((B : Int) ^ d))) s5 s6 s7 (.v (kT ps)) (.v (.int p.1)) (.v (.int p.2.1)) (.v (nT p.2.2)) hsz x2
    refine ⟨_, lt_g3 p _ _ _ _ _ _ _ _ _ _ l10 l11 l12 a10 a11 a12, _, .inl st, .v (.int p.1), .v (.int p.2.1), .v (nT p.2.2), ⟨rfl, rfl, rfl⟩, by rw [List.length_append, List.length_singleton]; omega, ?_⟩
    rw [← List.map_append]
    unfold pre
    rw [List.flatMap_append, List.flatMap_singleton]
  refine ⟨l10', l11', l12', ?_, b10, b11, b12⟩
  unfold l1__law_threads
  rw [sFor_eq hi]
  exact h
theorem lt_y2 (l1 : SemS) (lo ln : List T) (s0 s1 s2 s3 s4 s5 s6 s8 l9 l10 l11 l12 l10' l11' l12' : Sl) (a9 : lentS l9 = false) (hs : lo.length < sizeLine) (h : l1 [s0, s1, s2, s3, s4, s5, s6, .ow false (.l lo), s8, .ow false (.l []), l10, l11, l12, .un, .un] = .ok .nx [s0, s1, s2, s3, s4, s5, s6, .ow false (.l lo), s8, .ow false (.l ln), l10', l11', l12', .un, .un]) :
    (sSeq (sSet 9 (eLst aNil)) (sSeq l1 (sDrop (eMut 7 gAppend (aCons (eVar 9) aNil))))) [s0, s1, s2, s3, s4, s5, s6, .ow false (.l lo), s8, l9, l10, l11, l12, .un, .un] = .ok .nx [s0, s1, s2, s3, s4, s5, s6, .ow false (.l (lo ++ [.list ln])), s8, .v (.list ln), l10', l11', l12', .un, .un] := by
  simp only [h, hs, a9, eMut, gAppend, gInsert, eRev, eIndex, eLenSet, gInt, gLen, gTuple, gList, gAbs, gMax2, gMin2, gDivmod, gEq_int, runFn, sSeq, sIf, sSet, sSetIx, sRet, sRetN, sNil, sDrop, sAsg, sFor, sPar, sNever, setO, retO, setOs, presc, eVar, eK, eTwo, v2, eFn, eDisp, eTup, eLst, eCall, eCallR, eCallK, pick, toSl, toSls, sIdx, wb, bk, esc, escs, vals, aNil, aCons, tb, Ev.tNot, Ev.tAnd, Ev.tOr, gGt, gLt, gGe, gLe, gSub, gMod, gDiv, gPow, gAdd, gMul, gInt, mulOk, g1, g2, fInt, fLen, fTuple, fList, fAbs, eAnd, eOr, eNot, eIf, eNeg, eIsi, gII, gIx, gIsN, gN, gT, gsNil, gsCons, isLent_eq, lentO, lentS_v, lentS_un, lentS_f, lentS_t, lentS_z, finE, okArg, Out.bind, Od.val, slVal, Bx.tr, Bx.t, isN, L2.ixN, L2.atI, isInt, isBool, isTuple, isList, isStr, isDict, isTL, Nat.zero_le, id_eq, eq_self, Pu.c0, Pu.c1, Pu.c2, Pu.c3, Pu.c4, Pu.c5, Pu.c6, Pu.c7, Pu.c8, Pu.c9, Pu.s1, Pu.s2, Pu.s3, Pu.s4, Pu.s5, Pu.s6, Pu.s7, Pu.s8, Pu.s9, Int.reduceEq, Nat.reduceMul, Int.ofNat_eq_natCast, wipeE, restE, exists_eq_left', Option.some.injEq, Out.ok.injEq, Prod.mk.injEq, Option.bind_some, Option.bind_none, Option.bind_eq_bind, List.getElem?_cons_zero, List.getElem?_cons_succ, List.getElem?_nil, List.set_cons_zero, List.set_cons_succ, List.set_nil, List.length_cons, List.length_nil, List.replicate_succ, List.replicate_zero, List.cons_append, List.nil_append, List.append_nil, List.all_cons, List.all_nil, Bool.and_true, Bool.true_and, Bool.and_false, Bool.false_and, if_true, if_false, ite_true, ite_false, List.nodup_cons, List.nodup_nil, List.not_mem_nil, List.mem_cons, not_false_eq_true, and_true, true_and, reduceIte, Nat.reduceAdd, Nat.reduceSub, Nat.reduceEqDiff, Nat.reduceLT, Nat.reduceLeDiff, Option.map_some, Option.map_none, Option.getD_some, reduceCtorEq, or_self, or_false, false_or, not_true_eq_false, decide_true, decide_false, Bool.not_true, Bool.not_false, Bool.false_eq_true, Nat.zero_add, Nat.add_zero, forall_const, Int.reduceLT, Int.reduceLE, Int.reduceNeg, Int.reduceToNat, Int.toNat_natCast, and_self]
def preL (B : Nat) (ks : List (List Pt)) (d : Nat) (kss : List (List Pt)) : List T := kss.map fun ps => plT (pre B ks d ps)
theorem lt_l2 {B : Nat} {ks : List (List Pt)} (g : Good B ks) (d : Nat) (hd : d ≤ 200) (hs : (B * B) ^ (d + 1) ≤ 100000) (s0 s1 s2 s5 s6 l8 l9 l10 l11 l12 : Sl) (h5 : Two (linesT B ks d) s5) (a8 : lentS l8 = false) (a9 : lentS l9 = false) (a10 : lentS l10 = false) (a11 : lentS l11 = false) (a12 : lentS l12 = false) :
    ∃ l8' l9' l10' l11' l12', l2__law_threads [s0, s1, s2, .v (.tuple (ks.map kT)), .v (.int ((B : Int) ^ d)), s5, s6, .ow false (.l []), l8, l9, l10, l11, l12, .un, .un] = .ok .nx [s0, s1, s2, .v (.tuple (ks.map kT)), .v (.int ((B : Int) ^ d)), s5, s6, .ow false (.l (preL B ks d ks)), l8', l9', l10', l11', l12', .un, .un] ∧ (lentS l8' = false ∧ lentS l9' = false ∧ lentS l10' = false ∧ lentS l11' = false ∧ lentS l12' = false) := by
  have hi : iOf (eVar 3) [s0, s1, s2, .v (.tuple (ks.map kT)), .v (.int ((B : Int) ^ d)), s5, s6, .ow false (.l []), l8, l9, l10, l11, l12, .un, .un] = .ok (ks.map kT) [s0, s1, s2, .v (.tuple (ks.map kT)), .v (.int ((B : Int) ^ d)), s5, s6, .ow false (.l []), l8, l9, l10, l11, l12, .un, .un] := rfl
  have hfew := g.few
  obtain ⟨e', h, l8', l9', l10', l11', l12', bb, rfl⟩ := for_on (g := gN 8) (b := y2__law_threads) kT (fun don e => ∃ l8 l9 l10 l11 l12, (lentS l8 = false ∧ lentS l9 = false ∧ lentS l10 = false ∧ lentS l11 = false ∧ lentS l12 = false) ∧ e = [s0, s1, s2, .v (.tuple (ks.map kT)), .v (.int ((B : Int) ^ d)), s5, s6, .ow false (.l (preL B ks d don)), l8, l9, l10, l11, l12, .un, .un]) 20 ks [] _ ⟨l8, l9, l10, l11, l12, ⟨a8, a9, a10, a11, a12⟩, rfl⟩ (by rw [List.length_nil]; omega) fun ps hps don e hdn ⟨l8, l9, l10, l11, l12, ⟨a8, a9, a10, a11, a12⟩, he⟩ => by
    subst he
    obtain ⟨l10', l11', l12', q, b10, b11, b12⟩ := lt_l1 g d hd hs ps hps s0 s1 s2 (.v (.tuple (ks.map kT))) s5 s6 (.ow false (.l (preL B ks d don))) l10 l11 l12 h5 a10 a11 a12
    have st := lt_y2 l1__law_threads (preL B ks d don) _ s0 s1 s2 (.v (.tuple (ks.map kT))) (.v (.int ((B : Int) ^ d))) s5 s6 (.v (kT ps)) l9 l10 l11 l12 l10' l11' l12' a9 (by unfold preL; rw [List.length_map]; unfold sizeLine; omega) q
    refine ⟨[s0, s1, s2, .v (.tuple (ks.map kT)), .v (.int ((B : Int) ^ d)), s5, s6, .ow false (.l (preL B ks d don)), .v (kT ps), l9, l10, l11, l12, .un, .un], by simp only [a8, eMut, gAppend, gInsert, eRev, eIndex, eLenSet, gInt, gLen, gTuple, gList, gAbs, gMax2, gMin2, gDivmod, gEq_int, runFn, sSeq, sIf, sSet, sSetIx, sRet, sRetN, sNil, sDrop, sAsg, sFor, sPar, sNever, setO, retO, setOs, presc, eVar, eK, eTwo, v2, eFn, eDisp, eTup, eLst, eCall, eCallR, eCallK, pick, toSl, toSls, sIdx, wb, bk, esc, escs, vals, aNil, aCons, tb, Ev.tNot, Ev.tAnd, Ev.tOr, gGt, gLt, gGe, gLe, gSub, gMod, gDiv, gPow, gAdd, gMul, gInt, mulOk, g1, g2, fInt, fLen, fTuple, fList, fAbs, eAnd, eOr, eNot, eIf, eNeg, eIsi, gII, gIx, gIsN, gN, gT, gsNil, gsCons, isLent_eq, lentO, lentS_v, lentS_un, lentS_f, lentS_t, lentS_z, finE, okArg, Out.bind, Od.val, slVal, Bx.tr, Bx.t, isN, L2.ixN, L2.atI, isInt, isBool, isTuple, isList, isStr, isDict, isTL, Nat.zero_le, id_eq, eq_self, Pu.c0, Pu.c1, Pu.c2, Pu.c3, Pu.c4, Pu.c5, Pu.c6, Pu.c7, Pu.c8, Pu.c9, Pu.s1, Pu.s2, Pu.s3, Pu.s4, Pu.s5, Pu.s6, Pu.s7, Pu.s8, Pu.s9, Int.reduceEq, Nat.reduceMul, Int.ofNat_eq_natCast, wipeE, restE, exists_eq_left', Option.some.injEq, Out.ok.injEq, Prod.mk.injEq, Option.bind_some, Option.bind_none, Option.bind_eq_bind, List.getElem?_cons_zero, List.getElem?_cons_succ, List.getElem?_nil, List.set_cons_zero, List.set_cons_succ, List.set_nil, List.length_cons, List.length_nil, List.replicate_succ, List.replicate_zero, List.cons_append, List.nil_append, List.append_nil, List.all_cons, List.all_nil, Bool.and_true, Bool.true_and, Bool.and_false, Bool.false_and, if_true, if_false, ite_true, ite_false, List.nodup_cons, List.nodup_nil, List.not_mem_nil, List.mem_cons, not_false_eq_true, and_true, true_and, reduceIte, Nat.reduceAdd, Nat.reduceSub, Nat.reduceEqDiff, Nat.reduceLT, Nat.reduceLeDiff, Option.map_some, Option.map_none, Option.getD_some, reduceCtorEq, or_self, or_false, false_or, not_true_eq_false, decide_true, decide_false, Bool.not_true, Bool.not_false, Bool.false_eq_true, Nat.zero_add, Nat.add_zero, forall_const, Int.reduceLT, Int.reduceLE, Int.reduceNeg, Int.reduceToNat, Int.toNat_natCast, and_self], _, .inl st, .v (kT ps), .v (.list ((pre B ks d ps).map cT)), l10', l11', l12', ⟨rfl, rfl, b10, b11, b12⟩, ?_⟩
    unfold preL
    rw [List.map_append]
    rfl
  refine ⟨l8', l9', l10', l11', l12', ?_, bb⟩
  unfold l2__law_threads
  rw [sFor_eq hi]
  exact h
theorem preL_all {B : Nat} {ks : List (List Pt)} (g : Good B ks) (d : Nat) : preL B ks d ks = linesT B ks (d + 1) := by
  unfold preL linesT
  apply List.ext_getElem?
  intro k
  by_cases hk : k < ks.length
  · obtain ⟨ps, h1, _⟩ := g.row hk
    rw [List.getElem?_map, h1, List.getElem?_map, List.getElem?_range hk]
    show some (plT (pre B ks d ps)) = some (plT (lineOf B ks (d + 1) k))
    rw [line_succ g d h1]
    rfl
  · rw [List.getElem?_eq_none (by simp; omega), List.getElem?_eq_none (by simp; omega)]
theorem lt_y3 (l2 : SemS) (w b w2 : Int) (ls : List T) (s0 s1 s3 s5 s6 l7 l8 l9 l10 l11 l12 l8' l9' l10' l11' l12' : Sl) (a5 : lentS s5 = false) (a7 : lentS l7 = false) (hm : w.natAbs.log2 + b.natAbs.log2 < 1000000) (hw : w * b = w2) (h : l2 [s0, s1, .v (.int b), s3, .v (.int w), s5, s6, .ow false (.l []), l8, l9, l10, l11, l12, .un, .un] = .ok .nx [s0, s1, .v (.int b), s3, .v (.int w), s5, s6, .ow false (.l ls), l8', l9', l10', l11', l12', .un, .un]) :
    (sSeq (sSet 7 (eLst aNil)) (sSeq l2 (sPar [4, 5] (aCons (eOp2 gMul (eVar 4) (eVar 2)) (aCons (eVar 7) aNil))))) [s0, s1, .v (.int b), s3, .v (.int w), s5, s6, l7, l8, l9, l10, l11, l12, .un, .un] = .ok .nx [s0, s1, .v (.int b), s3, .v (.int w2), .v (.list ls), s6, .v (.list ls), l8', l9', l10', l11', l12', .un, .un] := by
  simp only [h, hm, hw, a5, a7, eMut, gAppend, gInsert, eRev, eIndex, eLenSet, gInt, gLen, gTuple, gList, gAbs, gMax2, gMin2, gDivmod, gEq_int, runFn, sSeq, sIf, sSet, sSetIx, sRet, sRetN, sNil, sDrop, sAsg, sFor, sPar, sNever, setO, retO, setOs, presc, eVar, eK, eTwo, v2, eFn, eDisp, eTup, eLst, eCall, eCallR, eCallK, pick, toSl, toSls, sIdx, wb, bk, esc, escs, vals, aNil, aCons, tb, Ev.tNot, Ev.tAnd, Ev.tOr, gGt, gLt, gGe, gLe, gSub, gMod, gDiv, gPow, gAdd, gMul, gInt, mulOk, g1, g2, fInt, fLen, fTuple, fList, fAbs, eAnd, eOr, eNot, eIf, eNeg, eIsi, gII, gIx, gIsN, gN, gT, gsNil, gsCons, isLent_eq, lentO, lentS_v, lentS_un, lentS_f, lentS_t, lentS_z, finE, okArg, Out.bind, Od.val, slVal, Bx.tr, Bx.t, isN, L2.ixN, L2.atI, isInt, isBool, isTuple, isList, isStr, isDict, isTL, Nat.zero_le, id_eq, eq_self, Pu.c0, Pu.c1, Pu.c2, Pu.c3, Pu.c4, Pu.c5, Pu.c6, Pu.c7, Pu.c8, Pu.c9, Pu.s1, Pu.s2, Pu.s3, Pu.s4, Pu.s5, Pu.s6, Pu.s7, Pu.s8, Pu.s9, Int.reduceEq, Nat.reduceMul, Int.ofNat_eq_natCast, wipeE, restE, exists_eq_left', Option.some.injEq, Out.ok.injEq, Prod.mk.injEq, Option.bind_some, Option.bind_none, Option.bind_eq_bind, List.getElem?_cons_zero, List.getElem?_cons_succ, List.getElem?_nil, List.set_cons_zero, List.set_cons_succ, List.set_nil, List.length_cons, List.length_nil, List.replicate_succ, List.replicate_zero, List.cons_append, List.nil_append, List.append_nil, List.all_cons, List.all_nil, Bool.and_true, Bool.true_and, Bool.and_false, Bool.false_and, if_true, if_false, ite_true, ite_false, List.nodup_cons, List.nodup_nil, List.not_mem_nil, List.mem_cons, not_false_eq_true, and_true, true_and, reduceIte, Nat.reduceAdd, Nat.reduceSub, Nat.reduceEqDiff, Nat.reduceLT, Nat.reduceLeDiff, Option.map_some, Option.map_none, Option.getD_some, reduceCtorEq, or_self, or_false, false_or, not_true_eq_false, decide_true, decide_false, Bool.not_true, Bool.not_false, Bool.false_eq_true, Nat.zero_add, Nat.add_zero, forall_const, Int.reduceLT, Int.reduceLE, Int.reduceNeg, Int.reduceToNat, Int.toNat_natCast, and_self]
theorem two_lent {xs : List T} {s : Sl} (h : Two xs s) : lentS s = false := by rcases h with rfl | rfl <;> rfl
theorem lt_l3 {B : Nat} {ks : List (List Pt)} (g : Good B ks) (d : Nat) (hd : d ≤ 200) (hs : (B * B) ^ d ≤ 100000) (s0 : Sl) :
    ∃ s5 l6 l7 l8 l9 l10 l11 l12, l3__law_threads [s0, .v (nT d), .v (nT B), .v (.tuple (ks.map kT)), .v (.int 1), .ow false (.l (linesT B ks 0)), .un, .un, .un, .un, .un, .un, .un, .un, .un] = .ok .nx [s0, .v (nT d), .v (nT B), .v (.tuple (ks.map kT)), .v (.int ((B : Int) ^ d)), s5, l6, l7, l8, l9, l10, l11, l12, .un, .un] ∧ Two (linesT B ks d) s5 := by
  have hN : 0 < B * B := by rcases g.hb with h | h <;> subst h <;> decide
  have hi := iR1_nat (m := aCons (eVar 1) aNil) (e := [s0, .v (nT d), .v (nT B), .v (.tuple (ks.map kT)), .v (.int 1), .ow false (.l (linesT B ks 0)), .un, .un, .un, .un, .un, .un, .un, .un, .un]) (e1 := [s0, .v (nT d), .v (nT B), .v (.tuple (ks.map kT)), .v (.int 1), .ow false (.l (linesT B ks 0)), .un, .un, .un, .un, .un, .un, .un, .un, .un]) (rs := [.r (nT d)]) (n := d) rfl rfl (by omega)
  obtain ⟨e', h, s5, l6, l7, l8, l9, l10, l11, l12, h5, _, rfl⟩ := for_on (g := gN 6) (b := y3__law_threads) (fun (k : Nat) => PyData.int (0 + (k : Int))) (fun don e => ∃ s5 l6 l7 l8 l9 l10 l11 l12, Two (linesT B ks don.length) s5 ∧ (lentS l6 = false ∧ lentS l7 = false ∧ lentS l8 = false ∧ lentS l9 = false ∧ lentS l10 = false ∧ lentS l11 = false ∧ lentS l12 = false) ∧
      e = [s0, .v (nT d), .v (nT B), .v (.tuple (ks.map kT)), .v (.int ((B : Int) ^ don.length)), s5, l6, l7, l8, l9, l10, l11, l12, .un, .un]) d (List.range d) [] [s0, .v (nT d), .v (nT B), .v (.tuple (ks.map kT)), .v (.int ((B : Int) ^ 0)), .ow false (.l (linesT B ks 0)), .un, .un, .un, .un, .un, .un, .un, .un, .un] ⟨_, _, _, _, _, _, _, _, .inl rfl, ⟨rfl, rfl, rfl, rfl, rfl, rfl, rfl⟩, rfl⟩ (by simp) fun j _ don e hdn ⟨s5, l6, l7, l8, l9, l10, l11, l12, h5, ⟨a6, a7, a8, a9, a10, a11, a12⟩, he⟩ => by
    subst he
    have hs1 : (B * B) ^ (don.length + 1) ≤ 100000 := Nat.le_trans (Nat.pow_le_pow_right hN (by omega)) hs
    obtain ⟨l8', l9', l10', l11', l12', q, b8, b9, b10, b11, b12⟩ := lt_l2 g don.length (by omega) hs1 s0 (.v (nT d)) (.v (nT B)) s5 (.v (.int (0 + (j : Int)))) l8 l9 l10 l11 l12 h5 a8 a9 a10 a11 a12
    rw [preL_all g] at q
    have h2 := pow_small (b := (B : Int)) (by omega) (by rcases g.hb with h | h <;> omega) don.length (by omega)
    have h3 : (B : Int).natAbs.log2 < 10 := log2_small (by rcases g.hb with h | h <;> omega) (by decide)
    have st := lt_y3 l2__law_threads ((B : Int) ^ don.length) (B : Int) ((B : Int) ^ (don.length + 1)) _ s0 (.v (nT d)) (.v (.tuple (ks.map kT))) s5 (.v (.int (0 + (j : Int)))) l7 l8 l9 l10 l11 l12 l8' l9' l10' l11' l12' (two_lent h5) a7 (by omega) (Int.pow_succ _ _).symm q
    rw [List.length_append, List.length_singleton]
    exact ⟨[s0, .v (nT d), .v (nT B), .v (.tuple (ks.map kT)), .v (.int ((B : Int) ^ don.length)), s5, .v (.int (0 + (j : Int))), l7, l8, l9, l10, l11, l12, .un, .un], by simp only [a6, eMut, gAppend, gInsert, eRev, eIndex, eLenSet, gInt, gLen, gTuple, gList, gAbs, gMax2, gMin2, gDivmod, gEq_int, runFn, sSeq, sIf, sSet, sSetIx, sRet, sRetN, sNil, sDrop, sAsg, sFor, sPar, sNever, setO, retO, setOs, presc, eVar, eK, eTwo, v2, eFn, eDisp, eTup, eLst, eCall, eCallR, eCallK, pick, toSl, toSls, sIdx, wb, bk, esc, escs, vals, aNil, aCons, tb, Ev.tNot, Ev.tAnd, Ev.tOr, gGt, gLt, gGe, gLe, gSub, gMod, gDiv, gPow, gAdd, gMul, gInt, mulOk, g1, g2, fInt, fLen, fTuple, fList, fAbs, eAnd, eOr, eNot, eIf, eNeg, eIsi, gII, gIx, gIsN, gN, gT, gsNil, gsCons, isLent_eq, lentO, lentS_v, lentS_un, lentS_f, lentS_t, lentS_z, finE, okArg, Out.bind, Od.val, slVal, Bx.tr, Bx.t, isN, L2.ixN, L2.atI, isInt, isBool, isTuple, isList, isStr, isDict, isTL, Nat.zero_le, id_eq, eq_self, Pu.c0, Pu.c1, Pu.c2, Pu.c3, Pu.c4, Pu.c5, Pu.c6, Pu.c7, Pu.c8, Pu.c9, Pu.s1, Pu.s2, Pu.s3, Pu.s4, Pu.s5, Pu.s6, Pu.s7, Pu.s8, Pu.s9, Int.reduceEq, Nat.reduceMul, Int.ofNat_eq_natCast, wipeE, restE, exists_eq_left', Option.some.injEq, Out.ok.injEq, Prod.mk.injEq, Option.bind_some, Option.bind_none, Option.bind_eq_bind, List.getElem?_cons_zero, List.getElem?_cons_succ, List.getElem?_nil, List.set_cons_zero, List.set_cons_succ, List.set_nil, List.length_cons, List.length_nil, List.replicate_succ, List.replicate_zero, List.cons_append, List.nil_append, List.append_nil, List.all_cons, List.all_nil, Bool.and_true, Bool.true_and, Bool.and_false, Bool.false_and, if_true, if_false, ite_true, ite_false, List.nodup_cons, List.nodup_nil, List.not_mem_nil, List.mem_cons, not_false_eq_true, and_true, true_and, reduceIte, Nat.reduceAdd, Nat.reduceSub, Nat.reduceEqDiff, Nat.reduceLT, Nat.reduceLeDiff, Option.map_some, Option.map_none, Option.getD_some, reduceCtorEq, or_self, or_false, false_or, not_true_eq_false, decide_true, decide_false, Bool.not_true, Bool.not_false, Bool.false_eq_true, Nat.zero_add, Nat.add_zero, forall_const, Int.reduceLT, Int.reduceLE, Int.reduceNeg, Int.reduceToNat, Int.toNat_natCast, and_self], _, .inl st, .v (.list (linesT B ks (don.length + 1))), .v (.int (0 + (j : Int))), .v (.list (linesT B ks (don.length + 1))), l8', l9', l10', l11', l12', .inr rfl, ⟨rfl, rfl, b8, b9, b10, b11, b12⟩, rfl⟩
  rw [List.nil_append, List.length_range] at h h5
  rw [Int.pow_zero] at h
  refine ⟨s5, l6, l7, l8, l9, l10, l11, l12, ?_, h5⟩
  unfold l3__law_threads
  rw [sFor_eq hi]
  exact h
theorem lt_x1 (ks : List (List Pt)) (hk : ks.length ≤ 20) (B : Nat) (s0 s1 s2 : Sl) : x1__law_threads [s0, s1, s2, .v (.tuple (ks.map kT)), .un, .un, .un, .un, .un, .un, .un, .un, .un, .un, .un] = .ok (.b (.l (linesT B ks 0))) [s0, s1, s2, .v (.tuple (ks.map kT)), .un, .un, .un, .un, .un, .un, .un, .un, .un, .un, .un] := by
  have hi : iOf (eVar 3) [s0, s1, s2, .v (.tuple (ks.map kT)), .un, .un, .un, .un, .un, .un, .un, .un, .un, .un, .un] = .ok (ks.map kT) [s0, s1, s2, .v (.tuple (ks.map kT)), .un, .un, .un, .un, .un, .un, .un, .un, .un, .un, .un] := rfl
  have e : linesT B ks 0 = ks.map fun _ => .list [cT (0, 0)] := by
    unfold linesT
    apply List.ext_getElem?
    intro k
    by_cases h : k < ks.length
    · rw [List.getElem?_map, List.getElem?_range h, List.getElem?_map, List.getElem?_eq_getElem h]
      show some (plT (lineOf B ks 0 k)) = _
      rw [line_zero]; rfl
    · rw [List.getElem?_eq_none (by simp; omega), List.getElem?_eq_none (by simp; omega)]
  rw [e]
  unfold x1__law_threads
  rw [comp_eq hi]
  refine comp_on kT (fun _ => .list [cT (0, 0)]) ks [] _ (by rw [List.length_nil]; unfold sizeLine; omega) fun ps hps => ?_
  exact ⟨_, rfl, _, rfl, _, _, rfl, _, rfl, rfl⟩
theorem lt_st (x : SemE) (y : SemS) (t0 tb_ tk_ t1 : T) (ls0 : List T) (ls : List T) (l4 s5 l6 l7 l8 l9 l10 l11 l12 l13 l14 : Sl) (h0 : t0 = .tuple [tb_, tk_]) (h5 : Two ls s5) (hx : x [.v t0, .v t1, .v tb_, .v tk_, .un, .un, .un, .un, .un, .un, .un, .un, .un, .un, .un] = .ok (.b (.l ls0)) [.v t0, .v t1, .v tb_, .v tk_, .un, .un, .un, .un, .un, .un, .un, .un, .un, .un, .un])
    (hy : y [.v t0, .v t1, .v tb_, .v tk_, .v (.int 1), .ow false (.l ls0), .un, .un, .un, .un, .un, .un, .un, .un, .un] = .ok .nx [.v t0, .v t1, .v tb_, .v tk_, l4, s5, l6, l7, l8, l9, l10, l11, l12, l13, l14]) :
    ∃ r, runFn 15 (sSeq (sAsg (gT 2 (gsCons (gN 2) (gsCons (gN 3) gsNil))) (eVar 0)) (sSeq (sPar [4, 5] (aCons (eK (.int 1)) (aCons x aNil))) (sSeq y (sRet (eVar 5))))) [.v t0, .v t1] = .ok r [.v t0, .v t1] ∧ (r = .b (.l ls) ∨ r = .r (.list ls)) := by
  subst h0
  rcases h5 with rfl | rfl
  · exact ⟨.b (.l ls), by simp only [hx, hy, eMut, gAppend, gInsert, eRev, eIndex, eLenSet, gInt, gLen, gTuple, gList, gAbs, gMax2, gMin2, gDivmod, gEq_int, runFn, sSeq, sIf, sSet, sSetIx, sRet, sRetN, sNil, sDrop, sAsg, sFor, sPar, sNever, setO, retO, setOs, presc, eVar, eK, eTwo, v2, eFn, eDisp, eTup, eLst, eCall, eCallR, eCallK, pick, toSl, toSls, sIdx, wb, bk, esc, escs, vals, aNil, aCons, tb, Ev.tNot, Ev.tAnd, Ev.tOr, gGt, gLt, gGe, gLe, gSub, gMod, gDiv, gPow, gAdd, gMul, gInt, mulOk, g1, g2, fInt, fLen, fTuple, fList, fAbs, eAnd, eOr, eNot, eIf, eNeg, eIsi, gII, gIx, gIsN, gN, gT, gsNil, gsCons, isLent_eq, lentO, lentS_v, lentS_un, lentS_f, lentS_t, lentS_z, finE, okArg, Out.bind, Od.val, slVal, Bx.tr, Bx.t, isN, L2.ixN, L2.atI, isInt, isBool, isTuple, isList, isStr, isDict, isTL, Nat.zero_le, id_eq, eq_self, Pu.c0, Pu.c1, Pu.c2, Pu.c3, Pu.c4, Pu.c5, Pu.c6, Pu.c7, Pu.c8, Pu.c9, Pu.s1, Pu.s2, Pu.s3, Pu.s4, Pu.s5, Pu.s6, Pu.s7, Pu.s8, Pu.s9, Int.reduceEq, Nat.reduceMul, Int.ofNat_eq_natCast, wipeE, restE, exists_eq_left', Option.some.injEq, Out.ok.injEq, Prod.mk.injEq, Option.bind_some, Option.bind_none, Option.bind_eq_bind, List.getElem?_cons_zero, List.getElem?_cons_succ, List.getElem?_nil, List.set_cons_zero, List.set_cons_succ, List.set_nil, List.length_cons, List.length_nil, List.replicate_succ, List.replicate_zero, List.cons_append, List.nil_append, List.append_nil, List.all_cons, List.all_nil, Bool.and_true, Bool.true_and, Bool.and_false, Bool.false_and, if_true, if_false, ite_true, ite_false, List.nodup_cons, List.nodup_nil, List.not_mem_nil, List.mem_cons, not_false_eq_true, and_true, true_and, reduceIte, Nat.reduceAdd, Nat.reduceSub, Nat.reduceEqDiff, Nat.reduceLT, Nat.reduceLeDiff, Option.map_some, Option.map_none, Option.getD_some, reduceCtorEq, or_self, or_false, false_or, not_true_eq_false, decide_true, decide_false, Bool.not_true, Bool.not_false, Bool.false_eq_true, Nat.zero_add, Nat.add_zero, forall_const, Int.reduceLT, Int.reduceLE, Int.reduceNeg, Int.reduceToNat, Int.toNat_natCast, and_self], .inl rfl⟩
  · exact ⟨.r (.list ls), by simp only [hx, hy, eMut, gAppend, gInsert, eRev, eIndex, eLenSet, gInt, gLen, gTuple, gList, gAbs, gMax2, gMin2, gDivmod, gEq_int, runFn, sSeq, sIf, sSet, sSetIx, sRet, sRetN, sNil, sDrop, sAsg, sFor, sPar, sNever, setO, retO, setOs, presc, eVar, eK, eTwo, v2, eFn, eDisp, eTup, eLst, eCall, eCallR, eCallK, pick, toSl, toSls, sIdx, wb, bk, esc, escs, vals, aNil, aCons, tb, Ev.tNot, Ev.tAnd, Ev.tOr, gGt, gLt, gGe, gLe, gSub, gMod, gDiv, gPow, gAdd, gMul, gInt, mulOk, g1, g2, fInt, fLen, fTuple, fList, fAbs, eAnd, eOr, eNot, eIf, eNeg, eIsi, gII, gIx, gIsN, gN, gT, gsNil, gsCons, isLent_eq, lentO, lentS_v, lentS_un, lentS_f, lentS_t, lentS_z, finE, okArg, Out.bind, Od.val, slVal, Bx.tr, Bx.t, isN, L2.ixN, L2.atI, isInt, isBool, isTuple, isList, isStr, isDict, isTL, Nat.zero_le, id_eq, eq_self, Pu.c0, Pu.c1, Pu.c2, Pu.c3, Pu.c4, Pu.c5, Pu.c6, Pu.c7, Pu.c8, Pu.c9, Pu.s1, Pu.s2, Pu.s3, Pu.s4, Pu.s5, Pu.s6, Pu.s7, Pu.s8, Pu.s9, Int.reduceEq, Nat.reduceMul, Int.ofNat_eq_natCast, wipeE, restE, exists_eq_left', Option.some.injEq, Out.ok.injEq, Prod.mk.injEq, Option.bind_some, Option.bind_none, Option.bind_eq_bind, List.getElem?_cons_zero, List.getElem?_cons_succ, List.getElem?_nil, List.set_cons_zero, List.set_cons_succ, List.set_nil, List.length_cons, List.length_nil, List.replicate_succ, List.replicate_zero, List.cons_append, List.nil_append, List.append_nil, List.all_cons, List.all_nil, Bool.and_true, Bool.true_and, Bool.and_false, Bool.false_and, if_true, if_false, ite_true, ite_false, List.nodup_cons, List.nodup_nil, List.not_mem_nil, List.mem_cons, not_false_eq_true, and_true, true_and, reduceIte, Nat.reduceAdd, Nat.reduceSub, Nat.reduceEqDiff, Nat.reduceLT, Nat.reduceLeDiff, Option.map_some, Option.map_none, Option.getD_some, reduceCtorEq, or_self, or_false, false_or, not_true_eq_false, decide_true, decide_false, Bool.not_true, Bool.not_false, Bool.false_eq_true, Nat.zero_add, Nat.add_zero, forall_const, Int.reduceLT, Int.reduceLE, Int.reduceNeg, Int.reduceToNat, Int.toNat_natCast, and_self], .inr rfl⟩
theorem law_threads_ok {B : Nat} {ks : List (List Pt)} (g : Good B ks) (d : Nat) (hd : d ≤ 200) (hs : (B * B) ^ d ≤ 100000) : ∃ r, m__law_threads [.v (bkT B ks), .v (nT d)] = .ok r [.v (bkT B ks), .v (nT d)] ∧ (r = .b (.l (linesT B ks d)) ∨ r = .r (.list (linesT B ks d))) := by
  obtain ⟨s5, l6, l7, l8, l9, l10, l11, l12, h, h5⟩ := lt_l3 g d hd hs (.v (bkT B ks))
  exact lt_st x1__law_threads l3__law_threads (bkT B ks) (nT B) (.tuple (ks.map kT)) (nT d) _ _ _ _ _ _ _ _ _ _ _ _ _ rfl h5 (lt_x1 ks g.few B _ _ _) h
end Lw

set_option linter.all false
set_option maxRecDepth 100000
set_option maxHeartbeats 8000000
namespace Lw
open PySem PySem.Spec Ev Pu Mt
/-! ### the law's own questions -/
theorem pick4 {α : Type} (a b c d : α) : pick [3, 2, 1, 0] [a, b, c, d] = [d, c, b, a] := rfl
theorem pick2 {α : Type} (a b : α) : pick [1, 0] [a, b] = [b, a] := rfl
theorem nd4 : ([3, 2, 1, 0] : List Nat).Nodup = True := eq_true (by decide)
theorem nd2 : ([1, 0] : List Nat).Nodup = True := eq_true (by decide)
theorem pl_cells (B : Nat) (ks : List (List Pt)) (d f n : Nat) (hn : n ≤ 100000) : Pl 2 (.list (cellsT B ks d f n)) := pl_map (fun j => cT (cellF B ks 0 d (f + j))) (fun j => pl_cT _) (List.range n) (by rw [List.length_range]; exact hn)
theorem cells_pl (B : Nat) (ks : List (List Pt)) (d f n : Nat) : ∀ x ∈ cellsT B ks d f n, Pl 1 x := fun x hx => by
  obtain ⟨j, _, rfl⟩ := List.mem_map.mp hx
  exact pl_cT _
theorem cells_len (B : Nat) (ks : List (List Pt)) (d f n : Nat) : (cellsT B ks d f n).length = n := by unfold cellsT; rw [List.length_map, List.length_range]
theorem line_cells (B : Nat) (ks : List (List Pt)) (d : Nat) : plT (lineOf B ks d 0) = .list (cellsT B ks d 0 ((B * B) ^ d)) := by
  unfold plT lineOf cellsT
  rw [List.map_map]
  congr 1
  refine List.map_congr_left fun j _ => ?_
  show cT _ = cT _
  rw [Nat.zero_add]
theorem cells_app (B : Nat) (ks : List (List Pt)) (d f n m : Nat) : cellsT B ks d f n ++ cellsT B ks d (f + n) m = cellsT B ks d f (n + m) := by
  unfold cellsT
  rw [List.range_add, List.map_append, List.map_map]
  congr 1
  refine List.map_congr_left fun j _ => ?_
  show cT _ = cT _
  rw [Nat.add_assoc]
theorem cells_drop (B : Nat) (ks : List (List Pt)) (d f k n : Nat) (h : k ≤ n) : (cellsT B ks d f n).drop k = cellsT B ks d (f + k) (n - k) := by
  have e := cells_app B ks d f k (n - k)
  rw [show k + (n - k) = n by omega] at e
  rw [← e]
  have hl := cells_len B ks d f k
  rw [List.drop_append_of_le_length (by omega), List.drop_of_length_le (by omega), List.nil_append]
theorem cells_take (B : Nat) (ks : List (List Pt)) (d f k n : Nat) (h : k ≤ n) : (cellsT B ks d f n).take k = cellsT B ks d f k := by
  have e := cells_app B ks d f k (n - k)
  rw [show k + (n - k) = n by omega] at e
  rw [← e]
  have hl := cells_len B ks d f k
  rw [List.take_append_of_le_length (by omega), List.take_of_length_le (by omega)]
theorem cells_cut (B : Nat) (ks : List (List Pt)) (d f k n : Nat) (hf : f ≤ n) : cutT (cellsT B ks d 0 n) (some (f : Int)) (some ((f : Int) + (k : Int))) = cellsT B ks d f (min (f + k) n - f) := by
  unfold cutT
  rw [cells_len, show (f : Int) + (k : Int) = ((f + k : Nat) : Int) by omega, HT.sIx_nat, HT.sIx_nat, Nat.min_eq_left hf, cells_drop _ _ _ _ _ _ hf, Nat.zero_add, cells_take _ _ _ _ _ _ (by omega)]
theorem ix_cells (B : Nat) (ks : List (List Pt)) (d n : Nat) (h : 0 < n) : gIx (.list (cellsT B ks d 0 n)) (.int 0) = some (.r (cT (cellF B ks 0 d 0))) :=
  ix_list _ 0 _ (by unfold cellsT; rw [List.getElem?_map, List.getElem?_range h]; rfl)
theorem ix_last (xs : List T) (x : T) (h : xs[xs.length - 1]? = some x) : gIx (.list xs) (.int (-1)) = some (.r x) := by
  obtain ⟨hk, e⟩ := List.getElem?_eq_some_iff.mp h
  have h1 : -(xs.length : Int) ≤ -1 := by omega
  have h2 : ((-1 : Int) + (xs.length : Int)).toNat = xs.length - 1 := by omega
  show ((L2.ixN xs.length (-1)).bind fun j => xs[j]?).map Od.r = _
  unfold L2.ixN
  rw [if_neg (by decide), if_pos h1, h2, Option.bind_some, h]
  rfl
theorem ix_cells_last (B : Nat) (ks : List (List Pt)) (d n : Nat) (h : 0 < n) : gIx (.list (cellsT B ks d 0 n)) (.int (-1)) = some (.r (cT (cellF B ks 0 d (n - 1)))) :=
  ix_last _ _ (by rw [cells_len]; unfold cellsT; rw [List.getElem?_map, List.getElem?_range (by omega)]; show some (cT _) = _; rw [Nat.zero_add])
end Lw

set_option linter.all false
set_option maxRecDepth 100000
set_option maxHeartbeats 8000000
namespace Lw
open PySem PySem.Spec Ev Pu Mt
/-! ### trees that are the same as themselves -/
theorem lsl_ow (xs : List T) : Lsl xs (.ow true (.l xs)) := .inr rfl
theorem lsl_v (xs : List T) : Lsl xs (.v (.list xs)) := .inl rfl
theorem pick3 {α : Type} (a b c : α) : pick [2, 1, 0] [a, b, c] = [c, b, a] := rfl
theorem pick2' {α : Type} (a b : α) : pick [1, 0] [a, b] = [b, a] := rfl
theorem pick1 {α : Type} (a : α) : pick [0] [a] = [a] := rfl
theorem pl_mono {n : Nat} {t : T} (h : Pl n t) : ∀ m, n ≤ m → Pl m t := by
  induction h with
  | int n i => exact fun m _ => .int m i
  | tup h hl ih => intro m hm; obtain ⟨k, rfl⟩ : ∃ k, m = k + 1 := ⟨m - 1, by omega⟩; exact .tup (fun x hx => ih x hx k (by omega)) hl
  | lst h hl ih => intro m hm; obtain ⟨k, rfl⟩ : ∃ k, m = k + 1 := ⟨m - 1, by omega⟩; exact .lst (fun x hx => ih x hx k (by omega)) hl
theorem all_refl {xs : List T} (h : ∀ x ∈ xs, PyData.eqv x x = true) : PyData.eqvAll xs xs = true := by
  induction xs with
  | nil => rfl
  | cons x xs ih => rw [PyData.eqvAll, h x List.mem_cons_self, ih fun y hy => h y (List.mem_cons_of_mem _ hy)]; rfl
theorem Pl.eqv {n : Nat} {t : T} (h : Pl n t) : PyData.eqv t t = true := by
  induction h with
  | int n i => rw [PyData.eqv]; simp
  | tup h hl ih => rw [PyData.eqv]; exact all_refl ih
  | lst h hl ih => rw [PyData.eqv]; exact all_refl ih
theorem gEq_refl {n : Nat} {t : T} (k : Bool → Bool) (h : Pl n t) (hn : n ≤ 64) : gEq k t t = some (.r (.bool (k true))) := by
  unfold gEq
  rw [h.shaped hn, h.eqv]
  rfl
theorem sm_b (m : FSem) (x : SemE) (i : Bool) : runFn 3 (sSeq (sIf (tb (eIsi isTL (eVar 1))) (sSeq (sIf (tOr (tb (eOp2 (gEq not) (eIsi isTuple (eVar 0)) (eIsi isTuple (eVar 1)))) (tb (eOp2 (gEq not) (eIsi isList (eVar 0)) (eIsi isList (eVar 1))))) (sRet (eK (.bool false))) sNil) (sSeq (sIf (tb (eOp2 (gEq not) (eFn gLen (aCons (eVar 0) aNil)) (eFn gLen (aCons (eVar 1) aNil)))) (sRet (eK (.bool false))) sNil) (sRet (eOp2 (gEq id) x (eLst aNil))))) sNil) (sSeq (sIf (tb (eOp2 (gIsN id) (eVar 1) (eK .none))) (sRet (eOp2 (gIsN id) (eVar 0) (eK .none))) sNil) (sSeq (sIf (tb (eIsi isStr (eVar 1))) (sRet (eAnd (eIsi isStr (eVar 0)) (eOp2 (gEq id) (eVar 0) (eVar 1)))) sNil) (sSeq (sIf (tOr (tb (eIsi isBool (eVar 1))) (tb (eIsi isBool (eVar 0)))) (sRet (eAnd (eIsi isBool (eVar 1)) (eAnd (eIsi isBool (eVar 0)) (eOp2 (gEq id) (eVar 0) (eVar 1))))) sNil) (sRet (eAnd (eIsi isInt (eVar 0)) (eOp2 (gEq id) (eVar 0) (eVar 1)))))))) [.v (.bool i), .v (.bool i)] = .ok (.r (.bool true)) [.v (.bool i), .v (.bool i)] := by
  cases i <;> simp only [gEq_bool, beqT, beqF, eMut, gAppend, gInsert, eRev, eIndex, eLenSet, gInt, gLen, gTuple, gList, gAbs, gMax2, gMin2, gDivmod, gEq_int, runFn, sSeq, sIf, sSet, sSetIx, sRet, sRetN, sNil, sDrop, sAsg, sFor, sPar, sNever, setO, retO, setOs, presc, eVar, eK, eTwo, v2, eFn, eDisp, eTup, eLst, eCall, eCallR, eCallK, pick, toSl, toSls, sIdx, wb, bk, esc, escs, vals, aNil, aCons, tb, Ev.tNot, Ev.tAnd, Ev.tOr, gGt, gLt, gGe, gLe, gSub, gMod, gDiv, gPow, gAdd, gMul, gInt, mulOk, g1, g2, fInt, fLen, fTuple, fList, fAbs, eAnd, eOr, eNot, eIf, eNeg, eIsi, gII, gIx, gIsN, gN, gT, gsNil, gsCons, isLent_eq, lentO, lentS_v, lentS_un, lentS_f, lentS_t, lentS_z, finE, okArg, Out.bind, Od.val, slVal, Bx.tr, Bx.t, isN, L2.ixN, L2.atI, isInt, isBool, isTuple, isList, isStr, isDict, isTL, Nat.zero_le, id_eq, eq_self, Pu.c0, Pu.c1, Pu.c2, Pu.c3, Pu.c4, Pu.c5, Pu.c6, Pu.c7, Pu.c8, Pu.c9, Pu.s1, Pu.s2, Pu.s3, Pu.s4, Pu.s5, Pu.s6, Pu.s7, Pu.s8, Pu.s9, Int.reduceEq, Nat.reduceMul, Int.ofNat_eq_natCast, wipeE, restE, exists_eq_left', Option.some.injEq, Out.ok.injEq, Prod.mk.injEq, Option.bind_some, Option.bind_none, Option.bind_eq_bind, List.getElem?_cons_zero, List.getElem?_cons_succ, List.getElem?_nil, List.set_cons_zero, List.set_cons_succ, List.set_nil, List.length_cons, List.length_nil, List.replicate_succ, List.replicate_zero, List.cons_append, List.nil_append, List.append_nil, List.all_cons, List.all_nil, Bool.and_true, Bool.true_and, Bool.and_false, Bool.false_and, if_true, if_false, ite_true, ite_false, List.nodup_cons, List.nodup_nil, List.not_mem_nil, List.mem_cons, not_false_eq_true, and_true, true_and, reduceIte, Nat.reduceAdd, Nat.reduceSub, Nat.reduceEqDiff, Nat.reduceLT, Nat.reduceLeDiff, Option.map_some, Option.map_none, Option.getD_some, reduceCtorEq, or_self, or_false, false_or, not_true_eq_false, decide_true, decide_false, Bool.not_true, Bool.not_false, Bool.false_eq_true, Nat.zero_add, Nat.add_zero, forall_const, Int.reduceLT, Int.reduceLE, Int.reduceNeg, Int.reduceToNat, Int.toNat_natCast, and_self]
theorem same_b (f : Nat) (i : Bool) : m__law_same (f + 1) [.v (.bool i), .v (.bool i)] = .ok (.r (.bool true)) [.v (.bool i), .v (.bool i)] := sm_b (m__law_same f) _ i
/-- two lists whose items are the same -/
theorem same_g (xs : List T) (h : ∀ x ∈ xs, m__law_same 7 [.v x, .v x] = .ok (.r (.bool true)) [.v x, .v x]) (hl : xs.length ≤ 100000) (s0 s1 : Sl) (h0 : Lsl xs s0) (h1 : Lsl xs s1) : m__law_same 8 [s0, s1] = .ok (.r (.bool true)) [s0, s1] := by
  refine sm_l _ xs xs rfl s0 s1 h0 h1 ?_
  refine sm_x (m__law_same 7) s0 s1 (.list xs) (.list xs) xs.length (h0.imp id fun z => ⟨xs, rfl, z⟩) (h1.imp id fun z => ⟨xs, rfl, z⟩) rfl hl fun k hk => ?_
  have e := List.getElem?_eq_getElem hk
  exact ⟨_, _, ix_list _ _ _ e, ix_list _ _ _ e, h _ (List.getElem_mem hk)⟩
/-- books are trees -/
theorem pl_ptT (p : Pt) : Pl 1 (ptT p) := .tup (fun x hx => by
  simp only [List.mem_cons, List.not_mem_nil, or_false] at hx
  rcases hx with rfl | rfl | rfl <;> exact .int _ _) (by simp)
theorem pl_bkT {B : Nat} {ks : List (List Pt)} (g : Good B ks) : Pl 4 (bkT B ks) := by
  have hB : B * B ≤ 9 := by rcases g.hb with h | h <;> subst h <;> decide
  have hf := g.few
  refine .tup (fun x hx => ?_) (by simp)
  simp only [List.mem_cons, List.not_mem_nil, or_false] at hx
  rcases hx with rfl | rfl
  · exact .int _ _
  · refine .tup (fun y hy => ?_) (by rw [List.length_map]; omega)
    obtain ⟨ps, hp, rfl⟩ := List.mem_map.mp hy
    refine .tup (fun z hz => ?_) (by rw [List.length_map, g.len ps hp]; omega)
    obtain ⟨p, _, rfl⟩ := List.mem_map.mp hz
    exact pl_ptT p
/-! ### postures, and what they make together -/
theorem eqv_c2 (a b : Int × Int) : PyData.eqv (cT a) (cT b) = decide (a = b) := by
  show ((a.1 == b.1) && ((a.2 == b.2) && true)) = _
  rw [Bool.and_true]
  by_cases h : a = b
  · subst h; simp
  · rw [decide_eq_false h]
    by_cases h1 : a.1 = b.1
    · have h2 : ¬ a.2 = b.2 := fun z => h (Prod.ext h1 z)
      simp [h2]
    · simp [h1]
theorem eqv_c3 : ∀ (l l2 : List (Int × Int)), PyData.eqvAll (l.map cT) (l2.map cT) = decide (l = l2)
  | [], [] => rfl
  | [], _ :: _ => rfl
  | _ :: _, [] => rfl
  | a :: l, b :: l2 => by
    rw [List.map_cons, List.map_cons, PyData.eqvAll, eqv_c2, eqv_c3 l l2]
    by_cases h1 : a = b <;> by_cases h2 : l = l2 <;> simp [h1, h2]
theorem eqv_cl (l l2 : List (Int × Int)) : PyData.eqv (.list (l.map cT)) (.list (l2.map cT)) = decide (l = l2) := by
  rw [PyData.eqv]; exact eqv_c3 l l2
/-- the posture that does first the other one, then the one -/
def cmpo (p o : Nat × Nat) : Nat × Nat := if o.2 = 0 then ((p.1 + o.1) % 4, p.2) else ((o.1 + 4 - p.1) % 4, (p.2 + 1) % 2)
theorem poses_mem {p : Nat × Nat} (h : p.1 < 4 ∧ p.2 < 2) : p ∈ posesL := by
  obtain ⟨a, b⟩ := p
  have ha : a = 0 ∨ a = 1 ∨ a = 2 ∨ a = 3 := by omega
  have hb : b = 0 ∨ b = 1 := by omega
  rcases ha with rfl | rfl | rfl | rfl <;> rcases hb with rfl | rfl <;> decide
theorem cmpo_lt {p o : Nat × Nat} (hp : p.1 < 4 ∧ p.2 < 2) (ho : o.1 < 4 ∧ o.2 < 2) : (cmpo p o).1 < 4 ∧ (cmpo p o).2 < 2 := by
  unfold cmpo
  split <;> dsimp only <;> omega
theorem cmpo_qz (w : Int) (p o : Nat × Nat) (hp : p.1 < 4 ∧ p.2 < 2) (ho : o.1 < 4 ∧ o.2 < 2) (c : Int × Int) : pz w (cmpo p o).1 (cmpo p o).2 c = pz w p.1 p.2 (pz w o.1 o.2 c) := by
  obtain ⟨a, b⟩ := p
  obtain ⟨a2, b2⟩ := o
  obtain ⟨x, y⟩ := c
  have ha : a = 0 ∨ a = 1 ∨ a = 2 ∨ a = 3 := by have := hp.1; dsimp only at this; omega
  have hb : b = 0 ∨ b = 1 := by have := hp.2; dsimp only at this; omega
  have ha2 : a2 = 0 ∨ a2 = 1 ∨ a2 = 2 ∨ a2 = 3 := by have := ho.1; dsimp only at this; omega
  have hb2 : b2 = 0 ∨ b2 = 1 := by have := ho.2; dsimp only at this; omega
  rcases ha with rfl | rfl | rfl | rfl <;> rcases hb with rfl | rfl <;> rcases ha2 with rfl | rfl | rfl | rfl <;> rcases hb2 with rfl | rfl <;>
    (simp only [cmpo, pz, pz1]; (try refine Prod.ext ?_ ?_) <;> simp <;> omega)
theorem cmpo_only : ∀ p ∈ posesL, ∀ o ∈ posesL, ∀ q ∈ posesL, (spots.map fun c => pz 2 q.1 q.2 c) = (spots.map fun c => pz 2 p.1 p.2 (pz 2 o.1 o.2 c)) → q = cmpo p o := by decide +kernel
theorem behind_is (p o : Nat × Nat) (hp : p.1 < 4 ∧ p.2 < 2) (ho : o.1 < 4 ∧ o.2 < 2) : m__law_behind [.v (pT p), .v (pT o)] = .ok (.r (pT (cmpo p o))) [.v (pT p), .v (pT o)] := by
  let ms : List T := spots.map fun c => cT (pz 2 p.1 p.2 (pz 2 o.1 o.2 c))
  have hm : SeqAt.shaped (.list ms) = true := (pl_map (fun c => cT (pz 2 p.1 p.2 (pz 2 o.1 o.2 c))) (fun c => pl_cT _) spots (by decide)).shaped (by decide)
  have hx := bh_x1 p o hp ho .un .un
  have hl : l1__law_behind [.v (pT p), .v (pT o), .ow false (.l ms), .un, .un] = forS (gN 3) y1__law_behind (posesL.map pT) [.v (pT p), .v (pT o), .ow false (.l ms), .un, .un] := by
    unfold l1__law_behind
    rw [sFor_eq (bh_i m__law_all_poses _ _ poses_ok)]
  have hmm : ∀ q : Nat × Nat, PyData.eqv (.list (spots.map fun c => cT (pz 2 q.1 q.2 c))) (.list ms) = decide ((spots.map fun c => pz 2 q.1 q.2 c) = (spots.map fun c => pz 2 p.1 p.2 (pz 2 o.1 o.2 c))) := fun q => by
    rw [← eqv_cl, List.map_map, List.map_map]; rfl
  obtain ⟨e', h⟩ := for_ret (g := gN 3) (b := y1__law_behind) (fun j e => (∀ i, i < j → ∀ q, posesL[i]? = some q → q ≠ cmpo p o) ∧ ∃ l3, lentS l3 = false ∧ e = [.v (pT p), .v (pT o), .ow false (.l ms), l3, .un]) (fun r e => r = .r (pT (cmpo p o)) ∧ ∃ l3, e = [.v (pT p), .v (pT o), .ow false (.l ms), l3, .un]) (posesL.map pT) 0 [.v (pT p), .v (pT o), .ow false (.l ms), .un, .un] ⟨(fun i hi => by omega), _, rfl, rfl⟩ fun j t e hj ⟨hb, l3, a3, he⟩ => by
    subst he
    rw [Nat.zero_add] at hb ⊢
    rw [List.getElem?_map] at hj
    obtain ⟨q, hq0, rfl⟩ := Option.map_eq_some_iff.mp hj
    have hq := List.mem_of_getElem? hq0
    have hq2 := poses_lt q hq
    have hxs : SeqAt.shaped (.list (spots.map fun c => cT (pz 2 q.1 q.2 c))) = true := (pl_map (fun c => cT (pz 2 q.1 q.2 c)) (fun c => pl_cT _) spots (by decide)).shaped (by decide)
    have st := bh_y x2__law_behind (pT p) (pT o) (pT q) ms _ hm hxs (bh_x2 q hq2 _ _ _)
    refine ⟨[.v (pT p), .v (pT o), .ow false (.l ms), .v (pT q), .un], by simp only [a3, eMut, gAppend, gInsert, eRev, eIndex, eLenSet, gInt, gLen, gTuple, gList, gAbs, gMax2, gMin2, gDivmod, gEq_int, runFn, sSeq, sIf, sSet, sSetIx, sRet, sRetN, sNil, sDrop, sAsg, sFor, sPar, sNever, setO, retO, setOs, presc, eVar, eK, eTwo, v2, eFn, eDisp, eTup, eLst, eCall, eCallR, eCallK, pick, toSl, toSls, sIdx, wb, bk, esc, escs, vals, aNil, aCons, tb, Ev.tNot, Ev.tAnd, Ev.tOr, gGt, gLt, gGe, gLe, gSub, gMod, gDiv, gPow, gAdd, gMul, gInt, mulOk, g1, g2, fInt, fLen, fTuple, fList, fAbs, eAnd, eOr, eNot, eIf, eNeg, eIsi, gII, gIx, gIsN, gN, gT, gsNil, gsCons, isLent_eq, lentO, lentS_v, lentS_un, lentS_f, lentS_t, lentS_z, finE, okArg, Out.bind, Od.val, slVal, Bx.tr, Bx.t, isN, L2.ixN, L2.atI, isInt, isBool, isTuple, isList, isStr, isDict, isTL, Nat.zero_le, id_eq, eq_self, Pu.c0, Pu.c1, Pu.c2, Pu.c3, Pu.c4, Pu.c5, Pu.c6, Pu.c7, Pu.c8, Pu.c9, Pu.s1, Pu.s2, Pu.s3, Pu.s4, Pu.s5, Pu.s6, Pu.s7, Pu.s8, Pu.s9, Int.reduceEq, Nat.reduceMul, Int.ofNat_eq_natCast, wipeE, restE, exists_eq_left', Option.some.injEq, Out.ok.injEq, Prod.mk.injEq, Option.bind_some, Option.bind_none, Option.bind_eq_bind, List.getElem?_cons_zero, List.getElem?_cons_succ, List.getElem?_nil, List.set_cons_zero, List.set_cons_succ, List.set_nil, List.length_cons, List.length_nil, List.replicate_succ, List.replicate_zero, List.cons_append, List.nil_append, List.append_nil, List.all_cons, List.all_nil, Bool.and_true, Bool.true_and, Bool.and_false, Bool.false_and, if_true, if_false, ite_true, ite_false, List.nodup_cons, List.nodup_nil, List.not_mem_nil, List.mem_cons, not_false_eq_true, and_true, true_and, reduceIte, Nat.reduceAdd, Nat.reduceSub, Nat.reduceEqDiff, Nat.reduceLT, Nat.reduceLeDiff, Option.map_some, Option.map_none, Option.getD_some, reduceCtorEq, or_self, or_false, false_or, not_true_eq_false, decide_true, decide_false, Bool.not_true, Bool.not_false, Bool.false_eq_true, Nat.zero_add, Nat.add_zero, forall_const, Int.reduceLT, Int.reduceLE, Int.reduceNeg, Int.reduceToNat, Int.toNat_natCast, and_self], [.v (pT p), .v (pT o), .ow false (.l ms), .v (pT q), .un], ?_⟩
    rw [hmm q] at st
    by_cases hc : (spots.map fun c => pz 2 q.1 q.2 c) = (spots.map fun c => pz 2 p.1 p.2 (pz 2 o.1 o.2 c))
    · rw [decide_eq_true hc, if_pos rfl] at st
      have := cmpo_only p (poses_mem hp) o (poses_mem ho) q hq hc
      exact .inr ⟨_, st, by rw [this], _, rfl⟩
    · rw [decide_eq_false hc, if_neg (by decide)] at st
      refine .inl ⟨.inl st, fun i hi q' hq' => ?_, _, rfl, rfl⟩
      by_cases hij : i = j
      · subst hij
        rw [hq0] at hq'
        cases hq'
        intro z
        subst z
        exact hc (List.map_congr_left fun c _ => cmpo_qz 2 p o hp ho c)
      · exact hb i (by omega) q' hq'
  rcases h with ⟨h, hb, l3, _, rfl⟩ | ⟨r, h, rfl, l3, rfl⟩
  · exfalso
    obtain ⟨i, hi⟩ := List.mem_iff_getElem?.mp (poses_mem (cmpo_lt hp ho))
    have hi2 := (List.getElem?_eq_some_iff.mp hi).1
    exact hb i (by rw [List.length_map]; omega) _ hi rfl
  · exact bh_st1 x1__law_behind l1__law_behind _ _ _ _ _ _ hx (hl.trans h)
end Lw

set_option linter.all false
set_option maxRecDepth 100000
set_option maxHeartbeats 8000000
namespace Lw
open PySem PySem.Spec Ev Pu Mt
/-! ### turned and backward books -/
/-- a posture -/
def isPo : T → Bool
  | .tuple [x, y] => isI 4 x && isI 2 y
  | _ => false
theorem is_posture_ok (t : T) : m_is_posture [.v t] = .ok (.r (.bool (isPo t))) [.v t] := by
  cases t with
  | tuple ts =>
    match ts with
    | [] => rfl
    | [_] => rfl
    | x :: y :: z :: ts =>
      have h : decide (((ts.length + 1 + 1 + 1 : Nat) : Int) = 2) = false := by simp; omega
      simp only [m_is_posture, b_is_posture, eMut, gAppend, gInsert, eRev, eIndex, eLenSet, gInt, gLen, gTuple, gList, gAbs, gMax2, gMin2, gDivmod, gEq_int, runFn, sSeq, sIf, sSet, sSetIx, sRet, sRetN, sNil, sDrop, sAsg, sFor, sPar, sNever, setO, retO, setOs, presc, eVar, eK, eTwo, v2, eFn, eDisp, eTup, eLst, eCall, eCallR, eCallK, pick, toSl, toSls, sIdx, wb, bk, esc, escs, vals, aNil, aCons, tb, Ev.tNot, Ev.tAnd, Ev.tOr, gGt, gLt, gGe, gLe, gSub, gMod, gDiv, gPow, gAdd, gMul, gInt, mulOk, g1, g2, fInt, fLen, fTuple, fList, fAbs, eAnd, eOr, eNot, eIf, eNeg, eIsi, gII, gIx, gIsN, gN, gT, gsNil, gsCons, isLent_eq, lentO, lentS_v, lentS_un, lentS_f, lentS_t, lentS_z, finE, okArg, Out.bind, Od.val, slVal, Bx.tr, Bx.t, isN, L2.ixN, L2.atI, isInt, isBool, isTuple, isList, isStr, isDict, isTL, Nat.zero_le, id_eq, eq_self, Pu.c0, Pu.c1, Pu.c2, Pu.c3, Pu.c4, Pu.c5, Pu.c6, Pu.c7, Pu.c8, Pu.c9, Pu.s1, Pu.s2, Pu.s3, Pu.s4, Pu.s5, Pu.s6, Pu.s7, Pu.s8, Pu.s9, Int.reduceEq, Nat.reduceMul, Int.ofNat_eq_natCast, wipeE, restE, exists_eq_left', Option.some.injEq, Out.ok.injEq, Prod.mk.injEq, Option.bind_some, Option.bind_none, Option.bind_eq_bind, List.getElem?_cons_zero, List.getElem?_cons_succ, List.getElem?_nil, List.set_cons_zero, List.set_cons_succ, List.set_nil, List.length_cons, List.length_nil, List.replicate_succ, List.replicate_zero, List.cons_append, List.nil_append, List.append_nil, List.all_cons, List.all_nil, Bool.and_true, Bool.true_and, Bool.and_false, Bool.false_and, if_true, if_false, ite_true, ite_false, List.nodup_cons, List.nodup_nil, List.not_mem_nil, List.mem_cons, not_false_eq_true, and_true, true_and, reduceIte, Nat.reduceAdd, Nat.reduceSub, Nat.reduceEqDiff, Nat.reduceLT, Nat.reduceLeDiff, Option.map_some, Option.map_none, Option.getD_some, reduceCtorEq, or_self, or_false, false_or, not_true_eq_false, decide_true, decide_false, Bool.not_true, Bool.not_false, Bool.false_eq_true, Nat.zero_add, Nat.add_zero, forall_const, Int.reduceLT, Int.reduceLE, Int.reduceNeg, Int.reduceToNat, Int.toNat_natCast, and_self, isPo, h]
    | [x, y] => cases hx : isI 4 x <;> simp only [m_is_posture, b_is_posture, is_index_ok, eMut, gAppend, gInsert, eRev, eIndex, eLenSet, gInt, gLen, gTuple, gList, gAbs, gMax2, gMin2, gDivmod, gEq_int, runFn, sSeq, sIf, sSet, sSetIx, sRet, sRetN, sNil, sDrop, sAsg, sFor, sPar, sNever, setO, retO, setOs, presc, eVar, eK, eTwo, v2, eFn, eDisp, eTup, eLst, eCall, eCallR, eCallK, pick, toSl, toSls, sIdx, wb, bk, esc, escs, vals, aNil, aCons, tb, Ev.tNot, Ev.tAnd, Ev.tOr, gGt, gLt, gGe, gLe, gSub, gMod, gDiv, gPow, gAdd, gMul, gInt, mulOk, g1, g2, fInt, fLen, fTuple, fList, fAbs, eAnd, eOr, eNot, eIf, eNeg, eIsi, gII, gIx, gIsN, gN, gT, gsNil, gsCons, isLent_eq, lentO, lentS_v, lentS_un, lentS_f, lentS_t, lentS_z, finE, okArg, Out.bind, Od.val, slVal, Bx.tr, Bx.t, isN, L2.ixN, L2.atI, isInt, isBool, isTuple, isList, isStr, isDict, isTL, Nat.zero_le, id_eq, eq_self, Pu.c0, Pu.c1, Pu.c2, Pu.c3, Pu.c4, Pu.c5, Pu.c6, Pu.c7, Pu.c8, Pu.c9, Pu.s1, Pu.s2, Pu.s3, Pu.s4, Pu.s5, Pu.s6, Pu.s7, Pu.s8, Pu.s9, Int.reduceEq, Nat.reduceMul, Int.ofNat_eq_natCast, wipeE, restE, exists_eq_left', Option.some.injEq, Out.ok.injEq, Prod.mk.injEq, Option.bind_some, Option.bind_none, Option.bind_eq_bind, List.getElem?_cons_zero, List.getElem?_cons_succ, List.getElem?_nil, List.set_cons_zero, List.set_cons_succ, List.set_nil, List.length_cons, List.length_nil, List.replicate_succ, List.replicate_zero, List.cons_append, List.nil_append, List.append_nil, List.all_cons, List.all_nil, Bool.and_true, Bool.true_and, Bool.and_false, Bool.false_and, if_true, if_false, ite_true, ite_false, List.nodup_cons, List.nodup_nil, List.not_mem_nil, List.mem_cons, not_false_eq_true, and_true, true_and, reduceIte, Nat.reduceAdd, Nat.reduceSub, Nat.reduceEqDiff, Nat.reduceLT, Nat.reduceLeDiff, Option.map_some, Option.map_none, Option.getD_some, reduceCtorEq, or_self, or_false, false_or, not_true_eq_false, decide_true, decide_false, Bool.not_true, Bool.not_false, Bool.false_eq_true, Nat.zero_add, Nat.add_zero, forall_const, Int.reduceLT, Int.reduceLE, Int.reduceNeg, Int.reduceToNat, Int.toNat_natCast, and_self, isPo, hx]
  | _ => rfl
theorem check_posture_ok (t : T) (h : isPo t = true) : m_check_posture [.v t] = .ok (.r .none) [.v t] := by
  simp only [m_check_posture, b_check_posture, is_posture_ok, h, eMut, gAppend, gInsert, eRev, eIndex, eLenSet, gInt, gLen, gTuple, gList, gAbs, gMax2, gMin2, gDivmod, gEq_int, runFn, sSeq, sIf, sSet, sSetIx, sRet, sRetN, sNil, sDrop, sAsg, sFor, sPar, sNever, setO, retO, setOs, presc, eVar, eK, eTwo, v2, eFn, eDisp, eTup, eLst, eCall, eCallR, eCallK, pick, toSl, toSls, sIdx, wb, bk, esc, escs, vals, aNil, aCons, tb, Ev.tNot, Ev.tAnd, Ev.tOr, gGt, gLt, gGe, gLe, gSub, gMod, gDiv, gPow, gAdd, gMul, gInt, mulOk, g1, g2, fInt, fLen, fTuple, fList, fAbs, eAnd, eOr, eNot, eIf, eNeg, eIsi, gII, gIx, gIsN, gN, gT, gsNil, gsCons, isLent_eq, lentO, lentS_v, lentS_un, lentS_f, lentS_t, lentS_z, finE, okArg, Out.bind, Od.val, slVal, Bx.tr, Bx.t, isN, L2.ixN, L2.atI, isInt, isBool, isTuple, isList, isStr, isDict, isTL, Nat.zero_le, id_eq, eq_self, Pu.c0, Pu.c1, Pu.c2, Pu.c3, Pu.c4, Pu.c5, Pu.c6, Pu.c7, Pu.c8, Pu.c9, Pu.s1, Pu.s2, Pu.s3, Pu.s4, Pu.s5, Pu.s6, Pu.s7, Pu.s8, Pu.s9, Int.reduceEq, Nat.reduceMul, Int.ofNat_eq_natCast, wipeE, restE, exists_eq_left', Option.some.injEq, Out.ok.injEq, Prod.mk.injEq, Option.bind_some, Option.bind_none, Option.bind_eq_bind, List.getElem?_cons_zero, List.getElem?_cons_succ, List.getElem?_nil, List.set_cons_zero, List.set_cons_succ, List.set_nil, List.length_cons, List.length_nil, List.replicate_succ, List.replicate_zero, List.cons_append, List.nil_append, List.append_nil, List.all_cons, List.all_nil, Bool.and_true, Bool.true_and, Bool.and_false, Bool.false_and, if_true, if_false, ite_true, ite_false, List.nodup_cons, List.nodup_nil, List.not_mem_nil, List.mem_cons, not_false_eq_true, and_true, true_and, reduceIte, Nat.reduceAdd, Nat.reduceSub, Nat.reduceEqDiff, Nat.reduceLT, Nat.reduceLeDiff, Option.map_some, Option.map_none, Option.getD_some, reduceCtorEq, or_self, or_false, false_or, not_true_eq_false, decide_true, decide_false, Bool.not_true, Bool.not_false, Bool.false_eq_true, Nat.zero_add, Nat.add_zero, forall_const, Int.reduceLT, Int.reduceLE, Int.reduceNeg, Int.reduceToNat, Int.toNat_natCast, and_self]
theorem turn_in (w x y : Int) (p c a b t : T) : (gN 7 t [.v (.int w), .v p, .v c, .v (.int x), .v (.int y), .v a, .v b, .un]) = some [.v (.int w), .v p, .v c, .v (.int x), .v (.int y), .v a, .v b, .v t] ∧ (∀ u, gN 7 t [.v (.int w), .v p, .v c, .v (.int x), .v (.int y), .v a, .v b, .v u] = some [.v (.int w), .v p, .v c, .v (.int x), .v (.int y), .v a, .v b, .v t]) ∧ y1_in_posture [.v (.int w), .v p, .v c, .v (.int x), .v (.int y), .v a, .v b, .v t] = .ok .nx [.v (.int w), .v p, .v c, .v (.int (w - 1 - y)), .v (.int x), .v a, .v b, .v t] := ⟨rfl, fun _ => rfl, by simp only [y1_in_posture, eMut, gAppend, gInsert, eRev, eIndex, eLenSet, gInt, gLen, gTuple, gList, gAbs, gMax2, gMin2, gDivmod, gEq_int, runFn, sSeq, sIf, sSet, sSetIx, sRet, sRetN, sNil, sDrop, sAsg, sFor, sPar, sNever, setO, retO, setOs, presc, eVar, eK, eTwo, v2, eFn, eDisp, eTup, eLst, eCall, eCallR, eCallK, pick, toSl, toSls, sIdx, wb, bk, esc, escs, vals, aNil, aCons, tb, Ev.tNot, Ev.tAnd, Ev.tOr, gGt, gLt, gGe, gLe, gSub, gMod, gDiv, gPow, gAdd, gMul, gInt, mulOk, g1, g2, fInt, fLen, fTuple, fList, fAbs, eAnd, eOr, eNot, eIf, eNeg, eIsi, gII, gIx, gIsN, gN, gT, gsNil, gsCons, isLent_eq, lentO, lentS_v, lentS_un, lentS_f, lentS_t, lentS_z, finE, okArg, Out.bind, Od.val, slVal, Bx.tr, Bx.t, isN, L2.ixN, L2.atI, isInt, isBool, isTuple, isList, isStr, isDict, isTL, Nat.zero_le, id_eq, eq_self, Pu.c0, Pu.c1, Pu.c2, Pu.c3, Pu.c4, Pu.c5, Pu.c6, Pu.c7, Pu.c8, Pu.c9, Pu.s1, Pu.s2, Pu.s3, Pu.s4, Pu.s5, Pu.s6, Pu.s7, Pu.s8, Pu.s9, Int.reduceEq, Nat.reduceMul, Int.ofNat_eq_natCast, wipeE, restE, exists_eq_left', Option.some.injEq, Out.ok.injEq, Prod.mk.injEq, Option.bind_some, Option.bind_none, Option.bind_eq_bind, List.getElem?_cons_zero, List.getElem?_cons_succ, List.getElem?_nil, List.set_cons_zero, List.set_cons_succ, List.set_nil, List.length_cons, List.length_nil, List.replicate_succ, List.replicate_zero, List.cons_append, List.nil_append, List.append_nil, List.all_cons, List.all_nil, Bool.and_true, Bool.true_and, Bool.and_false, Bool.false_and, if_true, if_false, ite_true, ite_false, List.nodup_cons, List.nodup_nil, List.not_mem_nil, List.mem_cons, not_false_eq_true, and_true, true_and, reduceIte, Nat.reduceAdd, Nat.reduceSub, Nat.reduceEqDiff, Nat.reduceLT, Nat.reduceLeDiff, Option.map_some, Option.map_none, Option.getD_some, reduceCtorEq, or_self, or_false, false_or, not_true_eq_false, decide_true, decide_false, Bool.not_true, Bool.not_false, Bool.false_eq_true, Nat.zero_add, Nat.add_zero, forall_const, Int.reduceLT, Int.reduceLE, Int.reduceNeg, Int.reduceToNat, Int.toNat_natCast, and_self]⟩
theorem in_posture_ok (w : Int) (way mir : Nat) (c : Int × Int) (h : way < 4) (h2 : mir < 2) : m_in_posture [.v (.int w), .v (poT way mir), .v (cT c)] = .ok (.r (cT (pz w way mir c))) [.v (.int w), .v (poT way mir), .v (cT c)] := by
  obtain ⟨x, y⟩ := c
  have hw : way = 0 ∨ way = 1 ∨ way = 2 ∨ way = 3 := by omega
  have hm : mir = 0 ∨ mir = 1 := by omega
  rcases hw with rfl | rfl | rfl | rfl <;> rcases hm with rfl | rfl <;>
    simp (config := {decide := true}) only [m_in_posture, b_in_posture, l1_in_posture, forS, turn_in, intsT_0, intsT_1, intsT_2, intsT_3, iR1, poT, cT, pz, pz1, eMut, gAppend, gInsert, eRev, eIndex, eLenSet, gInt, gLen, gTuple, gList, gAbs, gMax2, gMin2, gDivmod, gEq_int, runFn, sSeq, sIf, sSet, sSetIx, sRet, sRetN, sNil, sDrop, sAsg, sFor, sPar, sNever, setO, retO, setOs, presc, eVar, eK, eTwo, v2, eFn, eDisp, eTup, eLst, eCall, eCallR, eCallK, pick, toSl, toSls, sIdx, wb, bk, esc, escs, vals, aNil, aCons, tb, Ev.tNot, Ev.tAnd, Ev.tOr, gGt, gLt, gGe, gLe, gSub, gMod, gDiv, gPow, gAdd, gMul, gInt, mulOk, g1, g2, fInt, fLen, fTuple, fList, fAbs, eAnd, eOr, eNot, eIf, eNeg, eIsi, gII, gIx, gIsN, gN, gT, gsNil, gsCons, isLent_eq, lentO, lentS_v, lentS_un, lentS_f, lentS_t, lentS_z, finE, okArg, Out.bind, Od.val, slVal, Bx.tr, Bx.t, isN, L2.ixN, L2.atI, isInt, isBool, isTuple, isList, isStr, isDict, isTL, Nat.zero_le, id_eq, eq_self, Pu.c0, Pu.c1, Pu.c2, Pu.c3, Pu.c4, Pu.c5, Pu.c6, Pu.c7, Pu.c8, Pu.c9, Pu.s1, Pu.s2, Pu.s3, Pu.s4, Pu.s5, Pu.s6, Pu.s7, Pu.s8, Pu.s9, Int.reduceEq, Nat.reduceMul, Int.ofNat_eq_natCast, wipeE, restE, exists_eq_left', Option.some.injEq, Out.ok.injEq, Prod.mk.injEq, Option.bind_some, Option.bind_none, Option.bind_eq_bind, List.getElem?_cons_zero, List.getElem?_cons_succ, List.getElem?_nil, List.set_cons_zero, List.set_cons_succ, List.set_nil, List.length_cons, List.length_nil, List.replicate_succ, List.replicate_zero, List.cons_append, List.nil_append, List.append_nil, List.all_cons, List.all_nil, Bool.and_true, Bool.true_and, Bool.and_false, Bool.false_and, if_true, if_false, ite_true, ite_false, List.nodup_cons, List.nodup_nil, List.not_mem_nil, List.mem_cons, not_false_eq_true, and_true, true_and, reduceIte, Nat.reduceAdd, Nat.reduceSub, Nat.reduceEqDiff, Nat.reduceLT, Nat.reduceLeDiff, Option.map_some, Option.map_none, Option.getD_some, reduceCtorEq, or_self, or_false, false_or, not_true_eq_false, decide_true, decide_false, Bool.not_true, Bool.not_false, Bool.false_eq_true, Nat.zero_add, Nat.add_zero, forall_const, Int.reduceLT, Int.reduceLE, Int.reduceNeg, Int.reduceToNat, Int.toNat_natCast, and_self]
theorem pz_qz (w : Int) (way mir : Nat) (c : Int × Int) : pz w way mir c = qz w way mir c := rfl
theorem tparts_y (m : FSem) (b po q x y k c1 c2 : T) (acc : List T) (l7 l8 : Sl) (a7 : lentS l7 = false) (a8 : lentS l8 = false) (hc : acc.length < sizeLine) (h : m [.v b, .v po, .v (.tuple [x, y])] = .ok (.r (.tuple [c1, c2])) [.v b, .v po, .v (.tuple [x, y])]) : 
    (sSeq (sAsg (gT 2 (gsCons (gN 7) (gsCons (gN 8) gsNil))) (eCall 3 m (aCons (eVar 0) (aCons (eVar 1) (aCons (eTup (aCons (eVar 4) (aCons (eVar 5) aNil))) aNil))))) (sDrop (eMut 3 gAppend (aCons (eTup (aCons (eVar 7) (aCons (eVar 8) (aCons (eVar 6) aNil)))) aNil)))) [.v b, .v po, .v q, .ow false (.l acc), .v x, .v y, .v k, l7, l8] = .ok .nx [.v b, .v po, .v q, .ow false (.l (acc ++ [.tuple [c1, c2, k]])), .v x, .v y, .v k, .v c1, .v c2] := by
  simp only [h, a7, a8, hc, eMut, gAppend, gInsert, eRev, eIndex, eLenSet, gInt, gLen, gTuple, gList, gAbs, gMax2, gMin2, gDivmod, gEq_int, runFn, sSeq, sIf, sSet, sSetIx, sRet, sRetN, sNil, sDrop, sAsg, sFor, sPar, sNever, setO, retO, setOs, presc, eVar, eK, eTwo, v2, eFn, eDisp, eTup, eLst, eCall, eCallR, eCallK, pick, toSl, toSls, sIdx, wb, bk, esc, escs, vals, aNil, aCons, tb, Ev.tNot, Ev.tAnd, Ev.tOr, gGt, gLt, gGe, gLe, gSub, gMod, gDiv, gPow, gAdd, gMul, gInt, mulOk, g1, g2, fInt, fLen, fTuple, fList, fAbs, eAnd, eOr, eNot, eIf, eNeg, eIsi, gII, gIx, gIsN, gN, gT, gsNil, gsCons, isLent_eq, lentO, lentS_v, lentS_un, lentS_f, lentS_t, lentS_z, finE, okArg, Out.bind, Od.val, slVal, Bx.tr, Bx.t, isN, L2.ixN, L2.atI, isInt, isBool, isTuple, isList, isStr, isDict, isTL, Nat.zero_le, id_eq, eq_self, Pu.c0, Pu.c1, Pu.c2, Pu.c3, Pu.c4, Pu.c5, Pu.c6, Pu.c7, Pu.c8, Pu.c9, Pu.s1, Pu.s2, Pu.s3, Pu.s4, Pu.s5, Pu.s6, Pu.s7, Pu.s8, Pu.s9, Int.reduceEq, Nat.reduceMul, Int.ofNat_eq_natCast, wipeE, restE, exists_eq_left', Option.some.injEq, Out.ok.injEq, Prod.mk.injEq, Option.bind_some, Option.bind_none, Option.bind_eq_bind, List.getElem?_cons_zero, List.getElem?_cons_succ, List.getElem?_nil, List.set_cons_zero, List.set_cons_succ, List.set_nil, List.length_cons, List.length_nil, List.replicate_succ, List.replicate_zero, List.cons_append, List.nil_append, List.append_nil, List.all_cons, List.all_nil, Bool.and_true, Bool.true_and, Bool.and_false, Bool.false_and, if_true, if_false, ite_true, ite_false, List.nodup_cons, List.nodup_nil, List.not_mem_nil, List.mem_cons, not_false_eq_true, and_true, true_and, reduceIte, Nat.reduceAdd, Nat.reduceSub, Nat.reduceEqDiff, Nat.reduceLT, Nat.reduceLeDiff, Option.map_some, Option.map_none, Option.getD_some, reduceCtorEq, or_self, or_false, false_or, not_true_eq_false, decide_true, decide_false, Bool.not_true, Bool.not_false, Bool.false_eq_true, Nat.zero_add, Nat.add_zero, forall_const, Int.reduceLT, Int.reduceLE, Int.reduceNeg, Int.reduceToNat, Int.toNat_natCast, and_self]
theorem tparts_t (B : Nat) (way mir : Nat) (h1 : way < 4) (h2 : mir < 2) (q : T) (p : Pt) (acc : List T) (l4 l5 l6 l7 l8 : Sl) (a4 : lentS l4 = false) (a5 : lentS l5 = false) (a6 : lentS l6 = false) (a7 : lentS l7 = false) (a8 : lentS l8 = false) (hc : acc.length < sizeLine) :
    gT 3 (gsCons (gN 4) (gsCons (gN 5) (gsCons (gN 6) gsNil))) (ptT p) [.v (.int (B : Int)), .v (poT way mir), .v q, .ow false (.l acc), l4, l5, l6, l7, l8] = some [.v (.int (B : Int)), .v (poT way mir), .v q, .ow false (.l acc), .v (.int p.1), .v (.int p.2.1), .v (.int (p.2.2 : Int)), l7, l8] ∧
    y1__turned_parts [.v (.int (B : Int)), .v (poT way mir), .v q, .ow false (.l acc), .v (.int p.1), .v (.int p.2.1), .v (.int (p.2.2 : Int)), l7, l8] = .ok .nx [.v (.int (B : Int)), .v (poT way mir), .v q, .ow false (.l (acc ++ [ptT (tq B way mir p)])), .v (.int p.1), .v (.int p.2.1), .v (.int (p.2.2 : Int)), .v (.int (pz (B : Int) way mir (p.1, p.2.1)).1), .v (.int (pz (B : Int) way mir (p.1, p.2.1)).2)] := by
  have hp := in_posture_ok (B : Int) way mir (p.1, p.2.1) h1 h2
  refine ⟨?_, tparts_y m_in_posture _ _ _ _ _ _ _ _ acc l7 l8 a7 a8 hc hp⟩
  simp only [ptT, a4, a5, a6, eMut, gAppend, gInsert, eRev, eIndex, eLenSet, gInt, gLen, gTuple, gList, gAbs, gMax2, gMin2, gDivmod, gEq_int, runFn, sSeq, sIf, sSet, sSetIx, sRet, sRetN, sNil, sDrop, sAsg, sFor, sPar, sNever, setO, retO, setOs, presc, eVar, eK, eTwo, v2, eFn, eDisp, eTup, eLst, eCall, eCallR, eCallK, pick, toSl, toSls, sIdx, wb, bk, esc, escs, vals, aNil, aCons, tb, Ev.tNot, Ev.tAnd, Ev.tOr, gGt, gLt, gGe, gLe, gSub, gMod, gDiv, gPow, gAdd, gMul, gInt, mulOk, g1, g2, fInt, fLen, fTuple, fList, fAbs, eAnd, eOr, eNot, eIf, eNeg, eIsi, gII, gIx, gIsN, gN, gT, gsNil, gsCons, isLent_eq, lentO, lentS_v, lentS_un, lentS_f, lentS_t, lentS_z, finE, okArg, Out.bind, Od.val, slVal, Bx.tr, Bx.t, isN, L2.ixN, L2.atI, isInt, isBool, isTuple, isList, isStr, isDict, isTL, Nat.zero_le, id_eq, eq_self, Pu.c0, Pu.c1, Pu.c2, Pu.c3, Pu.c4, Pu.c5, Pu.c6, Pu.c7, Pu.c8, Pu.c9, Pu.s1, Pu.s2, Pu.s3, Pu.s4, Pu.s5, Pu.s6, Pu.s7, Pu.s8, Pu.s9, Int.reduceEq, Nat.reduceMul, Int.ofNat_eq_natCast, wipeE, restE, exists_eq_left', Option.some.injEq, Out.ok.injEq, Prod.mk.injEq, Option.bind_some, Option.bind_none, Option.bind_eq_bind, List.getElem?_cons_zero, List.getElem?_cons_succ, List.getElem?_nil, List.set_cons_zero, List.set_cons_succ, List.set_nil, List.length_cons, List.length_nil, List.replicate_succ, List.replicate_zero, List.cons_append, List.nil_append, List.append_nil, List.all_cons, List.all_nil, Bool.and_true, Bool.true_and, Bool.and_false, Bool.false_and, if_true, if_false, ite_true, ite_false, List.nodup_cons, List.nodup_nil, List.not_mem_nil, List.mem_cons, not_false_eq_true, and_true, true_and, reduceIte, Nat.reduceAdd, Nat.reduceSub, Nat.reduceEqDiff, Nat.reduceLT, Nat.reduceLeDiff, Option.map_some, Option.map_none, Option.getD_some, reduceCtorEq, or_self, or_false, false_or, not_true_eq_false, decide_true, decide_false, Bool.not_true, Bool.not_false, Bool.false_eq_true, Nat.zero_add, Nat.add_zero, forall_const, Int.reduceLT, Int.reduceLE, Int.reduceNeg, Int.reduceToNat, Int.toNat_natCast, and_self]
theorem tparts_l (B : Nat) (way mir : Nat) (h1 : way < 4) (h2 : mir < 2) (q : T) (ps : List Pt) (hl : ps.length ≤ sizeLine) :
    ∃ e', forS (gT 3 (gsCons (gN 4) (gsCons (gN 5) (gsCons (gN 6) gsNil)))) y1__turned_parts (ps.map ptT) [.v (.int (B : Int)), .v (poT way mir), .v q, .ow false (.l []), .un, .un, .un, .un, .un] = .ok .nx e' ∧
      ∃ l4 l5 l6 l7 l8, (lentS l4 = false ∧ lentS l5 = false ∧ lentS l6 = false ∧ lentS l7 = false ∧ lentS l8 = false) ∧ e' = [.v (.int (B : Int)), .v (poT way mir), .v q, .ow false (.l (ps.map fun p => ptT (tq B way mir p))), l4, l5, l6, l7, l8] :=
  for_on ptT (fun don e => ∃ l4 l5 l6 l7 l8, (lentS l4 = false ∧ lentS l5 = false ∧ lentS l6 = false ∧ lentS l7 = false ∧ lentS l8 = false) ∧ e = [.v (.int (B : Int)), .v (poT way mir), .v q, .ow false (.l (don.map fun p => ptT (tq B way mir p))), l4, l5, l6, l7, l8]) sizeLine ps [] _ ⟨_, _, _, _, _, ⟨rfl, rfl, rfl, rfl, rfl⟩, rfl⟩ (by simpa using hl) fun p _ don e hd ⟨l4, l5, l6, l7, l8, ⟨a4, a5, a6, a7, a8⟩, he⟩ => by
    subst he
    have t := tparts_t B way mir h1 h2 q p (don.map fun p => ptT (tq B way mir p)) l4 l5 l6 l7 l8 a4 a5 a6 a7 a8 (by rw [List.length_map]; exact hd)
    exact ⟨_, t.1, _, .inl t.2, _, _, _, _, _, ⟨rfl, rfl, rfl, rfl, rfl⟩, by rw [List.map_append, List.map_cons, List.map_nil]⟩
theorem turned_parts_ok (B : Nat) (way mir : Nat) (h1 : way < 4) (h2 : mir < 2) (ps : List Pt) (hl : ps.length ≤ sizeLine) : m__turned_parts [.v (.int (B : Int)), .v (poT way mir), .v (kT ps)] = .ok (.r (kT (ps.map (tq B way mir)))) [.v (.int (B : Int)), .v (poT way mir), .v (kT ps)] := by
  obtain ⟨e', h, l4, l5, l6, l7, l8, ⟨a4, a5, a6, a7, a8⟩, rfl⟩ := tparts_l B way mir h1 h2 (kT ps) ps hl
  simp only [kT] at h
  unfold m__turned_parts b__turned_parts l1__turned_parts
  generalize y1__turned_parts = y at h ⊢
  simp only [sFor, iOf, kT, h, List.map_map, Function.comp_def, eMut, gAppend, gInsert, eRev, eIndex, eLenSet, gInt, gLen, gTuple, gList, gAbs, gMax2, gMin2, gDivmod, gEq_int, runFn, sSeq, sIf, sSet, sSetIx, sRet, sRetN, sNil, sDrop, sAsg, sFor, sPar, sNever, setO, retO, setOs, presc, eVar, eK, eTwo, v2, eFn, eDisp, eTup, eLst, eCall, eCallR, eCallK, pick, toSl, toSls, sIdx, wb, bk, esc, escs, vals, aNil, aCons, tb, Ev.tNot, Ev.tAnd, Ev.tOr, gGt, gLt, gGe, gLe, gSub, gMod, gDiv, gPow, gAdd, gMul, gInt, mulOk, g1, g2, fInt, fLen, fTuple, fList, fAbs, eAnd, eOr, eNot, eIf, eNeg, eIsi, gII, gIx, gIsN, gN, gT, gsNil, gsCons, isLent_eq, lentO, lentS_v, lentS_un, lentS_f, lentS_t, lentS_z, finE, okArg, Out.bind, Od.val, slVal, Bx.tr, Bx.t, isN, L2.ixN, L2.atI, isInt, isBool, isTuple, isList, isStr, isDict, isTL, Nat.zero_le, id_eq, eq_self, Pu.c0, Pu.c1, Pu.c2, Pu.c3, Pu.c4, Pu.c5, Pu.c6, Pu.c7, Pu.c8, Pu.c9, Pu.s1, Pu.s2, Pu.s3, Pu.s4, Pu.s5, Pu.s6, Pu.s7, Pu.s8, Pu.s9, Int.reduceEq, Nat.reduceMul, Int.ofNat_eq_natCast, wipeE, restE, exists_eq_left', Option.some.injEq, Out.ok.injEq, Prod.mk.injEq, Option.bind_some, Option.bind_none, Option.bind_eq_bind, List.getElem?_cons_zero, List.getElem?_cons_succ, List.getElem?_nil, List.set_cons_zero, List.set_cons_succ, List.set_nil, List.length_cons, List.length_nil, List.replicate_succ, List.replicate_zero, List.cons_append, List.nil_append, List.append_nil, List.all_cons, List.all_nil, Bool.and_true, Bool.true_and, Bool.and_false, Bool.false_and, if_true, if_false, ite_true, ite_false, List.nodup_cons, List.nodup_nil, List.not_mem_nil, List.mem_cons, not_false_eq_true, and_true, true_and, reduceIte, Nat.reduceAdd, Nat.reduceSub, Nat.reduceEqDiff, Nat.reduceLT, Nat.reduceLeDiff, Option.map_some, Option.map_none, Option.getD_some, reduceCtorEq, or_self, or_false, false_or, not_true_eq_false, decide_true, decide_false, Bool.not_true, Bool.not_false, Bool.false_eq_true, Nat.zero_add, Nat.add_zero, forall_const, Int.reduceLT, Int.reduceLE, Int.reduceNeg, Int.reduceToNat, Int.toNat_natCast, and_self]
theorem turned_x (B : Nat) (way mir : Nat) (h1 : way < 4) (h2 : mir < 2) (t : T) (ks : List (List Pt)) (hl : ks.length ≤ sizeLine) (hk : ∀ ps ∈ ks, ps.length ≤ sizeLine) : x1_turned [.v t, .v (poT way mir), .v (.int (B : Int)), .v (.tuple (ks.map kT)), .un] = .ok (.b (.l (ks.map fun ps => kT (ps.map (tq B way mir))))) [.v t, .v (poT way mir), .v (.int (B : Int)), .v (.tuple (ks.map kT)), .un] := by
  refine comp_on kT (fun ps => kT (ps.map (tq B way mir))) ks [] _ (by simpa using hl) fun ps hp => ?_
  refine ⟨_, rfl, _, rfl, .r (kT (ps.map (tq B way mir))), [.v t, .v (poT way mir), .v (.int (B : Int)), .v (.tuple (ks.map kT)), .v (kT ps)], ?_, _, rfl, rfl⟩
  simp only [turned_parts_ok B way mir h1 h2 ps (hk ps hp), wipeE, eMut, gAppend, gInsert, eRev, eIndex, eLenSet, gInt, gLen, gTuple, gList, gAbs, gMax2, gMin2, gDivmod, gEq_int, runFn, sSeq, sIf, sSet, sSetIx, sRet, sRetN, sNil, sDrop, sAsg, sFor, sPar, sNever, setO, retO, setOs, presc, eVar, eK, eTwo, v2, eFn, eDisp, eTup, eLst, eCall, eCallR, eCallK, pick, toSl, toSls, sIdx, wb, bk, esc, escs, vals, aNil, aCons, tb, Ev.tNot, Ev.tAnd, Ev.tOr, gGt, gLt, gGe, gLe, gSub, gMod, gDiv, gPow, gAdd, gMul, gInt, mulOk, g1, g2, fInt, fLen, fTuple, fList, fAbs, eAnd, eOr, eNot, eIf, eNeg, eIsi, gII, gIx, gIsN, gN, gT, gsNil, gsCons, isLent_eq, lentO, lentS_v, lentS_un, lentS_f, lentS_t, lentS_z, finE, okArg, Out.bind, Od.val, slVal, Bx.tr, Bx.t, isN, L2.ixN, L2.atI, isInt, isBool, isTuple, isList, isStr, isDict, isTL, Nat.zero_le, id_eq, eq_self, Pu.c0, Pu.c1, Pu.c2, Pu.c3, Pu.c4, Pu.c5, Pu.c6, Pu.c7, Pu.c8, Pu.c9, Pu.s1, Pu.s2, Pu.s3, Pu.s4, Pu.s5, Pu.s6, Pu.s7, Pu.s8, Pu.s9, Int.reduceEq, Nat.reduceMul, Int.ofNat_eq_natCast, wipeE, restE, exists_eq_left', Option.some.injEq, Out.ok.injEq, Prod.mk.injEq, Option.bind_some, Option.bind_none, Option.bind_eq_bind, List.getElem?_cons_zero, List.getElem?_cons_succ, List.getElem?_nil, List.set_cons_zero, List.set_cons_succ, List.set_nil, List.length_cons, List.length_nil, List.replicate_succ, List.replicate_zero, List.cons_append, List.nil_append, List.append_nil, List.all_cons, List.all_nil, Bool.and_true, Bool.true_and, Bool.and_false, Bool.false_and, if_true, if_false, ite_true, ite_false, List.nodup_cons, List.nodup_nil, List.not_mem_nil, List.mem_cons, not_false_eq_true, and_true, true_and, reduceIte, Nat.reduceAdd, Nat.reduceSub, Nat.reduceEqDiff, Nat.reduceLT, Nat.reduceLeDiff, Option.map_some, Option.map_none, Option.getD_some, reduceCtorEq, or_self, or_false, false_or, not_true_eq_false, decide_true, decide_false, Bool.not_true, Bool.not_false, Bool.false_eq_true, Nat.zero_add, Nat.add_zero, forall_const, Int.reduceLT, Int.reduceLE, Int.reduceNeg, Int.reduceToNat, Int.toNat_natCast, and_self]
theorem fewK_bk (B : Nat) (ks : List (List Pt)) (hl : ks.length ≤ sizeLine) : fewK (bkT B ks) = true := by
  simp only [fewK, bkT, List.length_map]; exact decide_eq_true hl
theorem isPo_po (way mir : Nat) (h1 : way < 4) (h2 : mir < 2) : isPo (poT way mir) = true := by
  simp only [isPo, poT, isI, Bool.and_eq_true, decide_eq_true_eq]; omega
theorem turned_ok (B : Nat) (way mir : Nat) (h1 : way < 4) (h2 : mir < 2) (ks : List (List Pt)) (hl : ks.length ≤ sizeLine) (hk : ∀ ps ∈ ks, ps.length ≤ sizeLine) (hb : isBk (bkT B ks) = true) :
    m_turned [.v (bkT B ks), .v (poT way mir)] = .ok (.r (bkT B (tqK B way mir ks))) [.v (bkT B ks), .v (poT way mir)] := by
  have c1 := check_book_ok _ (fewK_bk B ks hl) hb
  have c2 := check_posture_ok _ (isPo_po way mir h1 h2)
  have x := turned_x B way mir h1 h2 (bkT B ks) ks hl hk
  simp only [bkT] at c1 x
  simp only [m_turned, b_turned, c1, c2, x, bkT, tqK, List.map_map, Function.comp_def, eMut, gAppend, gInsert, eRev, eIndex, eLenSet, gInt, gLen, gTuple, gList, gAbs, gMax2, gMin2, gDivmod, gEq_int, runFn, sSeq, sIf, sSet, sSetIx, sRet, sRetN, sNil, sDrop, sAsg, sFor, sPar, sNever, setO, retO, setOs, presc, eVar, eK, eTwo, v2, eFn, eDisp, eTup, eLst, eCall, eCallR, eCallK, pick, toSl, toSls, sIdx, wb, bk, esc, escs, vals, aNil, aCons, tb, Ev.tNot, Ev.tAnd, Ev.tOr, gGt, gLt, gGe, gLe, gSub, gMod, gDiv, gPow, gAdd, gMul, gInt, mulOk, g1, g2, fInt, fLen, fTuple, fList, fAbs, eAnd, eOr, eNot, eIf, eNeg, eIsi, gII, gIx, gIsN, gN, gT, gsNil, gsCons, isLent_eq, lentO, lentS_v, lentS_un, lentS_f, lentS_t, lentS_z, finE, okArg, Out.bind, Od.val, slVal, Bx.tr, Bx.t, isN, L2.ixN, L2.atI, isInt, isBool, isTuple, isList, isStr, isDict, isTL, Nat.zero_le, id_eq, eq_self, Pu.c0, Pu.c1, Pu.c2, Pu.c3, Pu.c4, Pu.c5, Pu.c6, Pu.c7, Pu.c8, Pu.c9, Pu.s1, Pu.s2, Pu.s3, Pu.s4, Pu.s5, Pu.s6, Pu.s7, Pu.s8, Pu.s9, Int.reduceEq, Nat.reduceMul, Int.ofNat_eq_natCast, wipeE, restE, exists_eq_left', Option.some.injEq, Out.ok.injEq, Prod.mk.injEq, Option.bind_some, Option.bind_none, Option.bind_eq_bind, List.getElem?_cons_zero, List.getElem?_cons_succ, List.getElem?_nil, List.set_cons_zero, List.set_cons_succ, List.set_nil, List.length_cons, List.length_nil, List.replicate_succ, List.replicate_zero, List.cons_append, List.nil_append, List.append_nil, List.all_cons, List.all_nil, Bool.and_true, Bool.true_and, Bool.and_false, Bool.false_and, if_true, if_false, ite_true, ite_false, List.nodup_cons, List.nodup_nil, List.not_mem_nil, List.mem_cons, not_false_eq_true, and_true, true_and, reduceIte, Nat.reduceAdd, Nat.reduceSub, Nat.reduceEqDiff, Nat.reduceLT, Nat.reduceLeDiff, Option.map_some, Option.map_none, Option.getD_some, reduceCtorEq, or_self, or_false, false_or, not_true_eq_false, decide_true, decide_false, Bool.not_true, Bool.not_false, Bool.false_eq_true, Nat.zero_add, Nat.add_zero, forall_const, Int.reduceLT, Int.reduceLE, Int.reduceNeg, Int.reduceToNat, Int.toNat_natCast, and_self]
theorem backward_ok (B : Nat) (ks : List (List Pt)) (hl : ks.length ≤ sizeLine) (hb : isBk (bkT B ks) = true) :
    m_backward [.v (bkT B ks)] = .ok (.r (bkT B (ks.map List.reverse))) [.v (bkT B ks)] := by
  have c1 := check_book_ok _ (fewK_bk B ks hl) hb
  have x : x1_backward [.v (bkT B ks), .v (.int (B : Int)), .v (.tuple (ks.map kT)), .un] = .ok (.b (.l (ks.map fun ps => kT ps.reverse))) [.v (bkT B ks), .v (.int (B : Int)), .v (.tuple (ks.map kT)), .un] := by
    refine comp_on kT (fun ps => kT ps.reverse) ks [] _ (by simpa using hl) fun ps hp => ?_
    refine ⟨_, rfl, _, rfl, .r (kT ps.reverse), [.v (bkT B ks), .v (.int (B : Int)), .v (.tuple (ks.map kT)), .v (kT ps)], ?_, _, rfl, rfl⟩
    simp only [kT, List.map_reverse, wipeE, eMut, gAppend, gInsert, eRev, eIndex, eLenSet, gInt, gLen, gTuple, gList, gAbs, gMax2, gMin2, gDivmod, gEq_int, runFn, sSeq, sIf, sSet, sSetIx, sRet, sRetN, sNil, sDrop, sAsg, sFor, sPar, sNever, setO, retO, setOs, presc, eVar, eK, eTwo, v2, eFn, eDisp, eTup, eLst, eCall, eCallR, eCallK, pick, toSl, toSls, sIdx, wb, bk, esc, escs, vals, aNil, aCons, tb, Ev.tNot, Ev.tAnd, Ev.tOr, gGt, gLt, gGe, gLe, gSub, gMod, gDiv, gPow, gAdd, gMul, gInt, mulOk, g1, g2, fInt, fLen, fTuple, fList, fAbs, eAnd, eOr, eNot, eIf, eNeg, eIsi, gII, gIx, gIsN, gN, gT, gsNil, gsCons, isLent_eq, lentO, lentS_v, lentS_un, lentS_f, lentS_t, lentS_z, finE, okArg, Out.bind, Od.val, slVal, Bx.tr, Bx.t, isN, L2.ixN, L2.atI, isInt, isBool, isTuple, isList, isStr, isDict, isTL, Nat.zero_le, id_eq, eq_self, Pu.c0, Pu.c1, Pu.c2, Pu.c3, Pu.c4, Pu.c5, Pu.c6, Pu.c7, Pu.c8, Pu.c9, Pu.s1, Pu.s2, Pu.s3, Pu.s4, Pu.s5, Pu.s6, Pu.s7, Pu.s8, Pu.s9, Int.reduceEq, Nat.reduceMul, Int.ofNat_eq_natCast, wipeE, restE, exists_eq_left', Option.some.injEq, Out.ok.injEq, Prod.mk.injEq, Option.bind_some, Option.bind_none, Option.bind_eq_bind, List.getElem?_cons_zero, List.getElem?_cons_succ, List.getElem?_nil, List.set_cons_zero, List.set_cons_succ, List.set_nil, List.length_cons, List.length_nil, List.replicate_succ, List.replicate_zero, List.cons_append, List.nil_append, List.append_nil, List.all_cons, List.all_nil, Bool.and_true, Bool.true_and, Bool.and_false, Bool.false_and, if_true, if_false, ite_true, ite_false, List.nodup_cons, List.nodup_nil, List.not_mem_nil, List.mem_cons, not_false_eq_true, and_true, true_and, reduceIte, Nat.reduceAdd, Nat.reduceSub, Nat.reduceEqDiff, Nat.reduceLT, Nat.reduceLeDiff, Option.map_some, Option.map_none, Option.getD_some, reduceCtorEq, or_self, or_false, false_or, not_true_eq_false, decide_true, decide_false, Bool.not_true, Bool.not_false, Bool.false_eq_true, Nat.zero_add, Nat.add_zero, forall_const, Int.reduceLT, Int.reduceLE, Int.reduceNeg, Int.reduceToNat, Int.toNat_natCast, and_self]
  simp only [bkT] at c1 x
  simp only [m_backward, b_backward, c1, x, bkT, List.map_map, Function.comp_def, eMut, gAppend, gInsert, eRev, eIndex, eLenSet, gInt, gLen, gTuple, gList, gAbs, gMax2, gMin2, gDivmod, gEq_int, runFn, sSeq, sIf, sSet, sSetIx, sRet, sRetN, sNil, sDrop, sAsg, sFor, sPar, sNever, setO, retO, setOs, presc, eVar, eK, eTwo, v2, eFn, eDisp, eTup, eLst, eCall, eCallR, eCallK, pick, toSl, toSls, sIdx, wb, bk, esc, escs, vals, aNil, aCons, tb, Ev.tNot, Ev.tAnd, Ev.tOr, gGt, gLt, gGe, gLe, gSub, gMod, gDiv, gPow, gAdd, gMul, gInt, mulOk, g1, g2, fInt, fLen, fTuple, fList, fAbs, eAnd, eOr, eNot, eIf, eNeg, eIsi, gII, gIx, gIsN, gN, gT, gsNil, gsCons, isLent_eq, lentO, lentS_v, lentS_un, lentS_f, lentS_t, lentS_z, finE, okArg, Out.bind, Od.val, slVal, Bx.tr, Bx.t, isN, L2.ixN, L2.atI, isInt, isBool, isTuple, isList, isStr, isDict, isTL, Nat.zero_le, id_eq, eq_self, Pu.c0, Pu.c1, Pu.c2, Pu.c3, Pu.c4, Pu.c5, Pu.c6, Pu.c7, Pu.c8, Pu.c9, Pu.s1, Pu.s2, Pu.s3, Pu.s4, Pu.s5, Pu.s6, Pu.s7, Pu.s8, Pu.s9, Int.reduceEq, Nat.reduceMul, Int.ofNat_eq_natCast, wipeE, restE, exists_eq_left', Option.some.injEq, Out.ok.injEq, Prod.mk.injEq, Option.bind_some, Option.bind_none, Option.bind_eq_bind, List.getElem?_cons_zero, List.getElem?_cons_succ, List.getElem?_nil, List.set_cons_zero, List.set_cons_succ, List.set_nil, List.length_cons, List.length_nil, List.replicate_succ, List.replicate_zero, List.cons_append, List.nil_append, List.append_nil, List.all_cons, List.all_nil, Bool.and_true, Bool.true_and, Bool.and_false, Bool.false_and, if_true, if_false, ite_true, ite_false, List.nodup_cons, List.nodup_nil, List.not_mem_nil, List.mem_cons, not_false_eq_true, and_true, true_and, reduceIte, Nat.reduceAdd, Nat.reduceSub, Nat.reduceEqDiff, Nat.reduceLT, Nat.reduceLeDiff, Option.map_some, Option.map_none, Option.getD_some, reduceCtorEq, or_self, or_false, false_or, not_true_eq_false, decide_true, decide_false, Bool.not_true, Bool.not_false, Bool.false_eq_true, Nat.zero_add, Nat.add_zero, forall_const, Int.reduceLT, Int.reduceLE, Int.reduceNeg, Int.reduceToNat, Int.toNat_natCast, and_self]
end Lw

set_option linter.all false
set_option maxRecDepth 100000
set_option maxHeartbeats 8000000
namespace Lw
open PySem PySem.Spec Ev Pu Mt
/-! ### what the law makes of a book -/
theorem lu_e (m : FSem) (t0 po b kds u1 u2 x y k : T) (s4 s5 : Sl) (h : m [.v b, .v (.tuple [x, y]), .v po] = .ok (.r (.tuple [u1, u2])) [.v b, .v (.tuple [x, y]), .v po]) :
    (eOp2 gAdd (eCall 3 m (aCons (eVar 2) (aCons (eTup (aCons (eVar 6) (aCons (eVar 7) aNil))) (aCons (eVar 1) aNil)))) (eTup (aCons (eVar 8) aNil))) [.v t0, .v po, .v b, .v kds, s4, s5, .v x, .v y, .v k] = .ok (.r (.tuple [u1, u2, k])) [.v t0, .v po, .v b, .v kds, s4, s5, .v x, .v y, .v k] := by
  simp only [h, eMut, gAppend, gInsert, eRev, eIndex, eLenSet, gInt, gLen, gTuple, gList, gAbs, gMax2, gMin2, gDivmod, gEq_int, runFn, sSeq, sIf, sSet, sSetIx, sRet, sRetN, sNil, sDrop, sAsg, sFor, sPar, sNever, setO, retO, setOs, presc, eVar, eK, eTwo, v2, eFn, eDisp, eTup, eLst, eCall, eCallR, eCallK, pick, toSl, toSls, sIdx, wb, bk, esc, escs, vals, aNil, aCons, tb, Ev.tNot, Ev.tAnd, Ev.tOr, gGt, gLt, gGe, gLe, gSub, gMod, gDiv, gPow, gAdd, gMul, gInt, mulOk, g1, g2, fInt, fLen, fTuple, fList, fAbs, eAnd, eOr, eNot, eIf, eNeg, eIsi, gII, gIx, gIsN, gN, gT, gsNil, gsCons, isLent_eq, lentO, lentS_v, lentS_un, lentS_f, lentS_t, lentS_z, finE, okArg, Out.bind, Od.val, slVal, Bx.tr, Bx.t, isN, L2.ixN, L2.atI, isInt, isBool, isTuple, isList, isStr, isDict, isTL, Nat.zero_le, id_eq, eq_self, Pu.c0, Pu.c1, Pu.c2, Pu.c3, Pu.c4, Pu.c5, Pu.c6, Pu.c7, Pu.c8, Pu.c9, Pu.s1, Pu.s2, Pu.s3, Pu.s4, Pu.s5, Pu.s6, Pu.s7, Pu.s8, Pu.s9, Int.reduceEq, Nat.reduceMul, Int.ofNat_eq_natCast, wipeE, restE, exists_eq_left', Option.some.injEq, Out.ok.injEq, Prod.mk.injEq, Option.bind_some, Option.bind_none, Option.bind_eq_bind, List.getElem?_cons_zero, List.getElem?_cons_succ, List.getElem?_nil, List.set_cons_zero, List.set_cons_succ, List.set_nil, List.length_cons, List.length_nil, List.replicate_succ, List.replicate_zero, List.cons_append, List.nil_append, List.append_nil, List.all_cons, List.all_nil, Bool.and_true, Bool.true_and, Bool.and_false, Bool.false_and, if_true, if_false, ite_true, ite_false, List.nodup_cons, List.nodup_nil, List.not_mem_nil, List.mem_cons, not_false_eq_true, and_true, true_and, reduceIte, Nat.reduceAdd, Nat.reduceSub, Nat.reduceEqDiff, Nat.reduceLT, Nat.reduceLeDiff, Option.map_some, Option.map_none, Option.getD_some, reduceCtorEq, or_self, or_false, false_or, not_true_eq_false, decide_true, decide_false, Bool.not_true, Bool.not_false, Bool.false_eq_true, Nat.zero_add, Nat.add_zero, forall_const, Int.reduceLT, Int.reduceLE, Int.reduceNeg, Int.reduceToNat, Int.toNat_natCast, and_self]
theorem lu_g (p : Pt) (s0 s1 s2 s3 s4 s5 : Sl) : gT 3 (gsCons (gN 6) (gsCons (gN 7) (gsCons (gN 8) gsNil))) (ptT p) [s0, s1, s2, s3, s4, s5, .un, .un, .un] = some [s0, s1, s2, s3, s4, s5, .v (.int p.1), .v (.int p.2.1), .v (.int (p.2.2 : Int))] := by
  simp only [ptT, eMut, gAppend, gInsert, eRev, eIndex, eLenSet, gInt, gLen, gTuple, gList, gAbs, gMax2, gMin2, gDivmod, gEq_int, runFn, sSeq, sIf, sSet, sSetIx, sRet, sRetN, sNil, sDrop, sAsg, sFor, sPar, sNever, setO, retO, setOs, presc, eVar, eK, eTwo, v2, eFn, eDisp, eTup, eLst, eCall, eCallR, eCallK, pick, toSl, toSls, sIdx, wb, bk, esc, escs, vals, aNil, aCons, tb, Ev.tNot, Ev.tAnd, Ev.tOr, gGt, gLt, gGe, gLe, gSub, gMod, gDiv, gPow, gAdd, gMul, gInt, mulOk, g1, g2, fInt, fLen, fTuple, fList, fAbs, eAnd, eOr, eNot, eIf, eNeg, eIsi, gII, gIx, gIsN, gN, gT, gsNil, gsCons, isLent_eq, lentO, lentS_v, lentS_un, lentS_f, lentS_t, lentS_z, finE, okArg, Out.bind, Od.val, slVal, Bx.tr, Bx.t, isN, L2.ixN, L2.atI, isInt, isBool, isTuple, isList, isStr, isDict, isTL, Nat.zero_le, id_eq, eq_self, Pu.c0, Pu.c1, Pu.c2, Pu.c3, Pu.c4, Pu.c5, Pu.c6, Pu.c7, Pu.c8, Pu.c9, Pu.s1, Pu.s2, Pu.s3, Pu.s4, Pu.s5, Pu.s6, Pu.s7, Pu.s8, Pu.s9, Int.reduceEq, Nat.reduceMul, Int.ofNat_eq_natCast, wipeE, restE, exists_eq_left', Option.some.injEq, Out.ok.injEq, Prod.mk.injEq, Option.bind_some, Option.bind_none, Option.bind_eq_bind, List.getElem?_cons_zero, List.getElem?_cons_succ, List.getElem?_nil, List.set_cons_zero, List.set_cons_succ, List.set_nil, List.length_cons, List.length_nil, List.replicate_succ, List.replicate_zero, List.cons_append, List.nil_append, List.append_nil, List.all_cons, List.all_nil, Bool.and_true, Bool.true_and, Bool.and_false, Bool.false_and, if_true, if_false, ite_true, ite_false, List.nodup_cons, List.nodup_nil, List.not_mem_nil, List.mem_cons, not_false_eq_true, and_true, true_and, reduceIte, Nat.reduceAdd, Nat.reduceSub, Nat.reduceEqDiff, Nat.reduceLT, Nat.reduceLeDiff, Option.map_some, Option.map_none, Option.getD_some, reduceCtorEq, or_self, or_false, false_or, not_true_eq_false, decide_true, decide_false, Bool.not_true, Bool.not_false, Bool.false_eq_true, Nat.zero_add, Nat.add_zero, forall_const, Int.reduceLT, Int.reduceLE, Int.reduceNeg, Int.reduceToNat, Int.toNat_natCast, and_self]
theorem lu_x (B w m : Nat) (h1 : w < 4) (h2 : m < 2) (ps : List Pt) (hl : ps.length ≤ 100) (t0 kds : T) (s4 : Sl) :
    x1__law_turned [.v t0, .v (poT w m), .v (nT B), .v kds, s4, .v (kT ps), .un, .un, .un] = .ok (.b (.l (ps.map fun p => ptT (tq B w m p)))) [.v t0, .v (poT w m), .v (nT B), .v kds, s4, .v (kT ps), .un, .un, .un] := by
  have hi : iOf (eVar 5) [.v t0, .v (poT w m), .v (nT B), .v kds, s4, .v (kT ps), .un, .un, .un] = .ok (ps.map ptT) [.v t0, .v (poT w m), .v (nT B), .v kds, s4, .v (kT ps), .un, .un, .un] := rfl
  unfold x1__law_turned
  rw [comp_eq hi]
  refine comp_on ptT (fun p => ptT (tq B w m p)) ps [] _ (by rw [List.length_nil]; unfold sizeLine; omega) fun p hp => ?_
  exact ⟨_, lu_g p _ _ _ _ _ _, _, rfl, _, _, lu_e m__law_posed t0 (poT w m) (nT B) kds _ _ (.int p.1) (.int p.2.1) (.int (p.2.2 : Int)) s4 (.v (kT ps)) (law_posed_ok (B : Int) w m (p.1, p.2.1) h1 h2), _, rfl, rfl⟩
theorem lu_y (x : SemE) (acc us : List T) (s0 s1 s2 s3 : Sl) (t5 : T) (hs : acc.length < sizeLine) (h : x [s0, s1, s2, s3, .ow false (.l acc), .v t5, .un, .un, .un] = .ok (.b (.l us)) [s0, s1, s2, s3, .ow false (.l acc), .v t5, .un, .un, .un]) :
    (sDrop (eMut 4 gAppend (aCons (eFn gTuple (aCons x aNil)) aNil))) [s0, s1, s2, s3, .ow false (.l acc), .v t5, .un, .un, .un] = .ok .nx [s0, s1, s2, s3, .ow false (.l (acc ++ [.tuple us])), .v t5, .un, .un, .un] := by
  simp only [h, hs, eMut, gAppend, gInsert, eRev, eIndex, eLenSet, gInt, gLen, gTuple, gList, gAbs, gMax2, gMin2, gDivmod, gEq_int, runFn, sSeq, sIf, sSet, sSetIx, sRet, sRetN, sNil, sDrop, sAsg, sFor, sPar, sNever, setO, retO, setOs, presc, eVar, eK, eTwo, v2, eFn, eDisp, eTup, eLst, eCall, eCallR, eCallK, pick, toSl, toSls, sIdx, wb, bk, esc, escs, vals, aNil, aCons, tb, Ev.tNot, Ev.tAnd, Ev.tOr, gGt, gLt, gGe, gLe, gSub, gMod, gDiv, gPow, gAdd, gMul, gInt, mulOk, g1, g2, fInt, fLen, fTuple, fList, fAbs, eAnd, eOr, eNot, eIf, eNeg, eIsi, gII, gIx, gIsN, gN, gT, gsNil, gsCons, isLent_eq, lentO, lentS_v, lentS_un, lentS_f, lentS_t, lentS_z, finE, okArg, Out.bind, Od.val, slVal, Bx.tr, Bx.t, isN, L2.ixN, L2.atI, isInt, isBool, isTuple, isList, isStr, isDict, isTL, Nat.zero_le, id_eq, eq_self, Pu.c0, Pu.c1, Pu.c2, Pu.c3, Pu.c4, Pu.c5, Pu.c6, Pu.c7, Pu.c8, Pu.c9, Pu.s1, Pu.s2, Pu.s3, Pu.s4, Pu.s5, Pu.s6, Pu.s7, Pu.s8, Pu.s9, Int.reduceEq, Nat.reduceMul, Int.ofNat_eq_natCast, wipeE, restE, exists_eq_left', Option.some.injEq, Out.ok.injEq, Prod.mk.injEq, Option.bind_some, Option.bind_none, Option.bind_eq_bind, List.getElem?_cons_zero, List.getElem?_cons_succ, List.getElem?_nil, List.set_cons_zero, List.set_cons_succ, List.set_nil, List.length_cons, List.length_nil, List.replicate_succ, List.replicate_zero, List.cons_append, List.nil_append, List.append_nil, List.all_cons, List.all_nil, Bool.and_true, Bool.true_and, Bool.and_false, Bool.false_and, if_true, if_false, ite_true, ite_false, List.nodup_cons, List.nodup_nil, List.not_mem_nil, List.mem_cons, not_false_eq_true, and_true, true_and, reduceIte, Nat.reduceAdd, Nat.reduceSub, Nat.reduceEqDiff, Nat.reduceLT, Nat.reduceLeDiff, Option.map_some, Option.map_none, Option.getD_some, reduceCtorEq, or_self, or_false, false_or, not_true_eq_false, decide_true, decide_false, Bool.not_true, Bool.not_false, Bool.false_eq_true, Nat.zero_add, Nat.add_zero, forall_const, Int.reduceLT, Int.reduceLE, Int.reduceNeg, Int.reduceToNat, Int.toNat_natCast, and_self]
theorem lu_st (y : SemS) (t0 t1 b kds : T) (us : List T) (l5 l6 l7 l8 : Sl) (h0 : t0 = .tuple [b, kds]) (h : y [.v t0, .v t1, .v b, .v kds, .ow false (.l []), .un, .un, .un, .un] = .ok .nx [.v t0, .v t1, .v b, .v kds, .ow false (.l us), l5, l6, l7, l8]) :
    runFn 9 ((sSeq (sAsg (gT 2 (gsCons (gN 2) (gsCons (gN 3) gsNil))) (eVar 0)) (sSeq (sSet 4 (eLst aNil)) (sSeq y (sRet (eTup (aCons (eVar 2) (aCons (eFn gTuple (aCons (eVar 4) aNil)) aNil)))))))) [.v t0, .v t1] = .ok (.r (.tuple [b, .tuple us])) [.v t0, .v t1] := by
  subst h0
  simp only [h, eMut, gAppend, gInsert, eRev, eIndex, eLenSet, gInt, gLen, gTuple, gList, gAbs, gMax2, gMin2, gDivmod, gEq_int, runFn, sSeq, sIf, sSet, sSetIx, sRet, sRetN, sNil, sDrop, sAsg, sFor, sPar, sNever, setO, retO, setOs, presc, eVar, eK, eTwo, v2, eFn, eDisp, eTup, eLst, eCall, eCallR, eCallK, pick, toSl, toSls, sIdx, wb, bk, esc, escs, vals, aNil, aCons, tb, Ev.tNot, Ev.tAnd, Ev.tOr, gGt, gLt, gGe, gLe, gSub, gMod, gDiv, gPow, gAdd, gMul, gInt, mulOk, g1, g2, fInt, fLen, fTuple, fList, fAbs, eAnd, eOr, eNot, eIf, eNeg, eIsi, gII, gIx, gIsN, gN, gT, gsNil, gsCons, isLent_eq, lentO, lentS_v, lentS_un, lentS_f, lentS_t, lentS_z, finE, okArg, Out.bind, Od.val, slVal, Bx.tr, Bx.t, isN, L2.ixN, L2.atI, isInt, isBool, isTuple, isList, isStr, isDict, isTL, Nat.zero_le, id_eq, eq_self, Pu.c0, Pu.c1, Pu.c2, Pu.c3, Pu.c4, Pu.c5, Pu.c6, Pu.c7, Pu.c8, Pu.c9, Pu.s1, Pu.s2, Pu.s3, Pu.s4, Pu.s5, Pu.s6, Pu.s7, Pu.s8, Pu.s9, Int.reduceEq, Nat.reduceMul, Int.ofNat_eq_natCast, wipeE, restE, exists_eq_left', Option.some.injEq, Out.ok.injEq, Prod.mk.injEq, Option.bind_some, Option.bind_none, Option.bind_eq_bind, List.getElem?_cons_zero, List.getElem?_cons_succ, List.getElem?_nil, List.set_cons_zero, List.set_cons_succ, List.set_nil, List.length_cons, List.length_nil, List.replicate_succ, List.replicate_zero, List.cons_append, List.nil_append, List.append_nil, List.all_cons, List.all_nil, Bool.and_true, Bool.true_and, Bool.and_false, Bool.false_and, if_true, if_false, ite_true, ite_false, List.nodup_cons, List.nodup_nil, List.not_mem_nil, List.mem_cons, not_false_eq_true, and_true, true_and, reduceIte, Nat.reduceAdd, Nat.reduceSub, Nat.reduceEqDiff, Nat.reduceLT, Nat.reduceLeDiff, Option.map_some, Option.map_none, Option.getD_some, reduceCtorEq, or_self, or_false, false_or, not_true_eq_false, decide_true, decide_false, Bool.not_true, Bool.not_false, Bool.false_eq_true, Nat.zero_add, Nat.add_zero, forall_const, Int.reduceLT, Int.reduceLE, Int.reduceNeg, Int.reduceToNat, Int.toNat_natCast, and_self]
theorem law_turned_ok {B : Nat} {ks : List (List Pt)} (g : Good B ks) (w m : Nat) (h1 : w < 4) (h2 : m < 2) : m__law_turned [.v (bkT B ks), .v (poT w m)] = .ok (.r (bkT B (tqK B w m ks))) [.v (bkT B ks), .v (poT w m)] := by
  have hf := g.few
  have hB : B * B ≤ 9 := by rcases g.hb with h | h <;> subst h <;> decide
  have hi : iOf (eVar 3) [.v (bkT B ks), .v (poT w m), .v (nT B), .v (.tuple (ks.map kT)), .ow false (.l []), .un, .un, .un, .un] = .ok (ks.map kT) [.v (bkT B ks), .v (poT w m), .v (nT B), .v (.tuple (ks.map kT)), .ow false (.l []), .un, .un, .un, .un] := rfl
  obtain ⟨e', h, l5, a5, rfl⟩ := for_on (g := gN 5) (b := y1__law_turned) kT (fun don e => ∃ l5, lentS l5 = false ∧ e = [.v (bkT B ks), .v (poT w m), .v (nT B), .v (.tuple (ks.map kT)), .ow false (.l (don.map fun ps => kT (ps.map (tq B w m)))), l5, .un, .un, .un]) 20 ks [] [.v (bkT B ks), .v (poT w m), .v (nT B), .v (.tuple (ks.map kT)), .ow false (.l []), .un, .un, .un, .un] ⟨_, rfl, rfl⟩ (by rw [List.length_nil]; omega) fun ps hps don e hdn ⟨l5, a5, he⟩ => by
    subst he
    have hx := lu_x B w m h1 h2 ps (by rw [g.len ps hps]; omega) (bkT B ks) (.tuple (ks.map kT)) (.ow false (.l (don.map fun ps => kT (ps.map (tq B w m)))))
    have st : y1__law_turned [.v (bkT B ks), .v (poT w m), .v (nT B), .v (.tuple (ks.map kT)), .ow false (.l (don.map fun ps => kT (ps.map (tq B w m)))), .v (kT ps), .un, .un, .un] = .ok .nx [.v (bkT B ks), .v (poT w m), .v (nT B), .v (.tuple (ks.map kT)), .ow false (.l ((don ++ [ps]).map fun ps => kT (ps.map (tq B w m)))), .v (kT ps), .un, .un, .un] := by
      rw [List.map_append, show ([ps].map fun ps => kT (ps.map (tq B w m))) = [PyData.tuple (ps.map fun p => ptT (tq B w m p))] by simp only [List.map_cons, List.map_nil, kT, List.map_map]; rfl]
      exact lu_y x1__law_turned (don.map fun ps => kT (ps.map (tq B w m))) _ (.v (bkT B ks)) (.v (poT w m)) (.v (nT B)) (.v (.tuple (ks.map kT))) (kT ps) (by rw [List.length_map]; unfold sizeLine; omega) hx
    exact ⟨[.v (bkT B ks), .v (poT w m), .v (nT B), .v (.tuple (ks.map kT)), .ow false (.l (don.map fun ps => kT (ps.map (tq B w m)))), .v (kT ps), .un, .un, .un], by simp only [a5, eMut, gAppend, gInsert, eRev, eIndex, eLenSet, gInt, gLen, gTuple, gList, gAbs, gMax2, gMin2, gDivmod, gEq_int, runFn, sSeq, sIf, sSet, sSetIx, sRet, sRetN, sNil, sDrop, sAsg, sFor, sPar, sNever, setO, retO, setOs, presc, eVar, eK, eTwo, v2, eFn, eDisp, eTup, eLst, eCall, eCallR, eCallK, pick, toSl, toSls, sIdx, wb, bk, esc, escs, vals, aNil, aCons, tb, Ev.tNot, Ev.tAnd, Ev.tOr, gGt, gLt, gGe, gLe, gSub, gMod, gDiv, gPow, gAdd, gMul, gInt, mulOk, g1, g2, fInt, fLen, fTuple, fList, fAbs, eAnd, eOr, eNot, eIf, eNeg, eIsi, gII, gIx, gIsN, gN, gT, gsNil, gsCons, isLent_eq, lentO, lentS_v, lentS_un, lentS_f, lentS_t, lentS_z, finE, okArg, Out.bind, Od.val, slVal, Bx.tr, Bx.t, isN, L2.ixN, L2.atI, isInt, isBool, isTuple, isList, isStr, isDict, isTL, Nat.zero_le, id_eq, eq_self, Pu.c0, Pu.c1, Pu.c2, Pu.c3, Pu.c4, Pu.c5, Pu.c6, Pu.c7, Pu.c8, Pu.c9, Pu.s1, Pu.s2, Pu.s3, Pu.s4, Pu.s5, Pu.s6, Pu.s7, Pu.s8, Pu.s9, Int.reduceEq, Nat.reduceMul, Int.ofNat_eq_natCast, wipeE, restE, exists_eq_left', Option.some.injEq, Out.ok.injEq, Prod.mk.injEq, Option.bind_some, Option.bind_none, Option.bind_eq_bind, List.getElem?_cons_zero, List.getElem?_cons_succ, List.getElem?_nil, List.set_cons_zero, List.set_cons_succ, List.set_nil, List.length_cons, List.length_nil, List.replicate_succ, List.replicate_zero, List.cons_append, List.nil_append, List.append_nil, List.all_cons, List.all_nil, Bool.and_true, Bool.true_and, Bool.and_false, Bool.false_and, if_true, if_false, ite_true, ite_false, List.nodup_cons, List.nodup_nil, List.not_mem_nil, List.mem_cons, not_false_eq_true, and_true, true_and, reduceIte, Nat.reduceAdd, Nat.reduceSub, Nat.reduceEqDiff, Nat.reduceLT, Nat.reduceLeDiff, Option.map_some, Option.map_none, Option.getD_some, reduceCtorEq, or_self, or_false, false_or, not_true_eq_false, decide_true, decide_false, Bool.not_true, Bool.not_false, Bool.false_eq_true, Nat.zero_add, Nat.add_zero, forall_const, Int.reduceLT, Int.reduceLE, Int.reduceNeg, Int.reduceToNat, Int.toNat_natCast, and_self], _, .inl st, .v (kT ps), rfl, rfl⟩
  have hl : l1__law_turned [.v (bkT B ks), .v (poT w m), .v (nT B), .v (.tuple (ks.map kT)), .ow false (.l []), .un, .un, .un, .un] = .ok .nx [.v (bkT B ks), .v (poT w m), .v (nT B), .v (.tuple (ks.map kT)), .ow false (.l (ks.map fun ps => kT (ps.map (tq B w m)))), l5, .un, .un, .un] := by
    unfold l1__law_turned
    rw [sFor_eq hi]
    exact h
  have r := lu_st l1__law_turned (bkT B ks) (poT w m) (nT B) (.tuple (ks.map kT)) _ _ _ _ _ rfl hl
  rw [show bkT B (tqK B w m ks) = .tuple [nT B, .tuple (ks.map fun ps => kT (ps.map (tq B w m)))] by unfold bkT tqK nT; rw [List.map_map]; rfl]
  exact r
/-! backward -/
theorem lb_e (s0 : Sl) (ts : List T) (t1 u : T) (n j i : Int) (h0 : t1 = .tuple ts) (hn : (ts.length : Int) = n) (hj : n - 1 - j = i) (hx : gIx (.tuple ts) (.int i) = some (.r u)) :
    (eOp2 gIx (eVar 1) (eOp2 gSub (eOp2 gSub (eFn gLen (aCons (eVar 1) aNil)) (eK (.int 1))) (eVar 2))) [s0, .v t1, .v (.int j)] = .ok (.r u) [s0, .v t1, .v (.int j)] := by
  subst h0
  simp only [hn, hj, hx, eMut, gAppend, gInsert, eRev, eIndex, eLenSet, gInt, gLen, gTuple, gList, gAbs, gMax2, gMin2, gDivmod, gEq_int, runFn, sSeq, sIf, sSet, sSetIx, sRet, sRetN, sNil, sDrop, sAsg, sFor, sPar, sNever, setO, retO, setOs, presc, eVar, eK, eTwo, v2, eFn, eDisp, eTup, eLst, eCall, eCallR, eCallK, pick, toSl, toSls, sIdx, wb, bk, esc, escs, vals, aNil, aCons, tb, Ev.tNot, Ev.tAnd, Ev.tOr, gGt, gLt, gGe, gLe, gSub, gMod, gDiv, gPow, gAdd, gMul, gInt, mulOk, g1, g2, fInt, fLen, fTuple, fList, fAbs, eAnd, eOr, eNot, eIf, eNeg, eIsi, gII, gIsN, gN, gT, gsNil, gsCons, isLent_eq, lentO, lentS_v, lentS_un, lentS_f, lentS_t, lentS_z, finE, okArg, Out.bind, Od.val, slVal, Bx.tr, Bx.t, isN, L2.ixN, L2.atI, isInt, isBool, isTuple, isList, isStr, isDict, isTL, Nat.zero_le, id_eq, eq_self, Pu.c0, Pu.c1, Pu.c2, Pu.c3, Pu.c4, Pu.c5, Pu.c6, Pu.c7, Pu.c8, Pu.c9, Pu.s1, Pu.s2, Pu.s3, Pu.s4, Pu.s5, Pu.s6, Pu.s7, Pu.s8, Pu.s9, Int.reduceEq, Nat.reduceMul, Int.ofNat_eq_natCast, wipeE, restE, exists_eq_left', Option.some.injEq, Out.ok.injEq, Prod.mk.injEq, Option.bind_some, Option.bind_none, Option.bind_eq_bind, List.getElem?_cons_zero, List.getElem?_cons_succ, List.getElem?_nil, List.set_cons_zero, List.set_cons_succ, List.set_nil, List.length_cons, List.length_nil, List.replicate_succ, List.replicate_zero, List.cons_append, List.nil_append, List.append_nil, List.all_cons, List.all_nil, Bool.and_true, Bool.true_and, Bool.and_false, Bool.false_and, if_true, if_false, ite_true, ite_false, List.nodup_cons, List.nodup_nil, List.not_mem_nil, List.mem_cons, not_false_eq_true, and_true, true_and, reduceIte, Nat.reduceAdd, Nat.reduceSub, Nat.reduceEqDiff, Nat.reduceLT, Nat.reduceLeDiff, Option.map_some, Option.map_none, Option.getD_some, reduceCtorEq, or_self, or_false, false_or, not_true_eq_false, decide_true, decide_false, Bool.not_true, Bool.not_false, Bool.false_eq_true, Nat.zero_add, Nat.add_zero, forall_const, Int.reduceLT, Int.reduceLE, Int.reduceNeg, Int.reduceToNat, Int.toNat_natCast, and_self]
theorem lb_i (s0 s2 : Sl) (ts : List T) (t1 : T) (h0 : t1 = .tuple ts) : aCons (eFn gLen (aCons (eVar 1) aNil)) aNil [s0, .v t1, s2] = .ok [.r (.int (ts.length : Int))] [s0, .v t1, s2] := by
  subst h0
  simp only [eMut, gAppend, gInsert, eRev, eIndex, eLenSet, gInt, gLen, gTuple, gList, gAbs, gMax2, gMin2, gDivmod, gEq_int, runFn, sSeq, sIf, sSet, sSetIx, sRet, sRetN, sNil, sDrop, sAsg, sFor, sPar, sNever, setO, retO, setOs, presc, eVar, eK, eTwo, v2, eFn, eDisp, eTup, eLst, eCall, eCallR, eCallK, pick, toSl, toSls, sIdx, wb, bk, esc, escs, vals, aNil, aCons, tb, Ev.tNot, Ev.tAnd, Ev.tOr, gGt, gLt, gGe, gLe, gSub, gMod, gDiv, gPow, gAdd, gMul, gInt, mulOk, g1, g2, fInt, fLen, fTuple, fList, fAbs, eAnd, eOr, eNot, eIf, eNeg, eIsi, gII, gIx, gIsN, gN, gT, gsNil, gsCons, isLent_eq, lentO, lentS_v, lentS_un, lentS_f, lentS_t, lentS_z, finE, okArg, Out.bind, Od.val, slVal, Bx.tr, Bx.t, isN, L2.ixN, L2.atI, isInt, isBool, isTuple, isList, isStr, isDict, isTL, Nat.zero_le, id_eq, eq_self, Pu.c0, Pu.c1, Pu.c2, Pu.c3, Pu.c4, Pu.c5, Pu.c6, Pu.c7, Pu.c8, Pu.c9, Pu.s1, Pu.s2, Pu.s3, Pu.s4, Pu.s5, Pu.s6, Pu.s7, Pu.s8, Pu.s9, Int.reduceEq, Nat.reduceMul, Int.ofNat_eq_natCast, wipeE, restE, exists_eq_left', Option.some.injEq, Out.ok.injEq, Prod.mk.injEq, Option.bind_some, Option.bind_none, Option.bind_eq_bind, List.getElem?_cons_zero, List.getElem?_cons_succ, List.getElem?_nil, List.set_cons_zero, List.set_cons_succ, List.set_nil, List.length_cons, List.length_nil, List.replicate_succ, List.replicate_zero, List.cons_append, List.nil_append, List.append_nil, List.all_cons, List.all_nil, Bool.and_true, Bool.true_and, Bool.and_false, Bool.false_and, if_true, if_false, ite_true, ite_false, List.nodup_cons, List.nodup_nil, List.not_mem_nil, List.mem_cons, not_false_eq_true, and_true, true_and, reduceIte, Nat.reduceAdd, Nat.reduceSub, Nat.reduceEqDiff, Nat.reduceLT, Nat.reduceLeDiff, Option.map_some, Option.map_none, Option.getD_some, reduceCtorEq, or_self, or_false, false_or, not_true_eq_false, decide_true, decide_false, Bool.not_true, Bool.not_false, Bool.false_eq_true, Nat.zero_add, Nat.add_zero, forall_const, Int.reduceLT, Int.reduceLE, Int.reduceNeg, Int.reduceToNat, Int.toNat_natCast, and_self]
theorem lb_x1 (ps : List Pt) (hl : ps.length ≤ 100) (s0 : Sl) : x1__law_backward [s0, .v (kT ps), .un] = .ok (.b (.l (ps.reverse.map ptT))) [s0, .v (kT ps), .un] := by
  have hi0 := lb_i s0 .un (ps.map ptT) (kT ps) rfl
  rw [List.length_map] at hi0
  have hi := iR1_nat (n := ps.length) hi0 rfl (by omega)
  unfold x1__law_backward
  rw [comp_eq hi]
  have e : ps.reverse.map ptT = (List.range ps.length).map fun j => ptT ((ps[ps.length - 1 - j]?).getD (0, 0, 0)) := by
    apply List.ext_getElem?
    intro j
    by_cases hj : j < ps.length
    · rw [List.getElem?_map, List.getElem?_reverse hj, List.getElem?_map, List.getElem?_range hj, List.getElem?_eq_getElem (by omega)]
      show some (ptT _) = some (ptT ((ps[ps.length - 1 - j]?).getD (0, 0, 0)))
      rw [List.getElem?_eq_getElem (by omega)]
      rfl
    · rw [List.getElem?_eq_none (by simp; omega), List.getElem?_eq_none (by simp; omega)]
  rw [e]
  refine comp_on (fun (j : Nat) => PyData.int (0 + (j : Int))) (fun j => ptT ((ps[ps.length - 1 - j]?).getD (0, 0, 0))) (List.range ps.length) [] _ (by rw [List.length_nil, List.length_range]; unfold sizeLine; omega) fun j hj => ?_
  have hj2 := List.mem_range.mp hj
  have hx : gIx (.tuple (ps.map ptT)) (.int ((ps.length - 1 - j : Nat) : Int)) = some (.r (ptT ((ps[ps.length - 1 - j]?).getD (0, 0, 0)))) := ix_tup _ _ _ (by rw [List.getElem?_map, List.getElem?_eq_getElem (by omega)]; rfl)
  exact ⟨_, rfl, _, rfl, _, _, lb_e s0 (ps.map ptT) (kT ps) _ (ps.length : Int) (0 + (j : Int)) ((ps.length - 1 - j : Nat) : Int) rfl (by rw [List.length_map]) (by omega) hx, _, rfl, rfl⟩
theorem lb_e2 (x : SemE) (s0 : Sl) (t1 : T) (us : List T) (h : x [s0, .v t1, .un] = .ok (.b (.l us)) [s0, .v t1, .un]) : eFn gTuple (aCons x aNil) [s0, .v t1, .un] = .ok (.r (.tuple us)) [s0, .v t1, .un] := by
  simp only [h, eMut, gAppend, gInsert, eRev, eIndex, eLenSet, gInt, gLen, gTuple, gList, gAbs, gMax2, gMin2, gDivmod, gEq_int, runFn, sSeq, sIf, sSet, sSetIx, sRet, sRetN, sNil, sDrop, sAsg, sFor, sPar, sNever, setO, retO, setOs, presc, eVar, eK, eTwo, v2, eFn, eDisp, eTup, eLst, eCall, eCallR, eCallK, pick, toSl, toSls, sIdx, wb, bk, esc, escs, vals, aNil, aCons, tb, Ev.tNot, Ev.tAnd, Ev.tOr, gGt, gLt, gGe, gLe, gSub, gMod, gDiv, gPow, gAdd, gMul, gInt, mulOk, g1, g2, fInt, fLen, fTuple, fList, fAbs, eAnd, eOr, eNot, eIf, eNeg, eIsi, gII, gIx, gIsN, gN, gT, gsNil, gsCons, isLent_eq, lentO, lentS_v, lentS_un, lentS_f, lentS_t, lentS_z, finE, okArg, Out.bind, Od.val, slVal, Bx.tr, Bx.t, isN, L2.ixN, L2.atI, isInt, isBool, isTuple, isList, isStr, isDict, isTL, Nat.zero_le, id_eq, eq_self, Pu.c0, Pu.c1, Pu.c2, Pu.c3, Pu.c4, Pu.c5, Pu.c6, Pu.c7, Pu.c8, Pu.c9, Pu.s1, Pu.s2, Pu.s3, Pu.s4, Pu.s5, Pu.s6, Pu.s7, Pu.s8, Pu.s9, Int.reduceEq, Nat.reduceMul, Int.ofNat_eq_natCast, wipeE, restE, exists_eq_left', Option.some.injEq, Out.ok.injEq, Prod.mk.injEq, Option.bind_some, Option.bind_none, Option.bind_eq_bind, List.getElem?_cons_zero, List.getElem?_cons_succ, List.getElem?_nil, List.set_cons_zero, List.set_cons_succ, List.set_nil, List.length_cons, List.length_nil, List.replicate_succ, List.replicate_zero, List.cons_append, List.nil_append, List.append_nil, List.all_cons, List.all_nil, Bool.and_true, Bool.true_and, Bool.and_false, Bool.false_and, if_true, if_false, ite_true, ite_false, List.nodup_cons, List.nodup_nil, List.not_mem_nil, List.mem_cons, not_false_eq_true, and_true, true_and, reduceIte, Nat.reduceAdd, Nat.reduceSub, Nat.reduceEqDiff, Nat.reduceLT, Nat.reduceLeDiff, Option.map_some, Option.map_none, Option.getD_some, reduceCtorEq, or_self, or_false, false_or, not_true_eq_false, decide_true, decide_false, Bool.not_true, Bool.not_false, Bool.false_eq_true, Nat.zero_add, Nat.add_zero, forall_const, Int.reduceLT, Int.reduceLE, Int.reduceNeg, Int.reduceToNat, Int.toNat_natCast, and_self]
theorem lb_i2 (t0 b : T) (kds : List T) (s1 s2 : Sl) (h0 : t0 = .tuple [b, .tuple kds]) : iOf (eOp2 gIx (eVar 0) (eK (.int 1))) [.v t0, s1, s2] = .ok kds [.v t0, s1, s2] := by
  subst h0
  rfl
theorem lb_st (x : SemE) (t0 b kds : T) (us : List T) (h0 : t0 = .tuple [b, kds]) (h : x [.v t0, .un, .un] = .ok (.b (.l us)) [.v t0, .un, .un]) :
    runFn 3 ((sRet (eTup (aCons (eOp2 gIx (eVar 0) (eK (.int 0))) (aCons (eFn gTuple (aCons x aNil)) aNil))))) [.v t0] = .ok (.r (.tuple [b, .tuple us])) [.v t0] := by
  subst h0
  have hi : gIx (.tuple [b, kds]) (.int 0) = some (.r b) := rfl
  simp only [hi, h, eMut, gAppend, gInsert, eRev, eIndex, eLenSet, gInt, gLen, gTuple, gList, gAbs, gMax2, gMin2, gDivmod, gEq_int, runFn, sSeq, sIf, sSet, sSetIx, sRet, sRetN, sNil, sDrop, sAsg, sFor, sPar, sNever, setO, retO, setOs, presc, eVar, eK, eTwo, v2, eFn, eDisp, eTup, eLst, eCall, eCallR, eCallK, pick, toSl, toSls, sIdx, wb, bk, esc, escs, vals, aNil, aCons, tb, Ev.tNot, Ev.tAnd, Ev.tOr, gGt, gLt, gGe, gLe, gSub, gMod, gDiv, gPow, gAdd, gMul, gInt, mulOk, g1, g2, fInt, fLen, fTuple, fList, fAbs, eAnd, eOr, eNot, eIf, eNeg, eIsi, gII, gIsN, gN, gT, gsNil, gsCons, isLent_eq, lentO, lentS_v, lentS_un, lentS_f, lentS_t, lentS_z, finE, okArg, Out.bind, Od.val, slVal, Bx.tr, Bx.t, isN, L2.ixN, L2.atI, isInt, isBool, isTuple, isList, isStr, isDict, isTL, Nat.zero_le, id_eq, eq_self, Pu.c0, Pu.c1, Pu.c2, Pu.c3, Pu.c4, Pu.c5, Pu.c6, Pu.c7, Pu.c8, Pu.c9, Pu.s1, Pu.s2, Pu.s3, Pu.s4, Pu.s5, Pu.s6, Pu.s7, Pu.s8, Pu.s9, Int.reduceEq, Nat.reduceMul, Int.ofNat_eq_natCast, wipeE, restE, exists_eq_left', Option.some.injEq, Out.ok.injEq, Prod.mk.injEq, Option.bind_some, Option.bind_none, Option.bind_eq_bind, List.getElem?_cons_zero, List.getElem?_cons_succ, List.getElem?_nil, List.set_cons_zero, List.set_cons_succ, List.set_nil, List.length_cons, List.length_nil, List.replicate_succ, List.replicate_zero, List.cons_append, List.nil_append, List.append_nil, List.all_cons, List.all_nil, Bool.and_true, Bool.true_and, Bool.and_false, Bool.false_and, if_true, if_false, ite_true, ite_false, List.nodup_cons, List.nodup_nil, List.not_mem_nil, List.mem_cons, not_false_eq_true, and_true, true_and, reduceIte, Nat.reduceAdd, Nat.reduceSub, Nat.reduceEqDiff, Nat.reduceLT, Nat.reduceLeDiff, Option.map_some, Option.map_none, Option.getD_some, reduceCtorEq, or_self, or_false, false_or, not_true_eq_false, decide_true, decide_false, Bool.not_true, Bool.not_false, Bool.false_eq_true, Nat.zero_add, Nat.add_zero, forall_const, Int.reduceLT, Int.reduceLE, Int.reduceNeg, Int.reduceToNat, Int.toNat_natCast, and_self]
theorem law_backward_ok {B : Nat} {ks : List (List Pt)} (g : Good B ks) : m__law_backward [.v (bkT B ks)] = .ok (.r (bkT B (ks.map List.reverse))) [.v (bkT B ks)] := by
  have hf := g.few
  have hB : B * B ≤ 9 := by rcases g.hb with h | h <;> subst h <;> decide
  have hx : x2__law_backward [.v (bkT B ks), .un, .un] = .ok (.b (.l (ks.map fun ps => kT ps.reverse))) [.v (bkT B ks), .un, .un] := by
    unfold x2__law_backward
    rw [comp_eq (lb_i2 (bkT B ks) (nT B) (ks.map kT) .un .un rfl)]
    refine comp_on kT (fun ps => kT ps.reverse) ks [] _ (by rw [List.length_nil]; unfold sizeLine; omega) fun ps hp => ?_
    exact ⟨_, rfl, _, rfl, _, _, lb_e2 x1__law_backward (.v (bkT B ks)) (kT ps) _ (lb_x1 ps (by rw [g.len ps hp]; omega) _), _, rfl, rfl⟩
  have r := lb_st x2__law_backward (bkT B ks) (nT B) (.tuple (ks.map kT)) _ rfl hx
  rw [show bkT B (ks.map List.reverse) = .tuple [nT B, .tuple (ks.map fun ps => kT ps.reverse)] by unfold bkT nT; rw [List.map_map]; rfl]
  exact r
/-! how wide -/
theorem lw_y (t0 kds : T) (s1 s3 : Sl) (b z : Int) (h0 : t0 = .tuple [.int b, kds]) (hm : z.natAbs.log2 + b.natAbs.log2 < 1000000) : (sSet 2 (eOp2 gMul (eVar 2) (eOp2 gIx (eVar 0) (eK (.int 0))))) [.v t0, s1, .v (.int z), s3] = .ok .nx [.v t0, s1, .v (.int (z * b)), s3] := by
  subst h0
  have hi : gIx (.tuple [.int b, kds]) (.int 0) = some (.r (.int b)) := rfl
  simp only [hi, hm, eMut, gAppend, gInsert, eRev, eIndex, eLenSet, gInt, gLen, gTuple, gList, gAbs, gMax2, gMin2, gDivmod, gEq_int, runFn, sSeq, sIf, sSet, sSetIx, sRet, sRetN, sNil, sDrop, sAsg, sFor, sPar, sNever, setO, retO, setOs, presc, eVar, eK, eTwo, v2, eFn, eDisp, eTup, eLst, eCall, eCallR, eCallK, pick, toSl, toSls, sIdx, wb, bk, esc, escs, vals, aNil, aCons, tb, Ev.tNot, Ev.tAnd, Ev.tOr, gGt, gLt, gGe, gLe, gSub, gMod, gDiv, gPow, gAdd, gMul, gInt, mulOk, g1, g2, fInt, fLen, fTuple, fList, fAbs, eAnd, eOr, eNot, eIf, eNeg, eIsi, gII, gIsN, gN, gT, gsNil, gsCons, isLent_eq, lentO, lentS_v, lentS_un, lentS_f, lentS_t, lentS_z, finE, okArg, Out.bind, Od.val, slVal, Bx.tr, Bx.t, isN, L2.ixN, L2.atI, isInt, isBool, isTuple, isList, isStr, isDict, isTL, Nat.zero_le, id_eq, eq_self, Pu.c0, Pu.c1, Pu.c2, Pu.c3, Pu.c4, Pu.c5, Pu.c6, Pu.c7, Pu.c8, Pu.c9, Pu.s1, Pu.s2, Pu.s3, Pu.s4, Pu.s5, Pu.s6, Pu.s7, Pu.s8, Pu.s9, Int.reduceEq, Nat.reduceMul, Int.ofNat_eq_natCast, wipeE, restE, exists_eq_left', Option.some.injEq, Out.ok.injEq, Prod.mk.injEq, Option.bind_some, Option.bind_none, Option.bind_eq_bind, List.getElem?_cons_zero, List.getElem?_cons_succ, List.getElem?_nil, List.set_cons_zero, List.set_cons_succ, List.set_nil, List.length_cons, List.length_nil, List.replicate_succ, List.replicate_zero, List.cons_append, List.nil_append, List.append_nil, List.all_cons, List.all_nil, Bool.and_true, Bool.true_and, Bool.and_false, Bool.false_and, if_true, if_false, ite_true, ite_false, List.nodup_cons, List.nodup_nil, List.not_mem_nil, List.mem_cons, not_false_eq_true, and_true, true_and, reduceIte, Nat.reduceAdd, Nat.reduceSub, Nat.reduceEqDiff, Nat.reduceLT, Nat.reduceLeDiff, Option.map_some, Option.map_none, Option.getD_some, reduceCtorEq, or_self, or_false, false_or, not_true_eq_false, decide_true, decide_false, Bool.not_true, Bool.not_false, Bool.false_eq_true, Nat.zero_add, Nat.add_zero, forall_const, Int.reduceLT, Int.reduceLE, Int.reduceNeg, Int.reduceToNat, Int.toNat_natCast, and_self]
theorem lw_st (y : SemS) (t0 t1 r : T) (l3 : Sl) (h : y [.v t0, .v t1, .v (.int 1), .un] = .ok .nx [.v t0, .v t1, .v r, l3]) : runFn 4 ((sSeq (sSet 2 (eK (.int 1))) (sSeq y (sRet (eVar 2))))) [.v t0, .v t1] = .ok (.r r) [.v t0, .v t1] := by
  simp only [h, eMut, gAppend, gInsert, eRev, eIndex, eLenSet, gInt, gLen, gTuple, gList, gAbs, gMax2, gMin2, gDivmod, gEq_int, runFn, sSeq, sIf, sSet, sSetIx, sRet, sRetN, sNil, sDrop, sAsg, sFor, sPar, sNever, setO, retO, setOs, presc, eVar, eK, eTwo, v2, eFn, eDisp, eTup, eLst, eCall, eCallR, eCallK, pick, toSl, toSls, sIdx, wb, bk, esc, escs, vals, aNil, aCons, tb, Ev.tNot, Ev.tAnd, Ev.tOr, gGt, gLt, gGe, gLe, gSub, gMod, gDiv, gPow, gAdd, gMul, gInt, mulOk, g1, g2, fInt, fLen, fTuple, fList, fAbs, eAnd, eOr, eNot, eIf, eNeg, eIsi, gII, gIx, gIsN, gN, gT, gsNil, gsCons, isLent_eq, lentO, lentS_v, lentS_un, lentS_f, lentS_t, lentS_z, finE, okArg, Out.bind, Od.val, slVal, Bx.tr, Bx.t, isN, L2.ixN, L2.atI, isInt, isBool, isTuple, isList, isStr, isDict, isTL, Nat.zero_le, id_eq, eq_self, Pu.c0, Pu.c1, Pu.c2, Pu.c3, Pu.c4, Pu.c5, Pu.c6, Pu.c7, Pu.c8, Pu.c9, Pu.s1, Pu.s2, Pu.s3, Pu.s4, Pu.s5, Pu.s6, Pu.s7, Pu.s8, Pu.s9, Int.reduceEq, Nat.reduceMul, Int.ofNat_eq_natCast, wipeE, restE, exists_eq_left', Option.some.injEq, Out.ok.injEq, Prod.mk.injEq, Option.bind_some, Option.bind_none, Option.bind_eq_bind, List.getElem?_cons_zero, List.getElem?_cons_succ, List.getElem?_nil, List.set_cons_zero, List.set_cons_succ, List.set_nil, List.length_cons, List.length_nil, List.replicate_succ, List.replicate_zero, List.cons_append, List.nil_append, List.append_nil, List.all_cons, List.all_nil, Bool.and_true, Bool.true_and, Bool.and_false, Bool.false_and, if_true, if_false, ite_true, ite_false, List.nodup_cons, List.nodup_nil, List.not_mem_nil, List.mem_cons, not_false_eq_true, and_true, true_and, reduceIte, Nat.reduceAdd, Nat.reduceSub, Nat.reduceEqDiff, Nat.reduceLT, Nat.reduceLeDiff, Option.map_some, Option.map_none, Option.getD_some, reduceCtorEq, or_self, or_false, false_or, not_true_eq_false, decide_true, decide_false, Bool.not_true, Bool.not_false, Bool.false_eq_true, Nat.zero_add, Nat.add_zero, forall_const, Int.reduceLT, Int.reduceLE, Int.reduceNeg, Int.reduceToNat, Int.toNat_natCast, and_self]
theorem law_wide_ok {B : Nat} {ks : List (List Pt)} (g : Good B ks) (d : Nat) (hd : d ≤ 200) : m__law_wide [.v (bkT B ks), .v (nT d)] = .ok (.r (.int ((B : Int) ^ d))) [.v (bkT B ks), .v (nT d)] := by
  obtain ⟨e', h, l3, a3, rfl⟩ := for_on (g := gN 3) (b := y1__law_wide) (fun (k : Nat) => PyData.int (0 + (k : Int))) (fun don e => ∃ l3, lentS l3 = false ∧ e = [.v (bkT B ks), .v (nT d), .v (.int ((B : Int) ^ don.length)), l3]) 200 (List.range d) [] [.v (bkT B ks), .v (nT d), .v (.int ((B : Int) ^ 0)), .un] ⟨_, rfl, rfl⟩ (by simpa using hd) fun k _ don e hdn ⟨l3, a3, he⟩ => by
    subst he
    have h2 := pow_small (b := (B : Int)) (by omega) (by rcases g.hb with h | h <;> omega) don.length (by omega)
    have hb : (B : Int).natAbs.log2 < 10 := log2_small (by rcases g.hb with h | h <;> omega) (by decide)
    rw [List.length_append, List.length_singleton, Int.pow_succ]
    have st := lw_y (bkT B ks) (.tuple (ks.map kT)) (.v (nT d)) (.v (.int (0 + (k : Int)))) (B : Int) ((B : Int) ^ don.length) rfl (by omega)
    refine ⟨[.v (bkT B ks), .v (nT d), .v (.int ((B : Int) ^ don.length)), .v (.int (0 + (k : Int)))], by simp only [a3, eMut, gAppend, gInsert, eRev, eIndex, eLenSet, gInt, gLen, gTuple, gList, gAbs, gMax2, gMin2, gDivmod, gEq_int, runFn, sSeq, sIf, sSet, sSetIx, sRet, sRetN, sNil, sDrop, sAsg, sFor, sPar, sNever, setO, retO, setOs, presc, eVar, eK, eTwo, v2, eFn, eDisp, eTup, eLst, eCall, eCallR, eCallK, pick, toSl, toSls, sIdx, wb, bk, esc, escs, vals, aNil, aCons, tb, Ev.tNot, Ev.tAnd, Ev.tOr, gGt, gLt, gGe, gLe, gSub, gMod, gDiv, gPow, gAdd, gMul, gInt, mulOk, g1, g2, fInt, fLen, fTuple, fList, fAbs, eAnd, eOr, eNot, eIf, eNeg, eIsi, gII, gIx, gIsN, gN, gT, gsNil, gsCons, isLent_eq, lentO, lentS_v, lentS_un, lentS_f, lentS_t, lentS_z, finE, okArg, Out.bind, Od.val, slVal, Bx.tr, Bx.t, isN, L2.ixN, L2.atI, isInt, isBool, isTuple, isList, isStr, isDict, isTL, Nat.zero_le, id_eq, eq_self, Pu.c0, Pu.c1, Pu.c2, Pu.c3, Pu.c4, Pu.c5, Pu.c6, Pu.c7, Pu.c8, Pu.c9, Pu.s1, Pu.s2, Pu.s3, Pu.s4, Pu.s5, Pu.s6, Pu.s7, Pu.s8, Pu.s9, Int.reduceEq, Nat.reduceMul, Int.ofNat_eq_natCast, wipeE, restE, exists_eq_left', Option.some.injEq, Out.ok.injEq, Prod.mk.injEq, Option.bind_some, Option.bind_none, Option.bind_eq_bind, List.getElem?_cons_zero, List.getElem?_cons_succ, List.getElem?_nil, List.set_cons_zero, List.set_cons_succ, List.set_nil, List.length_cons, List.length_nil, List.replicate_succ, List.replicate_zero, List.cons_append, List.nil_append, List.append_nil, List.all_cons, List.all_nil, Bool.and_true, Bool.true_and, Bool.and_false, Bool.false_and, if_true, if_false, ite_true, ite_false, List.nodup_cons, List.nodup_nil, List.not_mem_nil, List.mem_cons, not_false_eq_true, and_true, true_and, reduceIte, Nat.reduceAdd, Nat.reduceSub, Nat.reduceEqDiff, Nat.reduceLT, Nat.reduceLeDiff, Option.map_some, Option.map_none, Option.getD_some, reduceCtorEq, or_self, or_false, false_or, not_true_eq_false, decide_true, decide_false, Bool.not_true, Bool.not_false, Bool.false_eq_true, Nat.zero_add, Nat.add_zero, forall_const, Int.reduceLT, Int.reduceLE, Int.reduceNeg, Int.reduceToNat, Int.toNat_natCast, and_self], _, .inl st, _, rfl, rfl⟩
  rw [List.nil_append, List.length_range, Int.pow_zero] at h
  have hl : l1__law_wide [.v (bkT B ks), .v (nT d), .v (.int 1), .un] = .ok .nx [.v (bkT B ks), .v (nT d), .v (.int ((B : Int) ^ d)), l3] := by
    have hi := iR1_nat (m := aCons (eVar 1) aNil) (e := [.v (bkT B ks), .v (nT d), .v (.int 1), .un]) (e1 := [.v (bkT B ks), .v (nT d), .v (.int 1), .un]) (rs := [.r (nT d)]) (n := d) rfl rfl (by omega)
    unfold l1__law_wide
    rw [sFor_eq hi]
    exact h
  exact lw_st l1__law_wide _ _ _ _ hl
end Lw

set_option linter.all false
set_option maxRecDepth 100000
set_option maxHeartbeats 8000000
namespace Lw
open PySem PySem.Spec Ev Pu Mt
/-! ### books in postures -/
theorem tqK_len (B w m : Nat) (ks : List (List Pt)) : (tqK B w m ks).length = ks.length := by unfold tqK; rw [List.length_map]
theorem tqK_rev (B w m : Nat) (ks : List (List Pt)) : tqK B w m (ks.map List.reverse) = (tqK B w m ks).map List.reverse := by
  unfold tqK
  rw [List.map_map, List.map_map]
  refine List.map_congr_left fun ps _ => ?_
  show ps.reverse.map _ = (ps.map _).reverse
  rw [List.map_reverse]
theorem tqK_cmpo (B : Nat) (p o : Nat × Nat) (hp : p.1 < 4 ∧ p.2 < 2) (ho : o.1 < 4 ∧ o.2 < 2) (ks : List (List Pt)) : tqK B p.1 p.2 (tqK B o.1 o.2 ks) = tqK B (cmpo p o).1 (cmpo p o).2 ks := by
  unfold tqK
  rw [List.map_map]
  refine List.map_congr_left fun ps _ => ?_
  show (ps.map _).map _ = _
  rw [List.map_map]
  refine List.map_congr_left fun q _ => ?_
  show tq B p.1 p.2 (tq B o.1 o.2 q) = tq B (cmpo p o).1 (cmpo p o).2 q
  have := cmpo_qz (B : Int) p o hp ho (q.1, q.2.1)
  rw [pz_qz, pz_qz, pz_qz] at this
  unfold tq
  rw [this]
theorem tqK_id (B : Nat) (ks : List (List Pt)) : tqK B 0 0 ks = ks := by
  unfold tqK
  have e : ∀ ps : List Pt, ps.map (tq B 0 0) = ps := fun ps => by
    have : tq B 0 0 = id := by funext p; rfl
    rw [this, List.map_id]
  have e2 : (fun ps : List Pt => ps.map (tq B 0 0)) = id := by funext ps; exact e ps
  rw [e2, List.map_id]
theorem line_tq {B : Nat} {ks : List (List Pt)} (g : Good B ks) {w m : Nat} (h : w < 4) (h2 : m < 2) (d k : Nat) (hk : k < ks.length) : lineOf B (tqK B w m ks) d k = (lineOf B ks d k).map (qz ((B : Int) ^ d) w m) := by
  unfold lineOf
  rw [List.map_map]
  exact List.map_congr_left fun n _ => cell_tq g h h2 hk d n
theorem lines_tq {B : Nat} {ks : List (List Pt)} (g : Good B ks) {w m : Nat} (h : w < 4) (h2 : m < 2) (d : Nat) : linesT B (tqK B w m ks) d = (List.range ks.length).map fun k => .list ((lineOf B ks d k).map fun c => cT (pz ((B : Int) ^ d) w m c)) := by
  unfold linesT
  rw [tqK_len]
  refine List.map_congr_left fun k hk => ?_
  rw [line_tq g h h2 d k (List.mem_range.mp hk)]
  unfold plT
  rw [List.map_map]
  rfl
theorem line_rev {B : Nat} {ks : List (List Pt)} (g : Good B ks) (d k : Nat) (hk : k < ks.length) : lineOf B (ks.map List.reverse) d k = (lineOf B ks d k).reverse := by
  apply List.ext_getElem?
  intro n
  have hl : (lineOf B ks d k).length = (B * B) ^ d := line_len B ks d k
  by_cases hn : n < (B * B) ^ d
  · rw [List.getElem?_reverse (by omega), hl]
    unfold lineOf
    rw [List.getElem?_map, List.getElem?_range hn, List.getElem?_map, List.getElem?_range (by omega)]
    have := cell_rev g hk d ((B * B) ^ d - 1 - n) (by omega)
    rw [show (B * B) ^ d - 1 - ((B * B) ^ d - 1 - n) = n by omega] at this
    exact congrArg some this
  · rw [List.getElem?_eq_none (by rw [line_len]; omega), List.getElem?_eq_none (by rw [List.length_reverse]; omega)]
theorem lines_rev {B : Nat} {ks : List (List Pt)} (g : Good B ks) (d : Nat) : linesT B (ks.map List.reverse) d = (List.range ks.length).map fun k => .list (((lineOf B ks d k).reverse).map cT) := by
  unfold linesT
  rw [List.length_map]
  refine List.map_congr_left fun k hk => ?_
  rw [line_rev g d k (List.mem_range.mp hk)]
  rfl
/-! ### one posture -/
/-- the lines come in a name of the caller's, or not -/
def Thr (L : List T) (s s' : Sl) : Prop := (s = .ow true (.l L) ∧ s' = .fz (.l L)) ∨ (s = .v (.list L) ∧ s' = .v (.list L))
theorem pr_e (m : FSem) (t1 w c u : T) (s0 s2 s3 s4 s6 s7 s8 : Sl) (h : m [.v w, .v c, .v t1] = .ok (.r u) [.v w, .v c, .v t1]) :
    eCall 3 m (aCons (eVar 5) (aCons (eVar 9) (aCons (eVar 1) aNil))) [s0, .v t1, s2, s3, s4, .v w, s6, s7, s8, .v c] = .ok (.r u) [s0, .v t1, s2, s3, s4, .v w, s6, s7, s8, .v c] := by
  simp only [h, eMut, gAppend, gInsert, eRev, eIndex, eLenSet, gInt, gLen, gTuple, gList, gAbs, gMax2, gMin2, gDivmod, gEq_int, runFn, sSeq, sIf, sSet, sSetIx, sRet, sRetN, sNil, sDrop, sAsg, sFor, sPar, sNever, setO, retO, setOs, presc, eVar, eK, eTwo, v2, eFn, eDisp, eTup, eLst, eCall, eCallR, eCallK, pick, toSl, toSls, sIdx, wb, bk, esc, escs, vals, aNil, aCons, tb, Ev.tNot, Ev.tAnd, Ev.tOr, gGt, gLt, gGe, gLe, gSub, gMod, gDiv, gPow, gAdd, gMul, gInt, mulOk, g1, g2, fInt, fLen, fTuple, fList, fAbs, eAnd, eOr, eNot, eIf, eNeg, eIsi, gII, gIx, gIsN, gN, gT, gsNil, gsCons, isLent_eq, lentO, lentS_v, lentS_un, lentS_f, lentS_t, lentS_z, finE, okArg, Out.bind, Od.val, slVal, Bx.tr, Bx.t, isN, L2.ixN, L2.atI, isInt, isBool, isTuple, isList, isStr, isDict, isTL, Nat.zero_le, id_eq, eq_self, Pu.c0, Pu.c1, Pu.c2, Pu.c3, Pu.c4, Pu.c5, Pu.c6, Pu.c7, Pu.c8, Pu.c9, Pu.s1, Pu.s2, Pu.s3, Pu.s4, Pu.s5, Pu.s6, Pu.s7, Pu.s8, Pu.s9, Int.reduceEq, Nat.reduceMul, Int.ofNat_eq_natCast, wipeE, restE, exists_eq_left', Option.some.injEq, Out.ok.injEq, Prod.mk.injEq, Option.bind_some, Option.bind_none, Option.bind_eq_bind, List.getElem?_cons_zero, List.getElem?_cons_succ, List.getElem?_nil, List.set_cons_zero, List.set_cons_succ, List.set_nil, List.length_cons, List.length_nil, List.replicate_succ, List.replicate_zero, List.cons_append, List.nil_append, List.append_nil, List.all_cons, List.all_nil, Bool.and_true, Bool.true_and, Bool.and_false, Bool.false_and, if_true, if_false, ite_true, ite_false, List.nodup_cons, List.nodup_nil, List.not_mem_nil, List.mem_cons, not_false_eq_true, and_true, true_and, reduceIte, Nat.reduceAdd, Nat.reduceSub, Nat.reduceEqDiff, Nat.reduceLT, Nat.reduceLeDiff, Option.map_some, Option.map_none, Option.getD_some, reduceCtorEq, or_self, or_false, false_or, not_true_eq_false, decide_true, decide_false, Bool.not_true, Bool.not_false, Bool.false_eq_true, Nat.zero_add, Nat.add_zero, forall_const, Int.reduceLT, Int.reduceLE, Int.reduceNeg, Int.reduceToNat, Int.toNat_natCast, and_self]
theorem pr_x1 (W : Int) (w m : Nat) (h1 : w < 4) (h2 : m < 2) (cs : List (Int × Int)) (hl : cs.length ≤ 1000) (s0 s2 s3 s4 s6 s7 : Sl) :
    x1__law_pose_right [s0, .v (poT w m), s2, s3, s4, .v (.int W), s6, s7, .v (plT cs), .un] = .ok (.b (.l (cs.map fun c => cT (pz W w m c)))) [s0, .v (poT w m), s2, s3, s4, .v (.int W), s6, s7, .v (plT cs), .un] := by
  have hi : iOf (eVar 8) [s0, .v (poT w m), s2, s3, s4, .v (.int W), s6, s7, .v (plT cs), .un] = .ok (cs.map cT) [s0, .v (poT w m), s2, s3, s4, .v (.int W), s6, s7, .v (plT cs), .un] := rfl
  unfold x1__law_pose_right
  rw [comp_eq hi]
  refine comp_on cT (fun c => cT (pz W w m c)) cs [] _ (by rw [List.length_nil]; unfold sizeLine; omega) fun c _ => ?_
  exact ⟨_, rfl, _, rfl, _, _, pr_e m__law_posed (poT w m) (.int W) (cT c) _ s0 s2 s3 s4 s6 s7 (.v (plT cs)) (law_posed_ok W w m c h1 h2), _, rfl, rfl⟩
theorem pr_x2 {B : Nat} {ks : List (List Pt)} (g : Good B ks) (d : Nat) (hs : (B * B) ^ d ≤ 1000) (w m : Nat) (h1 : w < 4) (h2 : m < 2) (s0 s2 s3 s3' s4 s6 s7 : Sl) (h3 : Thr (linesT B ks d) s3 s3') :
    x2__law_pose_right [s0, .v (poT w m), s2, s3, s4, .v (.int ((B : Int) ^ d)), s6, s7, .un, .un] = .ok (.b (.l (linesT B (tqK B w m ks) d))) [s0, .v (poT w m), s2, s3', s4, .v (.int ((B : Int) ^ d)), s6, s7, .un, .un] := by
  have hi : iOf (eVar 3) [s0, .v (poT w m), s2, s3, s4, .v (.int ((B : Int) ^ d)), s6, s7, .un, .un] = .ok (linesT B ks d) [s0, .v (poT w m), s2, s3', s4, .v (.int ((B : Int) ^ d)), s6, s7, .un, .un] := by
    rcases h3 with ⟨rfl, rfl⟩ | ⟨rfl, rfl⟩ <;> rfl
  have hf := g.few
  unfold x2__law_pose_right
  rw [comp_eq hi, lines_tq g h1 h2 d]
  refine comp_on (fun k => plT (lineOf B ks d k)) (fun k => .list ((lineOf B ks d k).map fun c => cT (pz ((B : Int) ^ d) w m c))) (List.range ks.length) [] _ (by rw [List.length_nil, List.length_range]; unfold sizeLine; omega) fun k hk => ?_
  exact ⟨_, rfl, _, rfl, _, _, pr_x1 ((B : Int) ^ d) w m h1 h2 (lineOf B ks d k) (by rw [line_len]; omega) s0 s2 s3' s4 s6 s7, _, rfl, rfl⟩
theorem po_st (mlt mlw mtu mib ms mth mwh mlb mba : FSem) (x2 : SemE) (t0 t1 t2 due wd both ba : T) (L PL line : List T) (rl : Od) (s3 s3' : Sl) (h3 : Thr L s3 s3')
    (qlt : mlt [.v t0, .v t1] = .ok (.r due) [.v t0, .v t1]) (qlw : mlw [.v t0, .v t2] = .ok (.r wd) [.v t0, .v t2]) (qtu : mtu [.v t0, .v t1] = .ok (.r due) [.v t0, .v t1]) (qib : mib [.v due] = .ok (.r (.bool true)) [.v due])
    (s1 : ms [.ow true (.l [due, due, .bool true]), .ow true (.l [due, due, .bool true])] = .ok (.r (.bool true)) [.ow true (.l [due, due, .bool true]), .ow true (.l [due, due, .bool true])])
    (qx : x2 [.v t0, .v t1, .v t2, s3, .v due, .v wd, .un, .un, .un, .un] = .ok (.b (.l PL)) [.v t0, .v t1, .v t2, s3', .v due, .v wd, .un, .un, .un, .un])
    (qth : mth [.v due, .v t2] = .ok rl [.v due, .v t2]) (hrl : rl = .b (.l PL) ∨ rl = .r (.list PL)) (he : gEq not (.list PL) (.list PL) = some (.r (.bool false)))
    (qwh : mwh [.v due, .v t2] = .ok (.b (.l line)) [.v due, .v t2]) (hi : gIx (.list PL) (.int 0) = some (.r (.list line))) (s2 : ms [.ow true (.l line), .v (.list line)] = .ok (.r (.bool true)) [.ow true (.l line), .v (.list line)])
    (qlb : mlb [.v due] = .ok (.r both) [.v due]) (qba : mba [.v t0] = .ok (.r ba) [.v t0]) (qtb : mtu [.v ba, .v t1] = .ok (.r both) [.v ba, .v t1]) (qbt : mba [.v due] = .ok (.r both) [.v due])
    (s4 : ms [.ow true (.l [both, both]), .ow true (.l [both, both])] = .ok (.r (.bool true)) [.ow true (.l [both, both]), .ow true (.l [both, both])]) :
    runFn 10 ((sSeq (sPar [4, 5] (aCons (eCall 2 mlt (aCons (eVar 0) (aCons (eVar 1) aNil))) (aCons (eCall 2 mlw (aCons (eVar 0) (aCons (eVar 2) aNil))) aNil))) (sSeq (sIf (tNot (tb (eCall 2 (ms) (aCons (eLst (aCons (eCall 2 mtu (aCons (eVar 0) (aCons (eVar 1) aNil))) (aCons (eCallK 2 [1, 0] mtu (aCons (eVar 1) (aCons (eVar 0) aNil))) (aCons (eCall 1 mib (aCons (eVar 4) aNil)) aNil)))) (aCons (eLst (aCons (eVar 4) (aCons (eVar 4) (aCons (eK (.bool true)) aNil)))) aNil))))) (sRet (eK (.bool false))) sNil) (sSeq (sSet 6 x2) (sSeq (sIf (tOr (tb (eOp2 (gEq not) (eCall 2 mth (aCons (eVar 4) (aCons (eVar 2) aNil))) (eVar 6))) (tNot (tb (eCall 2 (ms) (aCons (eCall 2 mwh (aCons (eVar 4) (aCons (eVar 2) aNil))) (aCons (eOp2 gIx (eVar 6) (eK (.int 0))) aNil)))))) (sRet (eK (.bool false))) sNil) (sSeq (sSet 7 (eCall 1 mlb (aCons (eVar 4) aNil))) (sRet (eCall 2 (ms) (aCons (eLst (aCons (eCall 2 mtu (aCons (eCall 1 mba (aCons (eVar 0) aNil)) (aCons (eVar 1) aNil))) (aCons (eCall 1 mba (aCons (eCall 2 mtu (aCons (eVar 0) (aCons (eVar 1) aNil))) aNil)) aNil))) (aCons (eLst (aCons (eVar 7) (aCons (eVar 7) aNil))) aNil)))))))))) [.v t0, .v t1, .v t2, s3] = .ok (.r (.bool true)) [.v t0, .v t1, .v t2, s3'] := by
  rcases h3 with ⟨rfl, rfl⟩ | ⟨rfl, rfl⟩ <;> rcases hrl with rfl | rfl <;> simp only [qlt, qlw, qtu, qib, s1, qx, qth, he, qwh, hi, s2, qlb, qba, qtb, qbt, s4, pick2', eMut, gAppend, gInsert, eRev, eIndex, eLenSet, gInt, gLen, gTuple, gList, gAbs, gMax2, gMin2, gDivmod, gEq_int, runFn, sSeq, sIf, sSet, sSetIx, sRet, sRetN, sNil, sDrop, sAsg, sFor, sPar, sNever, setO, retO, setOs, presc, eVar, eK, eTwo, v2, eFn, eDisp, eTup, eLst, eCall, eCallR, eCallK, toSl, toSls, sIdx, wb, bk, esc, escs, vals, aNil, aCons, tb, Ev.tNot, Ev.tAnd, Ev.tOr, gGt, gLt, gGe, gLe, gSub, gMod, gDiv, gPow, gAdd, gMul, gInt, mulOk, g1, g2, fInt, fLen, fTuple, fList, fAbs, eAnd, eOr, eNot, eIf, eNeg, eIsi, gII, gIsN, gN, gT, gsNil, gsCons, isLent_eq, lentO, lentS_v, lentS_un, lentS_f, lentS_t, lentS_z, finE, okArg, Out.bind, Od.val, slVal, Bx.tr, Bx.t, isN, L2.ixN, L2.atI, isInt, isBool, isTuple, isList, isStr, isDict, isTL, Nat.zero_le, id_eq, eq_self, Pu.c0, Pu.c1, Pu.c2, Pu.c3, Pu.c4, Pu.c5, Pu.c6, Pu.c7, Pu.c8, Pu.c9, Pu.s1, Pu.s2, Pu.s3, Pu.s4, Pu.s5, Pu.s6, Pu.s7, Pu.s8, Pu.s9, Int.reduceEq, Nat.reduceMul, Int.ofNat_eq_natCast, wipeE, restE, exists_eq_left', Option.some.injEq, Out.ok.injEq, Prod.mk.injEq, Option.bind_some, Option.bind_none, Option.bind_eq_bind, List.getElem?_cons_zero, List.getElem?_cons_succ, List.getElem?_nil, List.set_cons_zero, List.set_cons_succ, List.set_nil, List.length_cons, List.length_nil, List.replicate_succ, List.replicate_zero, List.cons_append, List.nil_append, List.append_nil, List.all_cons, List.all_nil, Bool.and_true, Bool.true_and, Bool.and_false, Bool.false_and, if_true, if_false, ite_true, ite_false, List.nodup_cons, List.nodup_nil, List.not_mem_nil, List.mem_cons, not_false_eq_true, and_true, true_and, reduceIte, Nat.reduceAdd, Nat.reduceSub, Nat.reduceEqDiff, Nat.reduceLT, Nat.reduceLeDiff, Option.map_some, Option.map_none, Option.getD_some, reduceCtorEq, or_self, or_false, false_or, not_true_eq_false, decide_true, decide_false, Bool.not_true, Bool.not_false, Bool.false_eq_true, Nat.zero_add, Nat.add_zero, forall_const, Int.reduceLT, Int.reduceLE, Int.reduceNeg, Int.reduceToNat, Int.toNat_natCast, and_self]
theorem ks_small {B : Nat} {ks : List (List Pt)} (g : Good B ks) : ks.length ≤ sizeLine ∧ ∀ ps ∈ ks, ps.length ≤ sizeLine := by
  have hf := g.few
  have hB : B * B ≤ 9 := by rcases g.hb with h | h <;> subst h <;> decide
  exact ⟨by unfold sizeLine; omega, fun ps hp => by rw [g.len ps hp]; unfold sizeLine; omega⟩
theorem turned_g {B : Nat} {ks : List (List Pt)} (g : Good B ks) (w m : Nat) (h1 : w < 4) (h2 : m < 2) : m_turned [.v (bkT B ks), .v (poT w m)] = .ok (.r (bkT B (tqK B w m ks))) [.v (bkT B ks), .v (poT w m)] :=
  turned_ok B w m h1 h2 ks (ks_small g).1 (ks_small g).2 (good_bk g)
theorem backward_g {B : Nat} {ks : List (List Pt)} (g : Good B ks) : m_backward [.v (bkT B ks)] = .ok (.r (bkT B (ks.map List.reverse))) [.v (bkT B ks)] :=
  backward_ok B ks (ks_small g).1 (good_bk g)
theorem is_book_g {B : Nat} {ks : List (List Pt)} (g : Good B ks) : m_is_book [.v (bkT B ks)] = .ok (.r (.bool true)) [.v (bkT B ks)] := by
  rw [is_book_ok _ (good_few g), good_bk g]
theorem pl_lines {B : Nat} {ks : List (List Pt)} (g : Good B ks) (d : Nat) (hs : (B * B) ^ d ≤ 1000) : Pl 3 (.list (linesT B ks d)) := by
  have hf := g.few
  refine .lst (fun x hx => ?_) (by unfold linesT; rw [List.length_map, List.length_range]; omega)
  obtain ⟨k, _, rfl⟩ := List.mem_map.mp hx
  exact pl_map cT pl_cT _ (by rw [line_len]; omega)
theorem same_bk {B : Nat} {ks : List (List Pt)} (g : Good B ks) (f : Nat) (h : 4 < f) : m__law_same f [.v (bkT B ks), .v (bkT B ks)] = .ok (.r (.bool true)) [.v (bkT B ks), .v (bkT B ks)] := same_t 4 _ (pl_bkT g) f h
theorem pose_right_ok {B : Nat} {ks : List (List Pt)} (g : Good B ks) (d : Nat) (hd : d ≤ 200) (hs : (B * B) ^ d ≤ 1000) (w m : Nat) (h1 : w < 4) (h2 : m < 2) (s3 s3' : Sl) (h3 : Thr (linesT B ks d) s3 s3') :
    m__law_pose_right [.v (bkT B ks), .v (poT w m), .v (nT d), s3] = .ok (.r (.bool true)) [.v (bkT B ks), .v (poT w m), .v (nT d), s3'] := by
  have gt := good_tq g h1 h2
  have gr := good_rev g
  have gtr := good_rev gt
  obtain ⟨rl, qth, hrl⟩ := law_threads_ok gt d hd (by omega)
  have hline := ix_lines B (tqK B w m ks) d 0 gt.pos
  rw [line_cells] at hline
  have s1 := same_g [bkT B (tqK B w m ks), bkT B (tqK B w m ks), .bool true] (fun x hx => by
    simp only [List.mem_cons, List.not_mem_nil, or_false] at hx
    rcases hx with rfl | rfl | rfl
    · exact same_bk gt 7 (by omega)
    · exact same_bk gt 7 (by omega)
    · exact same_b 6 true) (by simp) _ _ (lsl_ow _) (lsl_ow _)
  have s2 := same_l 1 (cellsT B (tqK B w m ks) d 0 ((B * B) ^ d)) (cells_pl _ _ _ _ _) (by rw [cells_len]; omega) (by omega) _ _ (lsl_ow _) (lsl_v _)
  have s4 := same_l 4 [bkT B ((tqK B w m ks).map List.reverse), bkT B ((tqK B w m ks).map List.reverse)] (fun x hx => by
    simp only [List.mem_cons, List.not_mem_nil, or_false] at hx
    rcases hx with rfl | rfl <;> exact pl_bkT gtr) (by simp) (by omega) _ _ (lsl_ow _) (lsl_ow _)
  have qtb := turned_g gr w m h1 h2
  rw [tqK_rev] at qtb
  exact po_st m__law_turned m__law_wide m_turned m_is_book (m__law_same 8) m__law_threads m_whole m__law_backward m_backward x2__law_pose_right (bkT B ks) (poT w m) (nT d) (bkT B (tqK B w m ks)) (.int ((B : Int) ^ d)) (bkT B ((tqK B w m ks).map List.reverse)) (bkT B (ks.map List.reverse)) (linesT B ks d) _ _ rl s3 s3' h3
    (law_turned_ok g w m h1 h2) (law_wide_ok g d hd) (turned_g g w m h1 h2) (is_book_g gt) s1 (pr_x2 g d hs w m h1 h2 _ _ s3 s3' _ _ _ h3) qth hrl (gEq_refl not (pl_lines gt d hs) (by omega)) (whole_ok gt d hd (by omega)) hline s2 (law_backward_ok gt) (backward_g g) qtb (backward_g gt) s4
end Lw

set_option linter.all false
set_option maxRecDepth 100000
set_option maxHeartbeats 8000000
namespace Lw
open PySem PySem.Spec Ev Pu Mt
theorem rr_y1 (m : FSem) (t1 t2 po : T) (L : List T) (s0 s3 s5 s6 s7 s8 s9 : Sl) (h3 : Two L s3) (h : ∀ s s', Thr L s s' → m [.v t1, .v po, .v t2, s] = .ok (.r (.bool true)) [.v t1, .v po, .v t2, s']) :
    ∃ s3', Two L s3' ∧ (sIf (tNot (tb (eCall 4 m (aCons (eVar 1) (aCons (eVar 4) (aCons (eVar 2) (aCons (eVar 3) aNil))))))) (sRet (eK (.bool false))) sNil) [s0, .v t1, .v t2, s3, .v po, s5, s6, s7, s8, s9] = .ok .nx [s0, .v t1, .v t2, s3', .v po, s5, s6, s7, s8, s9] := by
  rcases h3 with rfl | rfl
  · have q := h _ _ (.inl ⟨rfl, rfl⟩)
    exact ⟨.v (.list L), .inr rfl, by simp only [q, Bx.t, eMut, gAppend, gInsert, eRev, eIndex, eLenSet, gInt, gLen, gTuple, gList, gAbs, gMax2, gMin2, gDivmod, gEq_int, runFn, sSeq, sIf, sSet, sSetIx, sRet, sRetN, sNil, sDrop, sAsg, sFor, sPar, sNever, setO, retO, setOs, presc, eVar, eK, eTwo, v2, eFn, eDisp, eTup, eLst, eCall, eCallR, eCallK, pick, toSl, toSls, sIdx, wb, bk, esc, escs, vals, aNil, aCons, tb, Ev.tNot, Ev.tAnd, Ev.tOr, gGt, gLt, gGe, gLe, gSub, gMod, gDiv, gPow, gAdd, gMul, gInt, mulOk, g1, g2, fInt, fLen, fTuple, fList, fAbs, eAnd, eOr, eNot, eIf, eNeg, eIsi, gII, gIx, gIsN, gN, gT, gsNil, gsCons, isLent_eq, lentO, lentS_v, lentS_un, lentS_f, lentS_t, lentS_z, finE, okArg, Out.bind, Od.val, slVal, Bx.tr, Bx.t, isN, L2.ixN, L2.atI, isInt, isBool, isTuple, isList, isStr, isDict, isTL, Nat.zero_le, id_eq, eq_self, Pu.c0, Pu.c1, Pu.c2, Pu.c3, Pu.c4, Pu.c5, Pu.c6, Pu.c7, Pu.c8, Pu.c9, Pu.s1, Pu.s2, Pu.s3, Pu.s4, Pu.s5, Pu.s6, Pu.s7, Pu.s8, Pu.s9, Int.reduceEq, Nat.reduceMul, Int.ofNat_eq_natCast, wipeE, restE, exists_eq_left', Option.some.injEq, Out.ok.injEq, Prod.mk.injEq, Option.bind_some, Option.bind_none, Option.bind_eq_bind, List.getElem?_cons_zero, List.getElem?_cons_succ, List.getElem?_nil, List.set_cons_zero, List.set_cons_succ, List.set_nil, List.length_cons, List.length_nil, List.replicate_succ, List.replicate_zero, List.cons_append, List.nil_append, List.append_nil, List.all_cons, List.all_nil, Bool.and_true, Bool.true_and, Bool.and_false, Bool.false_and, if_true, if_false, ite_true, ite_false, List.nodup_cons, List.nodup_nil, List.not_mem_nil, List.mem_cons, not_false_eq_true, and_true, true_and, reduceIte, Nat.reduceAdd, Nat.reduceSub, Nat.reduceEqDiff, Nat.reduceLT, Nat.reduceLeDiff, Option.map_some, Option.map_none, Option.getD_some, reduceCtorEq, or_self, or_false, false_or, not_true_eq_false, decide_true, decide_false, Bool.not_true, Bool.not_false, Bool.false_eq_true, Nat.zero_add, Nat.add_zero, forall_const, Int.reduceLT, Int.reduceLE, Int.reduceNeg, Int.reduceToNat, Int.toNat_natCast, and_self]⟩
  · have q := h _ _ (.inr ⟨rfl, rfl⟩)
    exact ⟨.v (.list L), .inr rfl, by simp only [q, eMut, gAppend, gInsert, eRev, eIndex, eLenSet, gInt, gLen, gTuple, gList, gAbs, gMax2, gMin2, gDivmod, gEq_int, runFn, sSeq, sIf, sSet, sSetIx, sRet, sRetN, sNil, sDrop, sAsg, sFor, sPar, sNever, setO, retO, setOs, presc, eVar, eK, eTwo, v2, eFn, eDisp, eTup, eLst, eCall, eCallR, eCallK, pick, toSl, toSls, sIdx, wb, bk, esc, escs, vals, aNil, aCons, tb, Ev.tNot, Ev.tAnd, Ev.tOr, gGt, gLt, gGe, gLe, gSub, gMod, gDiv, gPow, gAdd, gMul, gInt, mulOk, g1, g2, fInt, fLen, fTuple, fList, fAbs, eAnd, eOr, eNot, eIf, eNeg, eIsi, gII, gIx, gIsN, gN, gT, gsNil, gsCons, isLent_eq, lentO, lentS_v, lentS_un, lentS_f, lentS_t, lentS_z, finE, okArg, Out.bind, Od.val, slVal, Bx.tr, Bx.t, isN, L2.ixN, L2.atI, isInt, isBool, isTuple, isList, isStr, isDict, isTL, Nat.zero_le, id_eq, eq_self, Pu.c0, Pu.c1, Pu.c2, Pu.c3, Pu.c4, Pu.c5, Pu.c6, Pu.c7, Pu.c8, Pu.c9, Pu.s1, Pu.s2, Pu.s3, Pu.s4, Pu.s5, Pu.s6, Pu.s7, Pu.s8, Pu.s9, Int.reduceEq, Nat.reduceMul, Int.ofNat_eq_natCast, wipeE, restE, exists_eq_left', Option.some.injEq, Out.ok.injEq, Prod.mk.injEq, Option.bind_some, Option.bind_none, Option.bind_eq_bind, List.getElem?_cons_zero, List.getElem?_cons_succ, List.getElem?_nil, List.set_cons_zero, List.set_cons_succ, List.set_nil, List.length_cons, List.length_nil, List.replicate_succ, List.replicate_zero, List.cons_append, List.nil_append, List.append_nil, List.all_cons, List.all_nil, Bool.and_true, Bool.true_and, Bool.and_false, Bool.false_and, if_true, if_false, ite_true, ite_false, List.nodup_cons, List.nodup_nil, List.not_mem_nil, List.mem_cons, not_false_eq_true, and_true, true_and, reduceIte, Nat.reduceAdd, Nat.reduceSub, Nat.reduceEqDiff, Nat.reduceLT, Nat.reduceLeDiff, Option.map_some, Option.map_none, Option.getD_some, reduceCtorEq, or_self, or_false, false_or, not_true_eq_false, decide_true, decide_false, Bool.not_true, Bool.not_false, Bool.false_eq_true, Nat.zero_add, Nat.add_zero, forall_const, Int.reduceLT, Int.reduceLE, Int.reduceNeg, Int.reduceToNat, Int.toNat_natCast, and_self]⟩
theorem rr_l {B : Nat} {ks : List (List Pt)} (g : Good B ks) (d : Nat) (hd : d ≤ 200) (hs : (B * B) ^ d ≤ 1000) (s0 s3 s5 s6 s7 s8 s9 : Sl) (h3 : Two (linesT B ks d) s3) :
    ∃ s3' l4, Two (linesT B ks d) s3' ∧ lentS l4 = false ∧ l1__law_right [s0, .v (bkT B ks), .v (nT d), s3, .un, s5, s6, s7, s8, s9] = .ok .nx [s0, .v (bkT B ks), .v (nT d), s3', l4, s5, s6, s7, s8, s9] := by
  obtain ⟨e', h, s3', l4, t3, a4, rfl⟩ := for_on (g := gN 4) (b := y1__law_right) pT (fun _ e => ∃ s3 l4, Two (linesT B ks d) s3 ∧ lentS l4 = false ∧ e = [s0, .v (bkT B ks), .v (nT d), s3, l4, s5, s6, s7, s8, s9]) 8 posesL [] [s0, .v (bkT B ks), .v (nT d), s3, .un, s5, s6, s7, s8, s9] ⟨_, _, h3, rfl, rfl⟩ (by decide) fun p hp don e _ ⟨s3, l4, h3, a4, he⟩ => by
    subst he
    have hp2 := poses_lt p hp
    obtain ⟨s3', h3', st⟩ := rr_y1 m__law_pose_right (bkT B ks) (nT d) (pT p) (linesT B ks d) s0 s3 s5 s6 s7 s8 s9 h3 fun s s' hss => pose_right_ok g d hd hs p.1 p.2 hp2.1 hp2.2 s s' hss
    exact ⟨[s0, .v (bkT B ks), .v (nT d), s3, .v (pT p), s5, s6, s7, s8, s9], by simp only [a4, eMut, gAppend, gInsert, eRev, eIndex, eLenSet, gInt, gLen, gTuple, gList, gAbs, gMax2, gMin2, gDivmod, gEq_int, runFn, sSeq, sIf, sSet, sSetIx, sRet, sRetN, sNil, sDrop, sAsg, sFor, sPar, sNever, setO, retO, setOs, presc, eVar, eK, eTwo, v2, eFn, eDisp, eTup, eLst, eCall, eCallR, eCallK, pick, toSl, toSls, sIdx, wb, bk, esc, escs, vals, aNil, aCons, tb, Ev.tNot, Ev.tAnd, Ev.tOr, gGt, gLt, gGe, gLe, gSub, gMod, gDiv, gPow, gAdd, gMul, gInt, mulOk, g1, g2, fInt, fLen, fTuple, fList, fAbs, eAnd, eOr, eNot, eIf, eNeg, eIsi, gII, gIx, gIsN, gN, gT, gsNil, gsCons, isLent_eq, lentO, lentS_v, lentS_un, lentS_f, lentS_t, lentS_z, finE, okArg, Out.bind, Od.val, slVal, Bx.tr, Bx.t, isN, L2.ixN, L2.atI, isInt, isBool, isTuple, isList, isStr, isDict, isTL, Nat.zero_le, id_eq, eq_self, Pu.c0, Pu.c1, Pu.c2, Pu.c3, Pu.c4, Pu.c5, Pu.c6, Pu.c7, Pu.c8, Pu.c9, Pu.s1, Pu.s2, Pu.s3, Pu.s4, Pu.s5, Pu.s6, Pu.s7, Pu.s8, Pu.s9, Int.reduceEq, Nat.reduceMul, Int.ofNat_eq_natCast, wipeE, restE, exists_eq_left', Option.some.injEq, Out.ok.injEq, Prod.mk.injEq, Option.bind_some, Option.bind_none, Option.bind_eq_bind, List.getElem?_cons_zero, List.getElem?_cons_succ, List.getElem?_nil, List.set_cons_zero, List.set_cons_succ, List.set_nil, List.length_cons, List.length_nil, List.replicate_succ, List.replicate_zero, List.cons_append, List.nil_append, List.append_nil, List.all_cons, List.all_nil, Bool.and_true, Bool.true_and, Bool.and_false, Bool.false_and, if_true, if_false, ite_true, ite_false, List.nodup_cons, List.nodup_nil, List.not_mem_nil, List.mem_cons, not_false_eq_true, and_true, true_and, reduceIte, Nat.reduceAdd, Nat.reduceSub, Nat.reduceEqDiff, Nat.reduceLT, Nat.reduceLeDiff, Option.map_some, Option.map_none, Option.getD_some, reduceCtorEq, or_self, or_false, false_or, not_true_eq_false, decide_true, decide_false, Bool.not_true, Bool.not_false, Bool.false_eq_true, Nat.zero_add, Nat.add_zero, forall_const, Int.reduceLT, Int.reduceLE, Int.reduceNeg, Int.reduceToNat, Int.toNat_natCast, and_self], _, .inl st, _, _, h3', rfl, rfl⟩
  refine ⟨s3', l4, t3, a4, ?_⟩
  unfold l1__law_right
  rw [sFor_eq (bh_i m__law_all_poses _ _ poses_ok)]
  exact h
theorem rv_e (ts : List T) (t : T) (h : t = .list ts) (s0 s1 s2 s3 s4 s5 s6 s7 s8 : Sl) : eRev (eVar 9) [s0, s1, s2, s3, s4, s5, s6, s7, s8, .v t] = .ok (.b (.l ts.reverse)) [s0, s1, s2, s3, s4, s5, s6, s7, s8, .v t] := by
  subst h
  rfl
theorem rv_x {B : Nat} {ks : List (List Pt)} (g : Good B ks) (d : Nat) (hs : (B * B) ^ d ≤ 1000) (s0 s1 s2 s3 s4 s5 s6 s7 s8 : Sl) (h3 : Two (linesT B ks d) s3) :
    x1__law_right [s0, s1, s2, s3, s4, s5, s6, s7, s8, .un] = .ok (.b (.l (linesT B (ks.map List.reverse) d))) [s0, s1, s2, .v (.list (linesT B ks d)), s4, s5, s6, s7, s8, .un] := by
  have hi : iOf (eVar 3) [s0, s1, s2, s3, s4, s5, s6, s7, s8, .un] = .ok (linesT B ks d) [s0, s1, s2, .v (.list (linesT B ks d)), s4, s5, s6, s7, s8, .un] := by
    rcases h3 with rfl | rfl <;> rfl
  have hf := g.few
  unfold x1__law_right
  rw [comp_eq hi, lines_rev g d]
  refine comp_on (fun k => plT (lineOf B ks d k)) (fun k => .list (((lineOf B ks d k).reverse).map cT)) (List.range ks.length) [] _ (by rw [List.length_nil, List.length_range]; unfold sizeLine; omega) fun k hk => ?_
  have q := rv_e ((lineOf B ks d k).map cT) (plT (lineOf B ks d k)) rfl s0 s1 s2 (.v (.list (linesT B ks d))) s4 s5 s6 s7 s8
  rw [← List.map_reverse] at q
  exact ⟨_, rfl, _, rfl, _, _, q, _, rfl, rfl⟩
theorem rs_st (mp mt mth mlb mba mib mtu ms mwh mbh : FSem) (y : SemS) (x1 : SemE) (d0 d1 d2 d3 d4 d5 d6 : List T) (t1 t2 bb u1 u2 pq va vb vc w1 a1 b1 a2 b2 : T) (b dp : Int) (kds L R ln found : List T) (rl rl2 : Od) (s3 s3' l4 : Sl)
    (h1e : t1 = .tuple [.int b, .tuple kds]) (hdp : (if b = 2 then 4 else 3 : Int) = dp) (hrl : (rl = .b (.l L) ∧ s3 = .ow false (.l L)) ∨ (rl = .r (.list L) ∧ s3 = .v (.list L))) (h3 : Two L s3') (a4 : lentS l4 = false) (hf : found = [bb, bb, .bool true, t1, t1])
    (q0 : mp [.ow true (.l d0)] = .ok (.r t1) [.ow true (.l d1)]) (q1 : mt [.ow true (.l d1), .v (.int dp)] = .ok (.r t2) [.ow true (.l d2), .v (.int dp)]) (q2 : mth [.v t1, .v t2] = .ok rl [.v t1, .v t2])
    (qy : y [.ow true (.l d2), .v t1, .v t2, s3, .un, .un, .un, .un, .un, .un] = .ok .nx [.ow true (.l d2), .v t1, .v t2, s3', l4, .un, .un, .un, .un, .un])
    (qlb : mlb [.v t1] = .ok (.r bb) [.v t1]) (qba : mba [.v t1] = .ok (.r bb) [.v t1]) (qbb : mba [.v bb] = .ok (.r t1) [.v bb]) (qib : mib [.v bb] = .ok (.r (.bool true)) [.v bb]) (qt0 : mtu [.v t1, .v (.tuple [.int 0, .int 0])] = .ok (.r t1) [.v t1, .v (.tuple [.int 0, .int 0])])
    (s1 : ms [.ow true (.l found), .ow true (.l found)] = .ok (.r (.bool true)) [.ow true (.l found), .ow true (.l found)])
    (q3 : mth [.v bb, .v t2] = .ok rl2 [.v bb, .v t2]) (hrl2 : rl2 = .b (.l R) ∨ rl2 = .r (.list R))
    (qx : x1 [.ow true (.l d2), .v t1, .v t2, s3', l4, .v bb, .ow false (.l found), .un, .un, .un] = .ok (.b (.l R)) [.ow true (.l d2), .v t1, .v t2, .v (.list L), l4, .v bb, .ow false (.l found), .un, .un, .un]) (he : gEq not (.list R) (.list R) = some (.r (.bool false)))
    (qw : mwh [.v bb, .v t2] = .ok (.b (.l ln.reverse)) [.v bb, .v t2]) (h0 : gIx (.list L) (.int 0) = some (.r (.list ln))) (s2 : ms [.ow true (.l ln.reverse), .ow true (.l ln.reverse)] = .ok (.r (.bool true)) [.ow true (.l ln.reverse), .ow true (.l ln.reverse)])
    (k1 : mt [.ow true (.l d2), .v (.int 4)] = .ok (.r a1) [.ow true (.l d3), .v (.int 4)]) (k2 : mt [.ow true (.l d3), .v (.int 2)] = .ok (.r b1) [.ow true (.l d4), .v (.int 2)]) (k3 : mt [.ow true (.l d4), .v (.int 4)] = .ok (.r a2) [.ow true (.l d5), .v (.int 4)]) (k4 : mt [.ow true (.l d5), .v (.int 2)] = .ok (.r b2) [.ow true (.l d6), .v (.int 2)])
    (p1 : mtu [.v t1, .v (.tuple [a2, b2])] = .ok (.r u1) [.v t1, .v (.tuple [a2, b2])]) (p2 : mtu [.v u1, .v (.tuple [a1, b1])] = .ok (.r u2) [.v u1, .v (.tuple [a1, b1])]) (p3 : mbh [.v (.tuple [a1, b1]), .v (.tuple [a2, b2])] = .ok (.r pq) [.v (.tuple [a1, b1]), .v (.tuple [a2, b2])]) (p4 : mtu [.v t1, .v pq] = .ok (.r u2) [.v t1, .v pq])
    (s4 : ms [.v u2, .v u2] = .ok (.r (.bool true)) [.v u2, .v u2])
    (o1 : mtu [.v t1, .v (.tuple [.int 1, .int 0])] = .ok (.r va) [.v t1, .v (.tuple [.int 1, .int 0])]) (o2 : mtu [.v va, .v (.tuple [.int 1, .int 0])] = .ok (.r vb) [.v va, .v (.tuple [.int 1, .int 0])]) (o3 : mtu [.v vb, .v (.tuple [.int 1, .int 0])] = .ok (.r vc) [.v vb, .v (.tuple [.int 1, .int 0])]) (o4 : mtu [.v vc, .v (.tuple [.int 1, .int 0])] = .ok (.r t1) [.v vc, .v (.tuple [.int 1, .int 0])])
    (o5 : mtu [.v t1, .v (.tuple [.int 0, .int 1])] = .ok (.r w1) [.v t1, .v (.tuple [.int 0, .int 1])]) (o6 : mtu [.v w1, .v (.tuple [.int 0, .int 1])] = .ok (.r t1) [.v w1, .v (.tuple [.int 0, .int 1])])
    (s5 : ms [.ow true (.l [t1, t1]), .ow true (.l [t1, t1])] = .ok (.r (.bool true)) [.ow true (.l [t1, t1]), .ow true (.l [t1, t1])]) :
    runFn 10 ((sSeq (sSet 1 (eCall 1 mp (aCons (eVar 0) aNil))) (sSeq (sSet 2 (eCall 2 mt (aCons (eVar 0) (aCons (eIf (tb (eOp2 (gEq id) (eOp2 gIx (eVar 1) (eK (.int 0))) (eK (.int 2)))) (eK (.int 4)) (eK (.int 3))) aNil)))) (sSeq (sSet 3 (eCall 2 mth (aCons (eVar 1) (aCons (eVar 2) aNil)))) (sSeq y (sSeq (sSet 5 (eCall 1 mlb (aCons (eVar 1) aNil))) (sSeq (sSet 6 (eLst (aCons (eCall 1 mba (aCons (eVar 1) aNil)) (aCons (eCallK 1 [0] mba (aCons (eVar 1) aNil)) (aCons (eCall 1 mib (aCons (eVar 5) aNil)) (aCons (eCall 1 mba (aCons (eVar 5) aNil)) (aCons (eCall 2 mtu (aCons (eVar 1) (aCons (eTup (aCons (eK (.int 0)) (aCons (eK (.int 0)) aNil))) aNil))) aNil))))))) (sSeq (sIf (tNot (tb (eCall 2 (ms) (aCons (eVar 6) (aCons (eLst (aCons (eVar 5) (aCons (eVar 5) (aCons (eK (.bool true)) (aCons (eVar 1) (aCons (eVar 1) aNil)))))) aNil))))) (sRet (eK (.bool false))) sNil) (sSeq (sIf (tOr (tb (eOp2 (gEq not) (eCall 2 mth (aCons (eVar 5) (aCons (eVar 2) aNil))) x1)) (tNot (tb (eCall 2 (ms) (aCons (eCall 2 mwh (aCons (eVar 5) (aCons (eVar 2) aNil))) (aCons (eRev (eOp2 gIx (eVar 3) (eK (.int 0)))) aNil)))))) (sRet (eK (.bool false))) sNil) (sSeq (sPar [4, 7] (aCons (eTup (aCons (eCall 2 mt (aCons (eVar 0) (aCons (eK (.int 4)) aNil))) (aCons (eCall 2 mt (aCons (eVar 0) (aCons (eK (.int 2)) aNil))) aNil))) (aCons (eTup (aCons (eCall 2 mt (aCons (eVar 0) (aCons (eK (.int 4)) aNil))) (aCons (eCall 2 mt (aCons (eVar 0) (aCons (eK (.int 2)) aNil))) aNil))) aNil))) (sSeq (sIf (tNot (tb (eCall 2 (ms) (aCons (eCall 2 mtu (aCons (eCall 2 mtu (aCons (eVar 1) (aCons (eVar 7) aNil))) (aCons (eVar 4) aNil))) (aCons (eCall 2 mtu (aCons (eVar 1) (aCons (eCall 2 mbh (aCons (eVar 4) (aCons (eVar 7) aNil))) aNil))) aNil))))) (sRet (eK (.bool false))) sNil) (sSeq (sSet 8 (eCall 2 mtu (aCons (eCall 2 mtu (aCons (eCall 2 mtu (aCons (eCall 2 mtu (aCons (eVar 1) (aCons (eTup (aCons (eK (.int 1)) (aCons (eK (.int 0)) aNil))) aNil))) (aCons (eTup (aCons (eK (.int 1)) (aCons (eK (.int 0)) aNil))) aNil))) (aCons (eTup (aCons (eK (.int 1)) (aCons (eK (.int 0)) aNil))) aNil))) (aCons (eTup (aCons (eK (.int 1)) (aCons (eK (.int 0)) aNil))) aNil)))) (sRet (eCall 2 (ms) (aCons (eLst (aCons (eVar 8) (aCons (eCall 2 mtu (aCons (eCall 2 mtu (aCons (eVar 1) (aCons (eTup (aCons (eK (.int 0)) (aCons (eK (.int 1)) aNil))) aNil))) (aCons (eTup (aCons (eK (.int 0)) (aCons (eK (.int 1)) aNil))) aNil))) aNil))) (aCons (eLst (aCons (eVar 1) (aCons (eVar 1) aNil))) aNil)))))))))))))))) [.ow true (.l d0)] = .ok (.r (.bool true)) [.ow true (.l d6)] := by
  have hb2 : gIx t1 (.int 0) = some (.r (.int b)) := by rw [h1e]; rfl
  subst hf
  clear h1e
  by_cases hbb : b = 2
  · subst hbb
    rw [if_pos rfl] at hdp
    subst hdp
    rcases hrl with ⟨rfl, rfl⟩ | ⟨rfl, rfl⟩ <;> rcases hrl2 with rfl | rfl <;> rcases h3 with rfl | rfl <;> simp only [hb2, q0, q1, q2, qy, qlb, qba, qbb, qib, qt0, s1, q3, qx, he, qw, h0, s2, k1, k2, k3, k4, p1, p2, p3, p4, s4, o1, o2, o3, o4, o5, o6, s5, a4, pick1, eMut, gAppend, gInsert, eRev, eIndex, eLenSet, gInt, gLen, gTuple, gList, gAbs, gMax2, gMin2, gDivmod, gEq_int, runFn, sSeq, sIf, sSet, sSetIx, sRet, sRetN, sNil, sDrop, sAsg, sFor, sPar, sNever, setO, retO, setOs, presc, eVar, eK, eTwo, v2, eFn, eDisp, eTup, eLst, eCall, eCallR, eCallK, toSl, toSls, sIdx, wb, bk, esc, escs, vals, aNil, aCons, tb, Ev.tNot, Ev.tAnd, Ev.tOr, gGt, gLt, gGe, gLe, gSub, gMod, gDiv, gPow, gAdd, gMul, gInt, mulOk, g1, g2, fInt, fLen, fTuple, fList, fAbs, eAnd, eOr, eNot, eIf, eNeg, eIsi, gII, gIsN, gN, gT, gsNil, gsCons, isLent_eq, lentO, lentS_v, lentS_un, lentS_f, lentS_t, lentS_z, finE, okArg, Out.bind, Od.val, slVal, Bx.tr, Bx.t, isN, L2.ixN, L2.atI, isInt, isBool, isTuple, isList, isStr, isDict, isTL, Nat.zero_le, id_eq, eq_self, Pu.c0, Pu.c1, Pu.c2, Pu.c3, Pu.c4, Pu.c5, Pu.c6, Pu.c7, Pu.c8, Pu.c9, Pu.s1, Pu.s2, Pu.s3, Pu.s4, Pu.s5, Pu.s6, Pu.s7, Pu.s8, Pu.s9, Int.reduceEq, Nat.reduceMul, Int.ofNat_eq_natCast, wipeE, restE, exists_eq_left', Option.some.injEq, Out.ok.injEq, Prod.mk.injEq, Option.bind_some, Option.bind_none, Option.bind_eq_bind, List.getElem?_cons_zero, List.getElem?_cons_succ, List.getElem?_nil, List.set_cons_zero, List.set_cons_succ, List.set_nil, List.length_cons, List.length_nil, List.replicate_succ, List.replicate_zero, List.cons_append, List.nil_append, List.append_nil, List.all_cons, List.all_nil, Bool.and_true, Bool.true_and, Bool.and_false, Bool.false_and, if_true, if_false, ite_true, ite_false, List.nodup_cons, List.nodup_nil, List.not_mem_nil, List.mem_cons, not_false_eq_true, and_true, true_and, reduceIte, Nat.reduceAdd, Nat.reduceSub, Nat.reduceEqDiff, Nat.reduceLT, Nat.reduceLeDiff, Option.map_some, Option.map_none, Option.getD_some, reduceCtorEq, or_self, or_false, false_or, not_true_eq_false, decide_true, decide_false, Bool.not_true, Bool.not_false, Bool.false_eq_true, Nat.zero_add, Nat.add_zero, forall_const, Int.reduceLT, Int.reduceLE, Int.reduceNeg, Int.reduceToNat, Int.toNat_natCast, and_self]
  · rw [if_neg hbb] at hdp
    subst hdp
    rcases hrl with ⟨rfl, rfl⟩ | ⟨rfl, rfl⟩ <;> rcases hrl2 with rfl | rfl <;> rcases h3 with rfl | rfl <;> simp only [hbb, hb2, q0, q1, q2, qy, qlb, qba, qbb, qib, qt0, s1, q3, qx, he, qw, h0, s2, k1, k2, k3, k4, p1, p2, p3, p4, s4, o1, o2, o3, o4, o5, o6, s5, a4, pick1, eMut, gAppend, gInsert, eRev, eIndex, eLenSet, gInt, gLen, gTuple, gList, gAbs, gMax2, gMin2, gDivmod, gEq_int, runFn, sSeq, sIf, sSet, sSetIx, sRet, sRetN, sNil, sDrop, sAsg, sFor, sPar, sNever, setO, retO, setOs, presc, eVar, eK, eTwo, v2, eFn, eDisp, eTup, eLst, eCall, eCallR, eCallK, toSl, toSls, sIdx, wb, bk, esc, escs, vals, aNil, aCons, tb, Ev.tNot, Ev.tAnd, Ev.tOr, gGt, gLt, gGe, gLe, gSub, gMod, gDiv, gPow, gAdd, gMul, gInt, mulOk, g1, g2, fInt, fLen, fTuple, fList, fAbs, eAnd, eOr, eNot, eIf, eNeg, eIsi, gII, gIsN, gN, gT, gsNil, gsCons, isLent_eq, lentO, lentS_v, lentS_un, lentS_f, lentS_t, lentS_z, finE, okArg, Out.bind, Od.val, slVal, Bx.tr, Bx.t, isN, L2.ixN, L2.atI, isInt, isBool, isTuple, isList, isStr, isDict, isTL, Nat.zero_le, id_eq, eq_self, Pu.c0, Pu.c1, Pu.c2, Pu.c3, Pu.c4, Pu.c5, Pu.c6, Pu.c7, Pu.c8, Pu.c9, Pu.s1, Pu.s2, Pu.s3, Pu.s4, Pu.s5, Pu.s6, Pu.s7, Pu.s8, Pu.s9, Int.reduceEq, Nat.reduceMul, Int.ofNat_eq_natCast, wipeE, restE, exists_eq_left', Option.some.injEq, Out.ok.injEq, Prod.mk.injEq, Option.bind_some, Option.bind_none, Option.bind_eq_bind, List.getElem?_cons_zero, List.getElem?_cons_succ, List.getElem?_nil, List.set_cons_zero, List.set_cons_succ, List.set_nil, List.length_cons, List.length_nil, List.replicate_succ, List.replicate_zero, List.cons_append, List.nil_append, List.append_nil, List.all_cons, List.all_nil, Bool.and_true, Bool.true_and, Bool.and_false, Bool.false_and, if_true, if_false, ite_true, ite_false, List.nodup_cons, List.nodup_nil, List.not_mem_nil, List.mem_cons, not_false_eq_true, and_true, true_and, reduceIte, Nat.reduceAdd, Nat.reduceSub, Nat.reduceEqDiff, Nat.reduceLT, Nat.reduceLeDiff, Option.map_some, Option.map_none, Option.getD_some, reduceCtorEq, or_self, or_false, false_or, not_true_eq_false, decide_true, decide_false, Bool.not_true, Bool.not_false, Bool.false_eq_true, Nat.zero_add, Nat.add_zero, forall_const, Int.reduceLT, Int.reduceLE, Int.reduceNeg, Int.reduceToNat, Int.toNat_natCast, and_self]
theorem right_ok (D : Dk) : ∃ D' : Dk, m__law_right [.ow true (.l (dkT D))] = .ok (.r (.bool true)) [.ow true (.l (dkT D'))] := by
  obtain ⟨D1, B, ks, h0, g⟩ := page_ok D
  have hB := g.hb
  obtain ⟨dp, hdp, hdp2⟩ : ∃ dp : Nat, (if (B : Int) = 2 then 4 else 3 : Int) = (dp : Int) ∧ (0 < dp ∧ dp ≤ 100 ∧ ∀ d, d < dp → (B * B) ^ d ≤ 1000) := by
    rcases hB with h | h <;> subst h
    · refine ⟨4, rfl, by omega, by omega, fun d hd => ?_⟩
      have : (2 * 2) ^ d ≤ (2 * 2) ^ 4 := Nat.pow_le_pow_right (by decide) (by omega)
      have e : (2 * 2) ^ 4 = 256 := by decide
      omega
    · refine ⟨3, rfl, by omega, by omega, fun d hd => ?_⟩
      have : (3 * 3) ^ d ≤ (3 * 3) ^ 2 := Nat.pow_le_pow_right (by decide) (by omega)
      have e : (3 * 3) ^ 2 = 81 := by decide
      omega
  have t1 := tk_ok D1 dp hdp2.1 (by omega)
  have l1 := tkV_lt D1 hdp2.1
  generalize tkV D1 dp = d at *
  generalize tkD D1 dp = D2 at *
  have hs := hdp2.2.2 d l1
  have hdl : d ≤ 200 := by omega
  have gr := good_rev g
  obtain ⟨rl, h2, hrl⟩ := law_threads_ok g d hdl (by omega)
  obtain ⟨rl2, h2r, hrl2⟩ := law_threads_ok gr d hdl (by omega)
  obtain ⟨s3, hrl', hTwo⟩ : ∃ s3, ((rl = .b (.l (linesT B ks d)) ∧ s3 = .ow false (.l (linesT B ks d))) ∨ (rl = .r (.list (linesT B ks d)) ∧ s3 = .v (.list (linesT B ks d)))) ∧ Two (linesT B ks d) s3 := by
    rcases hrl with h | h
    · exact ⟨_, .inl ⟨h, rfl⟩, .inl rfl⟩
    · exact ⟨_, .inr ⟨h, rfl⟩, .inr rfl⟩
  obtain ⟨s3', l4, t3, a4, hy⟩ := rr_l g d hdl hs (.ow true (.l (dkT D2))) s3 .un .un .un .un .un hTwo
  have k1 := tk_ok D2 4 (by omega) (by omega)
  have j1 := tkV_lt D2 (n := 4) (by omega)
  generalize tkV D2 4 = a1 at k1 j1
  generalize tkD D2 4 = D3 at k1
  have k2 := tk_ok D3 2 (by omega) (by omega)
  have j2 := tkV_lt D3 (n := 2) (by omega)
  generalize tkV D3 2 = b1 at k2 j2
  generalize tkD D3 2 = D4 at k2
  have k3 := tk_ok D4 4 (by omega) (by omega)
  have j3 := tkV_lt D4 (n := 4) (by omega)
  generalize tkV D4 4 = a2 at k3 j3
  generalize tkD D4 4 = D5 at k3
  have k4 := tk_ok D5 2 (by omega) (by omega)
  have j4 := tkV_lt D5 (n := 2) (by omega)
  generalize tkV D5 2 = b2 at k4 j4
  generalize tkD D5 2 = D6 at k4
  have hline := ix_lines B ks d 0 g.pos
  have wr := whole_ok gr d hdl (by omega)
  have ew : cellsT B (ks.map List.reverse) d 0 ((B * B) ^ d) = ((lineOf B ks d 0).map cT).reverse := by
    have e1 := line_cells B (ks.map List.reverse) d
    rw [line_rev g d 0 g.pos] at e1
    unfold plT at e1
    rw [List.map_reverse] at e1
    injection e1 with e1
    exact e1.symm
  rw [ew] at wr
  have hr2 : (ks.map List.reverse).map List.reverse = ks := by
    rw [List.map_map]
    have : (List.reverse ∘ List.reverse : List Pt → List Pt) = id := by funext x; exact List.reverse_reverse x
    rw [this, List.map_id]
  have qbb := backward_g gr
  rw [hr2] at qbb
  have qt0 := turned_g g 0 0 (by omega) (by omega)
  rw [tqK_id] at qt0
  have c1 : (a1, b1).1 < 4 ∧ (a1, b1).2 < 2 := ⟨j1, j2⟩
  have c2 : (a2, b2).1 < 4 ∧ (a2, b2).2 < 2 := ⟨j3, j4⟩
  have c3 := cmpo_lt c1 c2
  have g1 := good_tq g j3 j4
  have p1 := turned_g g a2 b2 j3 j4
  have p2 := turned_g g1 a1 b1 j1 j2
  rw [tqK_cmpo B (a1, b1) (a2, b2) c1 c2] at p2
  have p4 := turned_g g _ _ c3.1 c3.2
  have gu := good_tq g c3.1 c3.2
  have r10 : (1 : Nat) < 4 ∧ (0 : Nat) < 2 := ⟨by omega, by omega⟩
  have r01 : (0 : Nat) < 4 ∧ (1 : Nat) < 2 := ⟨by omega, by omega⟩
  have gv1 := good_tq g r10.1 r10.2
  have gv2 := good_tq gv1 r10.1 r10.2
  have gv3 := good_tq gv2 r10.1 r10.2
  have gw1 := good_tq g r01.1 r01.2
  have o4 := turned_g gv3 1 0 r10.1 r10.2
  have e4 : tqK B 1 0 (tqK B 1 0 (tqK B 1 0 (tqK B 1 0 ks))) = ks := by
    have z1 := tqK_cmpo B (1, 0) (1, 0) r10 r10 ks
    have z2 := tqK_cmpo B (1, 0) (2, 0) r10 ⟨by decide, by decide⟩ ks
    have z3 := tqK_cmpo B (1, 0) (3, 0) r10 ⟨by decide, by decide⟩ ks
    have y1 : cmpo (1, 0) (1, 0) = (2, 0) := by decide
    have y2 : cmpo (1, 0) (2, 0) = (3, 0) := by decide
    have y3 : cmpo (1, 0) (3, 0) = (0, 0) := by decide
    rw [y1] at z1
    rw [y2] at z2
    rw [y3] at z3
    dsimp only at z1 z2 z3
    rw [z1, z2, z3, tqK_id]
  rw [e4] at o4
  have o6 := turned_g gw1 0 1 r01.1 r01.2
  have e6 : tqK B 0 1 (tqK B 0 1 ks) = ks := by
    have z1 := tqK_cmpo B (0, 1) (0, 1) r01 r01 ks
    have y1 : cmpo (0, 1) (0, 1) = (0, 0) := by decide
    rw [y1] at z1
    dsimp only at z1
    rw [z1, tqK_id]
  rw [e6] at o6
  have s1 := same_g [bkT B (ks.map List.reverse), bkT B (ks.map List.reverse), .bool true, bkT B ks, bkT B ks] (fun x hx => by
    simp only [List.mem_cons, List.not_mem_nil, or_false] at hx
    rcases hx with rfl | rfl | rfl | rfl | rfl
    · exact same_bk gr 7 (by omega)
    · exact same_bk gr 7 (by omega)
    · exact same_b 6 true
    · exact same_bk g 7 (by omega)
    · exact same_bk g 7 (by omega)) (by simp) _ _ (lsl_ow _) (lsl_ow _)
  have s2 := same_l 1 (((lineOf B ks d 0).map cT).reverse) (fun x hx => by
    obtain ⟨c, _, rfl⟩ := List.mem_map.mp (List.mem_reverse.mp hx)
    exact pl_cT _) (by rw [List.length_reverse, List.length_map, line_len]; omega) (by omega) _ _ (lsl_ow _) (lsl_ow _)
  have s5 := same_l 4 [bkT B ks, bkT B ks] (fun x hx => by
    simp only [List.mem_cons, List.not_mem_nil, or_false] at hx
    rcases hx with rfl | rfl <;> exact pl_bkT g) (by simp) (by omega) _ _ (lsl_ow _) (lsl_ow _)
  exact ⟨D6, rs_st m__law_page m__law_take m__law_threads m__law_backward m_backward m_is_book m_turned (m__law_same 8) m_whole m__law_behind l1__law_right x1__law_right _ _ _ _ _ _ _ (bkT B ks) (nT d) (bkT B (ks.map List.reverse)) _ _ _ _ _ _ _ _ _ _ _ (B : Int) (dp : Int) (ks.map kT) (linesT B ks d) (linesT B (ks.map List.reverse) d) ((lineOf B ks d 0).map cT) _ rl rl2 s3 s3' l4
    rfl hdp hrl' t3 a4 rfl h0 t1 h2 hy (law_backward_ok g) (backward_g g) qbb (is_book_g gr) qt0 s1 h2r hrl2 (rv_x g d hs _ _ _ s3' _ _ _ _ _ t3) (gEq_refl not (pl_lines gr d hs) (by omega)) wr hline s2 k1 k2 k3 k4 p1 p2 (behind_is (a1, b1) (a2, b2) c1 c2) p4 (same_bk gu 8 (by omega))
    (turned_g g 1 0 r10.1 r10.2) (turned_g gv1 1 0 r10.1 r10.2) (turned_g gv2 1 0 r10.1 r10.2) o4 (turned_g g 0 1 r01.1 r01.2) o6 s5⟩
/-! ### the law -/
theorem law_y (mr md : FSem) (t0 t1 : T) (d d' : List T) (h1 : md [.v t0, .v t1] = .ok (.b (.l d)) [.v t0, .v t1]) (h2 : mr [.ow true (.l d)] = .ok (.r (.bool true)) [.ow true (.l d')]) :
    (sIf (tNot (tb (eCall 1 mr (aCons (eCall 2 md (aCons (eVar 0) (aCons (eVar 1) aNil))) aNil)))) (sRet (eK (.bool false))) sNil) [.v t0, .v t1] = .ok .nx [.v t0, .v t1] := by
  simp only [h1, h2, eMut, gAppend, gInsert, eRev, eIndex, eLenSet, gInt, gLen, gTuple, gList, gAbs, gMax2, gMin2, gDivmod, gEq_int, runFn, sSeq, sIf, sSet, sSetIx, sRet, sRetN, sNil, sDrop, sAsg, sFor, sPar, sNever, setO, retO, setOs, presc, eVar, eK, eTwo, v2, eFn, eDisp, eTup, eLst, eCall, eCallR, eCallK, pick, toSl, toSls, sIdx, wb, bk, esc, escs, vals, aNil, aCons, tb, Ev.tNot, Ev.tAnd, Ev.tOr, gGt, gLt, gGe, gLe, gSub, gMod, gDiv, gPow, gAdd, gMul, gInt, mulOk, g1, g2, fInt, fLen, fTuple, fList, fAbs, eAnd, eOr, eNot, eIf, eNeg, eIsi, gII, gIx, gIsN, gN, gT, gsNil, gsCons, isLent_eq, lentO, lentS_v, lentS_un, lentS_f, lentS_t, lentS_z, finE, okArg, Out.bind, Od.val, slVal, Bx.tr, Bx.t, isN, L2.ixN, L2.atI, isInt, isBool, isTuple, isList, isStr, isDict, isTL, Nat.zero_le, id_eq, eq_self, Pu.c0, Pu.c1, Pu.c2, Pu.c3, Pu.c4, Pu.c5, Pu.c6, Pu.c7, Pu.c8, Pu.c9, Pu.s1, Pu.s2, Pu.s3, Pu.s4, Pu.s5, Pu.s6, Pu.s7, Pu.s8, Pu.s9, Int.reduceEq, Nat.reduceMul, Int.ofNat_eq_natCast, wipeE, restE, exists_eq_left', Option.some.injEq, Out.ok.injEq, Prod.mk.injEq, Option.bind_some, Option.bind_none, Option.bind_eq_bind, List.getElem?_cons_zero, List.getElem?_cons_succ, List.getElem?_nil, List.set_cons_zero, List.set_cons_succ, List.set_nil, List.length_cons, List.length_nil, List.replicate_succ, List.replicate_zero, List.cons_append, List.nil_append, List.append_nil, List.all_cons, List.all_nil, Bool.and_true, Bool.true_and, Bool.and_false, Bool.false_and, if_true, if_false, ite_true, ite_false, List.nodup_cons, List.nodup_nil, List.not_mem_nil, List.mem_cons, not_false_eq_true, and_true, true_and, reduceIte, Nat.reduceAdd, Nat.reduceSub, Nat.reduceEqDiff, Nat.reduceLT, Nat.reduceLeDiff, Option.map_some, Option.map_none, Option.getD_some, reduceCtorEq, or_self, or_false, false_or, not_true_eq_false, decide_true, decide_false, Bool.not_true, Bool.not_false, Bool.false_eq_true, Nat.zero_add, Nat.add_zero, forall_const, Int.reduceLT, Int.reduceLE, Int.reduceNeg, Int.reduceToNat, Int.toNat_natCast, and_self]
theorem law_n (k : Nat) : ∃ n : Nat, n ≤ 10 ∧ (if (if (10 : Int) < (k : Int) then 10 else (k : Int)) > 2 then (if (10 : Int) < (k : Int) then 10 else (k : Int)) else 2) = (n : Int) := by
  refine ⟨max 2 (min k 10), by omega, ?_⟩
  split <;> split <;> omega
theorem law_i (ts : List T) (t0 : T) (h0 : t0 = .list ts) (n : Int) (hn : (if (if (10 : Int) < (ts.length : Int) then 10 else (ts.length : Int)) > 2 then (if (10 : Int) < (ts.length : Int) then 10 else (ts.length : Int)) else 2) = n) :
    aCons (eFn gMax2 (aCons (eK (.int 2)) (aCons (eFn gMin2 (aCons (eFn gLen (aCons (eVar 0) aNil)) (aCons (eK (.int 10)) aNil))) aNil))) aNil [.v t0, .un] = .ok [.r (.int n)] [.v t0, .un] := by
  subst h0
  simp only [hn, eMut, gAppend, gInsert, eRev, eIndex, eLenSet, gInt, gLen, gTuple, gList, gAbs, gMax2, gMin2, gDivmod, gEq_int, runFn, sSeq, sIf, sSet, sSetIx, sRet, sRetN, sNil, sDrop, sAsg, sFor, sPar, sNever, setO, retO, setOs, presc, eVar, eK, eTwo, v2, eFn, eDisp, eTup, eLst, eCall, eCallR, eCallK, pick, toSl, toSls, sIdx, wb, bk, esc, escs, vals, aNil, aCons, tb, Ev.tNot, Ev.tAnd, Ev.tOr, gGt, gLt, gGe, gLe, gSub, gMod, gDiv, gPow, gAdd, gMul, gInt, mulOk, g1, g2, fInt, fLen, fTuple, fList, fAbs, eAnd, eOr, eNot, eIf, eNeg, eIsi, gII, gIx, gIsN, gN, gT, gsNil, gsCons, isLent_eq, lentO, lentS_v, lentS_un, lentS_f, lentS_t, lentS_z, finE, okArg, Out.bind, Od.val, slVal, Bx.tr, Bx.t, isN, L2.ixN, L2.atI, isInt, isBool, isTuple, isList, isStr, isDict, isTL, Nat.zero_le, id_eq, eq_self, Pu.c0, Pu.c1, Pu.c2, Pu.c3, Pu.c4, Pu.c5, Pu.c6, Pu.c7, Pu.c8, Pu.c9, Pu.s1, Pu.s2, Pu.s3, Pu.s4, Pu.s5, Pu.s6, Pu.s7, Pu.s8, Pu.s9, Int.reduceEq, Nat.reduceMul, Int.ofNat_eq_natCast, wipeE, restE, exists_eq_left', Option.some.injEq, Out.ok.injEq, Prod.mk.injEq, Option.bind_some, Option.bind_none, Option.bind_eq_bind, List.getElem?_cons_zero, List.getElem?_cons_succ, List.getElem?_nil, List.set_cons_zero, List.set_cons_succ, List.set_nil, List.length_cons, List.length_nil, List.replicate_succ, List.replicate_zero, List.cons_append, List.nil_append, List.append_nil, List.all_cons, List.all_nil, Bool.and_true, Bool.true_and, Bool.and_false, Bool.false_and, if_true, if_false, ite_true, ite_false, List.nodup_cons, List.nodup_nil, List.not_mem_nil, List.mem_cons, not_false_eq_true, and_true, true_and, reduceIte, Nat.reduceAdd, Nat.reduceSub, Nat.reduceEqDiff, Nat.reduceLT, Nat.reduceLeDiff, Option.map_some, Option.map_none, Option.getD_some, reduceCtorEq, or_self, or_false, false_or, not_true_eq_false, decide_true, decide_false, Bool.not_true, Bool.not_false, Bool.false_eq_true, Nat.zero_add, Nat.add_zero, forall_const, Int.reduceLT, Int.reduceLE, Int.reduceNeg, Int.reduceToNat, Int.toNat_natCast, and_self]
theorem law_st (y : SemS) (t0 : T) (l1 : Sl) (hy : y [.v t0, .un] = .ok .nx [.v t0, l1]) :
    runFn 2 ((sSeq y (sRet (eK (.bool true))))) [.v t0] = .ok (.r (.bool true)) [.v t0] := by
  simp only [hy, eMut, gAppend, gInsert, eRev, eIndex, eLenSet, gInt, gLen, gTuple, gList, gAbs, gMax2, gMin2, gDivmod, gEq_int, runFn, sSeq, sIf, sSet, sSetIx, sRet, sRetN, sNil, sDrop, sAsg, sFor, sPar, sNever, setO, retO, setOs, presc, eVar, eK, eTwo, v2, eFn, eDisp, eTup, eLst, eCall, eCallR, eCallK, pick, toSl, toSls, sIdx, wb, bk, esc, escs, vals, aNil, aCons, tb, Ev.tNot, Ev.tAnd, Ev.tOr, gGt, gLt, gGe, gLe, gSub, gMod, gDiv, gPow, gAdd, gMul, gInt, mulOk, g1, g2, fInt, fLen, fTuple, fList, fAbs, eAnd, eOr, eNot, eIf, eNeg, eIsi, gII, gIx, gIsN, gN, gT, gsNil, gsCons, isLent_eq, lentO, lentS_v, lentS_un, lentS_f, lentS_t, lentS_z, finE, okArg, Out.bind, Od.val, slVal, Bx.tr, Bx.t, isN, L2.ixN, L2.atI, isInt, isBool, isTuple, isList, isStr, isDict, isTL, Nat.zero_le, id_eq, eq_self, Pu.c0, Pu.c1, Pu.c2, Pu.c3, Pu.c4, Pu.c5, Pu.c6, Pu.c7, Pu.c8, Pu.c9, Pu.s1, Pu.s2, Pu.s3, Pu.s4, Pu.s5, Pu.s6, Pu.s7, Pu.s8, Pu.s9, Int.reduceEq, Nat.reduceMul, Int.ofNat_eq_natCast, wipeE, restE, exists_eq_left', Option.some.injEq, Out.ok.injEq, Prod.mk.injEq, Option.bind_some, Option.bind_none, Option.bind_eq_bind, List.getElem?_cons_zero, List.getElem?_cons_succ, List.getElem?_nil, List.set_cons_zero, List.set_cons_succ, List.set_nil, List.length_cons, List.length_nil, List.replicate_succ, List.replicate_zero, List.cons_append, List.nil_append, List.append_nil, List.all_cons, List.all_nil, Bool.and_true, Bool.true_and, Bool.and_false, Bool.false_and, if_true, if_false, ite_true, ite_false, List.nodup_cons, List.nodup_nil, List.not_mem_nil, List.mem_cons, not_false_eq_true, and_true, true_and, reduceIte, Nat.reduceAdd, Nat.reduceSub, Nat.reduceEqDiff, Nat.reduceLT, Nat.reduceLeDiff, Option.map_some, Option.map_none, Option.getD_some, reduceCtorEq, or_self, or_false, false_or, not_true_eq_false, decide_true, decide_false, Bool.not_true, Bool.not_false, Bool.false_eq_true, Nat.zero_add, Nat.add_zero, forall_const, Int.reduceLT, Int.reduceLE, Int.reduceNeg, Int.reduceToNat, Int.toNat_natCast, and_self]
theorem pure_law : ∀ ns : List Int, ns.length ≤ 63 → ∃ e', m_law [.v (.list (ns.map PyData.int))] = .ok (.r (.bool true)) e' := by
  intro ns _
  obtain ⟨n, hn10, hn⟩ := law_n (ns.map PyData.int).length
  have hi := iR1_nat (n := n) (law_i (ns.map PyData.int) (scT ns) rfl (n : Int) hn) rfl (by omega)
  obtain ⟨e', h, l1, a1, rfl⟩ := for_on (g := gN 1) (b := y1_law) (fun (k : Nat) => PyData.int (0 + (k : Int))) (fun _ e => ∃ l1, lentS l1 = false ∧ e = [.v (scT ns), l1]) 10 (List.range n) [] [.v (scT ns), .un] ⟨_, rfl, rfl⟩ (by rw [List.length_range, List.length_nil]; omega) fun k hk don e _ ⟨l1, a1, he⟩ => by
    subst he
    have hk2 := List.mem_range.mp hk
    have e : (0 : Int) + (k : Int) = (k : Int) := by omega
    obtain ⟨D, h1⟩ := deck_ok ns k (by omega)
    obtain ⟨D', h2⟩ := right_ok D
    have st := law_y m__law_right m__law_deck (scT ns) (nT k) _ _ h1 h2
    exact ⟨[.v (scT ns), .v (nT k)], by rw [e]; simp only [a1, nT, eMut, gAppend, gInsert, eRev, eIndex, eLenSet, gInt, gLen, gTuple, gList, gAbs, gMax2, gMin2, gDivmod, gEq_int, runFn, sSeq, sIf, sSet, sSetIx, sRet, sRetN, sNil, sDrop, sAsg, sFor, sPar, sNever, setO, retO, setOs, presc, eVar, eK, eTwo, v2, eFn, eDisp, eTup, eLst, eCall, eCallR, eCallK, pick, toSl, toSls, sIdx, wb, bk, esc, escs, vals, aNil, aCons, tb, Ev.tNot, Ev.tAnd, Ev.tOr, gGt, gLt, gGe, gLe, gSub, gMod, gDiv, gPow, gAdd, gMul, gInt, mulOk, g1, g2, fInt, fLen, fTuple, fList, fAbs, eAnd, eOr, eNot, eIf, eNeg, eIsi, gII, gIx, gIsN, gN, gT, gsNil, gsCons, isLent_eq, lentO, lentS_v, lentS_un, lentS_f, lentS_t, lentS_z, finE, okArg, Out.bind, Od.val, slVal, Bx.tr, Bx.t, isN, L2.ixN, L2.atI, isInt, isBool, isTuple, isList, isStr, isDict, isTL, Nat.zero_le, id_eq, eq_self, Pu.c0, Pu.c1, Pu.c2, Pu.c3, Pu.c4, Pu.c5, Pu.c6, Pu.c7, Pu.c8, Pu.c9, Pu.s1, Pu.s2, Pu.s3, Pu.s4, Pu.s5, Pu.s6, Pu.s7, Pu.s8, Pu.s9, Int.reduceEq, Nat.reduceMul, Int.ofNat_eq_natCast, wipeE, restE, exists_eq_left', Option.some.injEq, Out.ok.injEq, Prod.mk.injEq, Option.bind_some, Option.bind_none, Option.bind_eq_bind, List.getElem?_cons_zero, List.getElem?_cons_succ, List.getElem?_nil, List.set_cons_zero, List.set_cons_succ, List.set_nil, List.length_cons, List.length_nil, List.replicate_succ, List.replicate_zero, List.cons_append, List.nil_append, List.append_nil, List.all_cons, List.all_nil, Bool.and_true, Bool.true_and, Bool.and_false, Bool.false_and, if_true, if_false, ite_true, ite_false, List.nodup_cons, List.nodup_nil, List.not_mem_nil, List.mem_cons, not_false_eq_true, and_true, true_and, reduceIte, Nat.reduceAdd, Nat.reduceSub, Nat.reduceEqDiff, Nat.reduceLT, Nat.reduceLeDiff, Option.map_some, Option.map_none, Option.getD_some, reduceCtorEq, or_self, or_false, false_or, not_true_eq_false, decide_true, decide_false, Bool.not_true, Bool.not_false, Bool.false_eq_true, Nat.zero_add, Nat.add_zero, forall_const, Int.reduceLT, Int.reduceLE, Int.reduceNeg, Int.reduceToNat, Int.toNat_natCast, and_self], _, .inl st, _, rfl, rfl⟩
  have hl : l1_law [.v (scT ns), .un] = .ok .nx [.v (scT ns), l1] := by
    unfold l1_law
    rw [sFor_eq hi]
    exact h
  exact ⟨_, law_st l1_law (scT ns) l1 hl⟩
end Lw

set_option maxHeartbeats 4000000
namespace Lw
open PySem PySem.Spec PyProof.Rows L2 Ev
theorem boot_len : bootBuiltins "len" = some (.builtin "len") := by decide +kernel
theorem boot_abs : bootBuiltins "abs" = some (.builtin "abs") := by decide +kernel
theorem boot_divmod : bootBuiltins "divmod" = some (.builtin "divmod") := by decide +kernel
theorem boot_all : bootBuiltins "all" = some (.builtin "all") := by decide +kernel
theorem boot_any : bootBuiltins "any" = some (.builtin "any") := by decide +kernel
theorem boot_max : bootBuiltins "max" = some (.builtin "max") := by decide +kernel
theorem boot_min : bootBuiltins "min" = some (.builtin "min") := by decide +kernel
theorem boot_int : bootBuiltins "int" = some (.type "int") := by decide +kernel
theorem boot_tuple : bootBuiltins "tuple" = some (.type "tuple") := by decide +kernel
theorem boot_list : bootBuiltins "list" = some (.type "list") := by decide +kernel
theorem boot_bool : bootBuiltins "bool" = some (.type "bool") := by decide +kernel
theorem boot_str : bootBuiltins "str" = some (.type "str") := by decide +kernel
theorem boot_dict : bootBuiltins "dict" = some (.type "dict") := by decide +kernel
def top (i : Nat) : Stmt := PySem.Challenge.pw_squarethreads_k03_whole_turned_and_backw.main.body.getD i (.Pass ⟨0, 0, 0, 0⟩)
abbrev s_is_whole : Stmt := top 6
abbrev s_is_count : Stmt := top 7
abbrev s_is_index : Stmt := top 8
abbrev s_power : Stmt := top 9
abbrev s_digits_of : Stmt := top 10
abbrev s_is_book : Stmt := top 12
abbrev s__is_kind : Stmt := top 13
abbrev s__is_part : Stmt := top 14
abbrev s_places_of : Stmt := top 15
abbrev s_check_book : Stmt := top 16
abbrev s_is_posture : Stmt := top 17
abbrev s_check_posture : Stmt := top 18
abbrev s_turned : Stmt := top 19
abbrev s__turned_parts : Stmt := top 20
abbrev s_in_posture : Stmt := top 21
abbrev s_backward : Stmt := top 22
abbrev s_check_depth : Stmt := top 24
abbrev s_how_many_cells : Stmt := top 25
abbrev s_cell_in_kind : Stmt := top 26
abbrev s_whole : Stmt := top 27
abbrev s__law_deck : Stmt := top 29
abbrev s__law_take : Stmt := top 30
abbrev s__law_same : Stmt := top 31
abbrev s__law_posed : Stmt := top 32
abbrev s__law_places : Stmt := top 33
abbrev s__law_all_poses : Stmt := top 34
abbrev s__law_behind : Stmt := top 35
abbrev s__law_posed_page : Stmt := top 36
abbrev s__law_page : Stmt := top 37
abbrev s__law_threads : Stmt := top 38
abbrev s__law_turned : Stmt := top 39
abbrev s__law_backward : Stmt := top 40
abbrev s__law_wide : Stmt := top 41
abbrev s__law_pose_right : Stmt := top 42
abbrev s__law_right : Stmt := top 43
abbrev s_law : Stmt := top 44
def d_is_whole : He.DefD := ⟨("is_whole", none), "is_whole", "is_whole", defArgs s_is_whole, defBody s_is_whole, defScope s_is_whole, [], []⟩
def d_is_count : He.DefD := ⟨("is_count", none), "is_count", "is_count", defArgs s_is_count, defBody s_is_count, defScope s_is_count, [], []⟩
def d_is_index : He.DefD := ⟨("is_index", none), "is_index", "is_index", defArgs s_is_index, defBody s_is_index, defScope s_is_index, [], []⟩
def d_power : He.DefD := ⟨("power", none), "power", "power", defArgs s_power, defBody s_power, defScope s_power, [], []⟩
def d_digits_of : He.DefD := ⟨("digits_of", none), "digits_of", "digits_of", defArgs s_digits_of, defBody s_digits_of, defScope s_digits_of, [], []⟩
def d_is_book : He.DefD := ⟨("is_book", none), "is_book", "is_book", defArgs s_is_book, defBody s_is_book, defScope s_is_book, [], []⟩
def d__is_kind : He.DefD := ⟨("_is_kind", none), "_is_kind", "_is_kind", defArgs s__is_kind, defBody s__is_kind, defScope s__is_kind, [], []⟩
def d__is_part : He.DefD := ⟨("_is_part", none), "_is_part", "_is_part", defArgs s__is_part, defBody s__is_part, defScope s__is_part, [], []⟩
def d_places_of : He.DefD := ⟨("places_of", none), "places_of", "places_of", defArgs s_places_of, defBody s_places_of, defScope s_places_of, [], []⟩
def d_check_book : He.DefD := ⟨("check_book", none), "check_book", "check_book", defArgs s_check_book, defBody s_check_book, defScope s_check_book, [], []⟩
def d_is_posture : He.DefD := ⟨("is_posture", none), "is_posture", "is_posture", defArgs s_is_posture, defBody s_is_posture, defScope s_is_posture, [], []⟩
def d_check_posture : He.DefD := ⟨("check_posture", none), "check_posture", "check_posture", defArgs s_check_posture, defBody s_check_posture, defScope s_check_posture, [], []⟩
def d_turned : He.DefD := ⟨("turned", none), "turned", "turned", defArgs s_turned, defBody s_turned, defScope s_turned, [], []⟩
def d__turned_parts : He.DefD := ⟨("_turned_parts", none), "_turned_parts", "_turned_parts", defArgs s__turned_parts, defBody s__turned_parts, defScope s__turned_parts, [], []⟩
def d_in_posture : He.DefD := ⟨("in_posture", none), "in_posture", "in_posture", defArgs s_in_posture, defBody s_in_posture, defScope s_in_posture, [], []⟩
def d_backward : He.DefD := ⟨("backward", none), "backward", "backward", defArgs s_backward, defBody s_backward, defScope s_backward, [], []⟩
def d_check_depth : He.DefD := ⟨("check_depth", none), "check_depth", "check_depth", defArgs s_check_depth, defBody s_check_depth, defScope s_check_depth, [], []⟩
def d_how_many_cells : He.DefD := ⟨("how_many_cells", none), "how_many_cells", "how_many_cells", defArgs s_how_many_cells, defBody s_how_many_cells, defScope s_how_many_cells, [], []⟩
def d_cell_in_kind : He.DefD := ⟨("cell_in_kind", none), "cell_in_kind", "cell_in_kind", defArgs s_cell_in_kind, defBody s_cell_in_kind, defScope s_cell_in_kind, [], []⟩
def d_whole : He.DefD := ⟨("whole", none), "whole", "whole", defArgs s_whole, defBody s_whole, defScope s_whole, [], []⟩
def d__law_deck : He.DefD := ⟨("_law_deck", none), "_law_deck", "_law_deck", defArgs s__law_deck, defBody s__law_deck, defScope s__law_deck, [], []⟩
def d__law_take : He.DefD := ⟨("_law_take", none), "_law_take", "_law_take", defArgs s__law_take, defBody s__law_take, defScope s__law_take, [], []⟩
def d__law_same : He.DefD := ⟨("_law_same", none), "_law_same", "_law_same", defArgs s__law_same, defBody s__law_same, defScope s__law_same, [], []⟩
def d__law_posed : He.DefD := ⟨("_law_posed", none), "_law_posed", "_law_posed", defArgs s__law_posed, defBody s__law_posed, defScope s__law_posed, [], []⟩
def d__law_places : He.DefD := ⟨("_law_places", none), "_law_places", "_law_places", defArgs s__law_places, defBody s__law_places, defScope s__law_places, [], []⟩
def d__law_all_poses : He.DefD := ⟨("_law_all_poses", none), "_law_all_poses", "_law_all_poses", defArgs s__law_all_poses, defBody s__law_all_poses, defScope s__law_all_poses, [], []⟩
def d__law_behind : He.DefD := ⟨("_law_behind", none), "_law_behind", "_law_behind", defArgs s__law_behind, defBody s__law_behind, defScope s__law_behind, [], []⟩
def d__law_posed_page : He.DefD := ⟨("_law_posed_page", none), "_law_posed_page", "_law_posed_page", defArgs s__law_posed_page, defBody s__law_posed_page, defScope s__law_posed_page, [], []⟩
def d__law_page : He.DefD := ⟨("_law_page", none), "_law_page", "_law_page", defArgs s__law_page, defBody s__law_page, defScope s__law_page, [], []⟩
def d__law_threads : He.DefD := ⟨("_law_threads", none), "_law_threads", "_law_threads", defArgs s__law_threads, defBody s__law_threads, defScope s__law_threads, [], []⟩
def d__law_turned : He.DefD := ⟨("_law_turned", none), "_law_turned", "_law_turned", defArgs s__law_turned, defBody s__law_turned, defScope s__law_turned, [], []⟩
def d__law_backward : He.DefD := ⟨("_law_backward", none), "_law_backward", "_law_backward", defArgs s__law_backward, defBody s__law_backward, defScope s__law_backward, [], []⟩
def d__law_wide : He.DefD := ⟨("_law_wide", none), "_law_wide", "_law_wide", defArgs s__law_wide, defBody s__law_wide, defScope s__law_wide, [], []⟩
def d__law_pose_right : He.DefD := ⟨("_law_pose_right", none), "_law_pose_right", "_law_pose_right", defArgs s__law_pose_right, defBody s__law_pose_right, defScope s__law_pose_right, [], []⟩
def d__law_right : He.DefD := ⟨("_law_right", none), "_law_right", "_law_right", defArgs s__law_right, defBody s__law_right, defScope s__law_right, [], []⟩
def d_law : He.DefD := ⟨("law", none), "law", "law", defArgs s_law, defBody s_law, defScope s_law, [], []⟩
def fn : List He.DefD := [d_is_whole, d_is_count, d_is_index, d_power, d_digits_of, d_is_book, d__is_kind, d__is_part, d_places_of, d_check_book, d_is_posture, d_check_posture, d_turned, d__turned_parts, d_in_posture, d_backward, d_check_depth, d_how_many_cells, d_cell_in_kind, d_whole, d__law_deck, d__law_take, d__law_same, d__law_posed, d__law_places, d__law_all_poses, d__law_behind, d__law_posed_page, d__law_page, d__law_threads, d__law_turned, d__law_backward, d__law_wide, d__law_pose_right, d__law_right, d_law]
def fa : List He.Fa := [.glo "is_whole", .glo "is_count", .glo "is_index", .glo "power", .glo "digits_of", .glo "is_book", .glo "_is_kind", .glo "_is_part", .glo "places_of", .glo "check_book", .glo "is_posture", .glo "check_posture", .glo "turned", .glo "_turned_parts", .glo "in_posture", .glo "backward", .glo "check_depth", .glo "how_many_cells", .glo "cell_in_kind", .glo "whole", .glo "_law_deck", .glo "_law_take", .glo "_law_same", .glo "_law_posed", .glo "_law_places", .glo "_law_all_poses", .glo "_law_behind", .glo "_law_posed_page", .glo "_law_page", .glo "_law_threads", .glo "_law_turned", .glo "_law_backward", .glo "_law_wide", .glo "_law_pose_right", .glo "_law_right", .glo "law", .free "ValueError", .free "all", .free "bool", .free "divmod", .free "int", .free "isinstance", .free "len", .free "list", .free "max", .free "min", .free "range", .free "set", .free "str", .free "tuple", .free "zip"]
section
variable {P : Program} {w : World} {K : PySem.W.Frag} {h : Heap} {mg : Str → Option Value} {base : Heap}
abbrev N_is_whole : List Str := ["told"]
theorem sc_is_whole : FnScope N_is_whole ["told"] (defScope s_is_whole) := ⟨rfl, rfl, rfl, by decide +kernel, rfl, by decide +kernel, by decide +kernel⟩
theorem ok_is_whole (X0 : K.In h) (G : h.Ns mainGlobals mg) (c : He.SaysD fa fn K) : ∃ fd, FunD K "is_whole" "is_whole" (defArgs s_is_whole) (defBody s_is_whole) (defScope s_is_whole) [] [] (He.ga K "is_whole") fd ∧ FnOk P w K mg base (L2N.CX P w) 1 (He.ga K "is_whole") fd ["told"] (spF K 1 m_is_whole) := by
  have f_bool : mg "bool" = none := He.free_ok X0 G (c.fact 38 rfl)
  have f_int : mg "int" = none := He.free_ok X0 G (c.fact 40 rfl)
  have f_isinstance : mg "isinstance" = none := He.free_ok X0 G (c.fact 41 rfl)
  obtain ⟨fd, F⟩ := c.def_ 0 (d := d_is_whole) rfl
  refine ⟨fd, F, fn_ok (k := 0) F sc_is_whole fun cdv A outer s H E hr B => ?_⟩
  have hp : PassesOwn (model P w) _ _ _ := passes_of (X := cxOf (L2N.CX P w) P w K mg base N_is_whole "is_whole" (defScope s_is_whole) (He.ga K "is_whole") cdv A outer s H E) (K := fun e s'' => L2N.CX P w outer H s E e s'') rfl
  have tk := L2N.takes_of (X := cxOf (L2N.CX P w) P w K mg base N_is_whole "is_whole" (defScope s_is_whole) (He.ga K "is_whole") cdv A outer s H E) (E := E) rfl rfl rfl rfl
  have nd := sc_is_whole.nd
  exact (qone (qret (qand (qisi k_int rfl f_isinstance rfl f_int boot_int (qvar (i := 0) rfl (.inl rfl))) (qone_ (qnot (qisi k_bool rfl f_isinstance rfl f_bool boot_bool (qvar (i := 0) rfl (.inl rfl))))))))
abbrev N_is_count : List Str := ["told"]
theorem sc_is_count : FnScope N_is_count ["told"] (defScope s_is_count) := ⟨rfl, rfl, rfl, by decide +kernel, rfl, by decide +kernel, by decide +kernel⟩
theorem ok_is_count (X0 : K.In h) (G : h.Ns mainGlobals mg) (c : He.SaysD fa fn K) : ∃ fd, FunD K "is_count" "is_count" (defArgs s_is_count) (defBody s_is_count) (defScope s_is_count) [] [] (He.ga K "is_count") fd ∧ FnOk P w K mg base (L2N.CX P w) 2 (He.ga K "is_count") fd ["told"] (spF K 1 m_is_count) := by
  obtain ⟨fd_is_whole, F_is_whole, O_is_whole⟩ := ok_is_whole (P := P) (w := w) (base := base) X0 G c
  have b_is_whole : Binds K fd_is_whole ["told"] [] := F_is_whole.bindsN fun _ _ _ _ _ _ us hl => match us, hl with | [_], _ => rfl
  have g_is_whole : mg "is_whole" = some (.ref (He.ga K "is_whole")) := He.glo_ok X0 G (c.fact 0 rfl)
  obtain ⟨fd, F⟩ := c.def_ 1 (d := d_is_count) rfl
  refine ⟨fd, F, fn_ok (k := 1) F sc_is_count fun cdv A outer s H E hr B => ?_⟩
  have hp : PassesOwn (model P w) _ _ _ := passes_of (X := cxOf (L2N.CX P w) P w K mg base N_is_count "is_count" (defScope s_is_count) (He.ga K "is_count") cdv A outer s H E) (K := fun e s'' => L2N.CX P w outer H s E e s'') rfl
  have tk := L2N.takes_of (X := cxOf (L2N.CX P w) P w K mg base N_is_count "is_count" (defScope s_is_count) (He.ga K "is_count") cdv A outer s H E) (E := E) rfl rfl rfl rfl
  have nd := sc_is_count.nd
  exact (qone (qret (qand (qcall O_is_whole (hr.mono (by decide)) rfl g_is_whole F_is_whole.kp b_is_whole (fun σ => L2N.passAt tk σ) (qa_cons (qvar (i := 0) rfl (.inl rfl)) qa_nil)) (qone_ (qcmp op_ge does_ge (qvar (i := 0) rfl (.inl rfl)) qint)))))
abbrev N_is_index : List Str := ["told", "many"]
theorem sc_is_index : FnScope N_is_index ["told", "many"] (defScope s_is_index) := ⟨rfl, rfl, rfl, by decide +kernel, rfl, by decide +kernel, by decide +kernel⟩
theorem ok_is_index (X0 : K.In h) (G : h.Ns mainGlobals mg) (c : He.SaysD fa fn K) : ∃ fd, FunD K "is_index" "is_index" (defArgs s_is_index) (defBody s_is_index) (defScope s_is_index) [] [] (He.ga K "is_index") fd ∧ FnOk P w K mg base (L2N.CX P w) 3 (He.ga K "is_index") fd ["told", "many"] (spF K 2 m_is_index) := by
  obtain ⟨fd_is_count, F_is_count, O_is_count⟩ := ok_is_count (P := P) (w := w) (base := base) X0 G c
  have b_is_count : Binds K fd_is_count ["told"] [] := F_is_count.bindsN fun _ _ _ _ _ _ us hl => match us, hl with | [_], _ => rfl
  have g_is_count : mg "is_count" = some (.ref (He.ga K "is_count")) := He.glo_ok X0 G (c.fact 1 rfl)
  obtain ⟨fd, F⟩ := c.def_ 2 (d := d_is_index) rfl
  refine ⟨fd, F, fn_ok (k := 2) F sc_is_index fun cdv A outer s H E hr B => ?_⟩
  have hp : PassesOwn (model P w) _ _ _ := passes_of (X := cxOf (L2N.CX P w) P w K mg base N_is_index "is_index" (defScope s_is_index) (He.ga K "is_index") cdv A outer s H E) (K := fun e s'' => L2N.CX P w outer H s E e s'') rfl
  have tk := L2N.takes_of (X := cxOf (L2N.CX P w) P w K mg base N_is_index "is_index" (defScope s_is_index) (He.ga K "is_index") cdv A outer s H E) (E := E) rfl rfl rfl rfl
  have nd := sc_is_index.nd
  exact (qone (qret (qand (qcall O_is_count (hr.mono (by decide)) rfl g_is_count F_is_count.kp b_is_count (fun σ => L2N.passAt tk σ) (qa_cons (qvar (i := 0) rfl (.inl rfl)) qa_nil)) (qone_ (qcmp op_lt does_lt (qvar (i := 0) rfl (.inl rfl)) (qvar (i := 1) rfl (.inl rfl)))))))
abbrev N_power : List Str := ["base", "times", "result", "_"]
theorem sc_power : FnScope N_power ["base", "times"] (defScope s_power) := ⟨rfl, rfl, rfl, by decide +kernel, rfl, by decide +kernel, by decide +kernel⟩
theorem ok_power (X0 : K.In h) (G : h.Ns mainGlobals mg) (c : He.SaysD fa fn K) : ∃ fd, FunD K "power" "power" (defArgs s_power) (defBody s_power) (defScope s_power) [] [] (He.ga K "power") fd ∧ FnOk P w K mg base (L2N.CX P w) 1 (He.ga K "power") fd ["base", "times"] (spF K 2 m_power) := by
  have f_range : mg "range" = none := He.free_ok X0 G (c.fact 46 rfl)
  obtain ⟨fd, F⟩ := c.def_ 3 (d := d_power) rfl
  refine ⟨fd, F, fn_ok (k := 0) F sc_power fun cdv A outer s H E hr B => ?_⟩
  have hp : PassesOwn (model P w) _ _ _ := passes_of (X := cxOf (L2N.CX P w) P w K mg base N_power "power" (defScope s_power) (He.ga K "power") cdv A outer s H E) (K := fun e s'' => L2N.CX P w outer H s E e s'') rfl
  have tk := L2N.takes_of (X := cxOf (L2N.CX P w) P w K mg base N_power "power" (defScope s_power) (He.ga K "power") cdv A outer s H E) (E := E) rfl rfl rfl rfl
  have nd := sc_power.nd
  exact (qcons (qset (i := 2) nd rfl (.inl rfl) qint) (qcons (qfor (ws := [3]) hp rfl (qir1 rfl f_range (qa_cons (qvar (i := 1) rfl (.inl rfl)) qa_nil)) (fun B => (qgn (i := 3) nd rfl (.inl rfl) (by decide))) (fun B => (qone (qset (i := 2) nd rfl (.inl rfl) (qop op_mulW does_mul (qvar (i := 2) rfl (.inl rfl)) (qvar (i := 0) rfl (.inl rfl))))))) (qone (qret (qvar (i := 2) rfl (.inl rfl))))))
abbrev N_digits_of : List Str := ["number", "base", "many", "digits", "_", "digit"]
theorem sc_digits_of : FnScope N_digits_of ["number", "base", "many"] (defScope s_digits_of) := ⟨rfl, rfl, rfl, by decide +kernel, rfl, by decide +kernel, by decide +kernel⟩
theorem ok_digits_of (X0 : K.In h) (G : h.Ns mainGlobals mg) (c : He.SaysD fa fn K) : ∃ fd, FunD K "digits_of" "digits_of" (defArgs s_digits_of) (defBody s_digits_of) (defScope s_digits_of) [] [] (He.ga K "digits_of") fd ∧ FnOk P w K mg base (L2N.CX P w) 1 (He.ga K "digits_of") fd ["number", "base", "many"] (spF K 3 m_digits_of) := by
  have f_divmod : mg "divmod" = none := He.free_ok X0 G (c.fact 39 rfl)
  have f_range : mg "range" = none := He.free_ok X0 G (c.fact 46 rfl)
  obtain ⟨fd, F⟩ := c.def_ 4 (d := d_digits_of) rfl
  refine ⟨fd, F, fn_ok (k := 0) F sc_digits_of fun cdv A outer s H E hr B => ?_⟩
  have hp : PassesOwn (model P w) _ _ _ := passes_of (X := cxOf (L2N.CX P w) P w K mg base N_digits_of "digits_of" (defScope s_digits_of) (He.ga K "digits_of") cdv A outer s H E) (K := fun e s'' => L2N.CX P w outer H s E e s'') rfl
  have tk := L2N.takes_of (X := cxOf (L2N.CX P w) P w K mg base N_digits_of "digits_of" (defScope s_digits_of) (He.ga K "digits_of") cdv A outer s H E) (E := E) rfl rfl rfl rfl
  have nd := sc_digits_of.nd
  exact (qcons (qset (i := 3) nd rfl (.inl rfl) (qlst qa_nil)) (qcons (qfor (ws := [4]) hp rfl (qir1 rfl f_range (qa_cons (qvar (i := 2) rfl (.inl rfl)) qa_nil)) (fun B => (qgn (i := 4) nd rfl (.inl rfl) (by decide))) (fun B => (qcons (qasg (ws := [0, 5]) (qfnB call_divmod does_divmod rfl f_divmod boot_divmod (qa_cons (qvar (i := 0) rfl (.inl rfl)) (qa_cons (qvar (i := 1) rfl (.inl rfl)) qa_nil))) (qgt rfl (qgscons (qgn (i := 0) nd rfl (.inl rfl) (by decide)) (qgscons (qgn (i := 5) nd rfl (.inl rfl) (by decide)) qgsnil)))) (qone (qexpr (qmeth (i := 3) PySem.F.slot_list_append PySem.F.type_list_append mt_append does_append rfl (.inl rfl) (qa_cons (qvar (i := 5) rfl (.inl rfl)) qa_nil))))))) (qone (qret (qrev (qvar (i := 3) rfl (.inl rfl)))))))
abbrev N__is_part : List Str := ["b", "many", "told", "x", "y", "kind"]
theorem sc__is_part : FnScope N__is_part ["b", "many", "told"] (defScope s__is_part) := ⟨rfl, rfl, rfl, by decide +kernel, rfl, by decide +kernel, by decide +kernel⟩
theorem ok__is_part (X0 : K.In h) (G : h.Ns mainGlobals mg) (c : He.SaysD fa fn K) : ∃ fd, FunD K "_is_part" "_is_part" (defArgs s__is_part) (defBody s__is_part) (defScope s__is_part) [] [] (He.ga K "_is_part") fd ∧ FnOk P w K mg base (L2N.CX P w) 4 (He.ga K "_is_part") fd ["b", "many", "told"] (spF K 3 m__is_part) := by
  obtain ⟨fd_is_index, F_is_index, O_is_index⟩ := ok_is_index (P := P) (w := w) (base := base) X0 G c
  have b_is_index : Binds K fd_is_index ["told", "many"] [] := F_is_index.bindsN fun _ _ _ _ _ _ us hl => match us, hl with | [_, _], _ => rfl
  have g_is_index : mg "is_index" = some (.ref (He.ga K "is_index")) := He.glo_ok X0 G (c.fact 2 rfl)
  have f_isinstance : mg "isinstance" = none := He.free_ok X0 G (c.fact 41 rfl)
  have f_len : mg "len" = none := He.free_ok X0 G (c.fact 42 rfl)
  have f_tuple : mg "tuple" = none := He.free_ok X0 G (c.fact 49 rfl)
  obtain ⟨fd, F⟩ := c.def_ 7 (d := d__is_part) rfl
  refine ⟨fd, F, fn_ok (k := 3) F sc__is_part fun cdv A outer s H E hr B => ?_⟩
  have hp : PassesOwn (model P w) _ _ _ := passes_of (X := cxOf (L2N.CX P w) P w K mg base N__is_part "_is_part" (defScope s__is_part) (He.ga K "_is_part") cdv A outer s H E) (K := fun e s'' => L2N.CX P w outer H s E e s'') rfl
  have tk := L2N.takes_of (X := cxOf (L2N.CX P w) P w K mg base N__is_part "_is_part" (defScope s__is_part) (He.ga K "_is_part") cdv A outer s H E) (E := E) rfl rfl rfl rfl
  have nd := sc__is_part.nd
  exact (qcons (qif (QW.t (qw_or (qtnot (qtval (qisi k_tuple rfl f_isinstance rfl f_tuple boot_tuple (qvar (i := 2) rfl (.inl rfl))))) (qw_or1 (qtcmp (op_neD hr.units) does_ne (qfnB call_len_seq does_len rfl f_len boot_len (qa_cons (qvar (i := 2) rfl (.inl rfl)) qa_nil)) qint)))) (qone (qret qbl)) qnil) (qcons (qasg (ws := [3, 4, 5]) (qvar (i := 2) rfl (.inl rfl)) (qgt rfl (qgscons (qgn (i := 3) nd rfl (.inl rfl) (by decide)) (qgscons (qgn (i := 4) nd rfl (.inl rfl) (by decide)) (qgscons (qgn (i := 5) nd rfl (.inl rfl) (by decide)) qgsnil))))) (qone (qret (qand (qcall O_is_index (hr.mono (by decide)) rfl g_is_index F_is_index.kp b_is_index (fun σ => L2N.passAt tk σ) (qa_cons (qvar (i := 3) rfl (.inl rfl)) (qa_cons (qvar (i := 0) rfl (.inl rfl)) qa_nil))) (qand (qcall O_is_index (hr.mono (by decide)) rfl g_is_index F_is_index.kp b_is_index (fun σ => L2N.passAt tk σ) (qa_cons (qvar (i := 4) rfl (.inl rfl)) (qa_cons (qvar (i := 0) rfl (.inl rfl)) qa_nil))) (qone_ (qcall O_is_index (hr.mono (by decide)) rfl g_is_index F_is_index.kp b_is_index (fun σ => L2N.passAt tk σ) (qa_cons (qvar (i := 5) rfl (.inl rfl)) (qa_cons (qvar (i := 1) rfl (.inl rfl)) qa_nil))))))))))
abbrev N_places_of : List Str := ["parts", "part"]
theorem sc_places_of : FnScope N_places_of ["parts"] (defScope s_places_of) := ⟨rfl, rfl, rfl, by decide +kernel, rfl, by decide +kernel, by decide +kernel⟩
theorem ok_places_of (X0 : K.In h) (G : h.Ns mainGlobals mg) (c : He.SaysD fa fn K) : ∃ fd, FunD K "places_of" "places_of" (defArgs s_places_of) (defBody s_places_of) (defScope s_places_of) [] [] (He.ga K "places_of") fd ∧ FnOk P w K mg base (L2N.CX P w) 1 (He.ga K "places_of") fd ["parts"] (spF K 1 m_places_of) := by
  obtain ⟨fd, F⟩ := c.def_ 8 (d := d_places_of) rfl
  refine ⟨fd, F, fn_ok (k := 0) F sc_places_of fun cdv A outer s H E hr B => ?_⟩
  have hp : PassesOwn (model P w) _ _ _ := passes_of (X := cxOf (L2N.CX P w) P w K mg base N_places_of "places_of" (defScope s_places_of) (He.ga K "places_of") cdv A outer s H E) (K := fun e s'' => L2N.CX P w outer H s E e s'') rfl
  have tk := L2N.takes_of (X := cxOf (L2N.CX P w) P w K mg base N_places_of "places_of" (defScope s_places_of) (He.ga K "places_of") cdv A outer s H E) (E := E) rfl rfl rfl rfl
  have nd := sc_places_of.nd
  exact (qone (qret (qcomp (vs := [1]) rfl nd (qiof (qvar (i := 0) rfl (.inl rfl))) (blkOk_by (own := [("part", 1)]) (N := N_places_of) (sc := defScope s_places_of) (by decide +kernel)) (gok_n (by decide)) rfl (fun _ _ _ _ _ B => (qgn (i := 1) nd rfl (.inl rfl) (by decide))) (fun _ _ _ _ _ => qtsnil) (fun _ _ _ _ _ => (qtup (qa_cons (qix (qvar (i := 1) rfl (.inl rfl)) qint) (qa_cons (qix (qvar (i := 1) rfl (.inl rfl)) qint) qa_nil)))))))
abbrev N__is_kind : List Str := ["b", "many", "told", "part"]
theorem sc__is_kind : FnScope N__is_kind ["b", "many", "told"] (defScope s__is_kind) := ⟨rfl, rfl, rfl, by decide +kernel, rfl, by decide +kernel, by decide +kernel⟩
theorem ok__is_kind (X0 : K.In h) (G : h.Ns mainGlobals mg) (c : He.SaysD fa fn K) : ∃ fd, FunD K "_is_kind" "_is_kind" (defArgs s__is_kind) (defBody s__is_kind) (defScope s__is_kind) [] [] (He.ga K "_is_kind") fd ∧ FnOk P w K mg base (L2N.CX P w) 5 (He.ga K "_is_kind") fd ["b", "many", "told"] (spF K 3 m__is_kind) := by
  obtain ⟨fd__is_part, F__is_part, O__is_part⟩ := ok__is_part (P := P) (w := w) (base := base) X0 G c
  have b__is_part : Binds K fd__is_part ["b", "many", "told"] [] := F__is_part.bindsN fun _ _ _ _ _ _ us hl => match us, hl with | [_, _, _], _ => rfl
  have g__is_part : mg "_is_part" = some (.ref (He.ga K "_is_part")) := He.glo_ok X0 G (c.fact 7 rfl)
  obtain ⟨fd_places_of, F_places_of, O_places_of⟩ := ok_places_of (P := P) (w := w) (base := base) X0 G c
  have b_places_of : Binds K fd_places_of ["parts"] [] := F_places_of.bindsN fun _ _ _ _ _ _ us hl => match us, hl with | [_], _ => rfl
  have g_places_of : mg "places_of" = some (.ref (He.ga K "places_of")) := He.glo_ok X0 G (c.fact 8 rfl)
  have f_all : mg "all" = none := He.free_ok X0 G (c.fact 37 rfl)
  have f_isinstance : mg "isinstance" = none := He.free_ok X0 G (c.fact 41 rfl)
  have f_len : mg "len" = none := He.free_ok X0 G (c.fact 42 rfl)
  have f_set : mg "set" = none := He.free_ok X0 G (c.fact 47 rfl)
  have f_tuple : mg "tuple" = none := He.free_ok X0 G (c.fact 49 rfl)
  obtain ⟨fd, F⟩ := c.def_ 6 (d := d__is_kind) rfl
  refine ⟨fd, F, fn_ok (k := 4) F sc__is_kind fun cdv A outer s H E hr B => ?_⟩
  have hp : PassesOwn (model P w) _ _ _ := passes_of (X := cxOf (L2N.CX P w) P w K mg base N__is_kind "_is_kind" (defScope s__is_kind) (He.ga K "_is_kind") cdv A outer s H E) (K := fun e s'' => L2N.CX P w outer H s E e s'') rfl
  have tk := L2N.takes_of (X := cxOf (L2N.CX P w) P w K mg base N__is_kind "_is_kind" (defScope s__is_kind) (He.ga K "_is_kind") cdv A outer s H E) (E := E) rfl rfl rfl rfl
  have nd := sc__is_kind.nd
  exact (qcons (qif (QW.t (qw_or (qtnot (qtval (qisi k_tuple rfl f_isinstance rfl f_tuple boot_tuple (qvar (i := 2) rfl (.inl rfl))))) (qw_or1 (qtcmp (op_neD hr.units) does_ne (qfnB call_len_seq does_len rfl f_len boot_len (qa_cons (qvar (i := 2) rfl (.inl rfl)) qa_nil)) (qop op_mulW does_mul (qvar (i := 0) rfl (.inr (.inl rfl))) (qvar (i := 0) rfl (.inr (.inl rfl)))))))) (qone (qret qbl)) qnil) (qcons (qif (qtnot (qtval (qfnB (cr_all rfl) does_all rfl f_all boot_all (qa_cons (qcomp (vs := [3]) rfl nd (qiof (qvar (i := 2) rfl (.inl rfl))) (blkOk_by (own := [("part", 3)]) (N := N__is_kind) (sc := defScope s__is_kind) (by decide +kernel)) (gok_n (by decide)) rfl (fun _ _ _ _ _ B => (qgn (i := 3) nd rfl (.inl rfl) (by decide))) (fun _ _ _ _ _ => qtsnil) (fun _ _ _ _ _ => (qcall O__is_part (hr.mono (by decide)) rfl g__is_part F__is_part.kp b__is_part (fun σ => L2N.passAt takesN0 σ) (qa_cons (qvar (i := 0) rfl (.inr (.inl rfl))) (qa_cons (qvar (i := 1) rfl (.inr (.inl rfl))) (qa_cons (qvar (i := 3) rfl (.inl rfl)) qa_nil)))))) qa_nil)))) (qone (qret qbl)) qnil) (qone (qret (qcmp (op_eqD hr.units) does_eq (qlenset rfl hr.units rfl f_len rfl f_set (qcall O_places_of (hr.mono (by decide)) rfl g_places_of F_places_of.kp b_places_of (fun σ => L2N.passAt tk σ) (qa_cons (qvar (i := 2) rfl (.inl rfl)) qa_nil))) (qop op_mulW does_mul (qvar (i := 0) rfl (.inr (.inl rfl))) (qvar (i := 0) rfl (.inr (.inl rfl)))))))))
abbrev N_is_book : List Str := ["told", "b", "kinds", "kind"]
theorem sc_is_book : FnScope N_is_book ["told"] (defScope s_is_book) := ⟨rfl, rfl, rfl, by decide +kernel, rfl, by decide +kernel, by decide +kernel⟩
theorem ok_is_book (X0 : K.In h) (G : h.Ns mainGlobals mg) (c : He.SaysD fa fn K) : ∃ fd, FunD K "is_book" "is_book" (defArgs s_is_book) (defBody s_is_book) (defScope s_is_book) [] [] (He.ga K "is_book") fd ∧ FnOk P w K mg base (L2N.CX P w) 6 (He.ga K "is_book") fd ["told"] (spF K 1 m_is_book) := by
  obtain ⟨fd_is_whole, F_is_whole, O_is_whole⟩ := ok_is_whole (P := P) (w := w) (base := base) X0 G c
  have b_is_whole : Binds K fd_is_whole ["told"] [] := F_is_whole.bindsN fun _ _ _ _ _ _ us hl => match us, hl with | [_], _ => rfl
  have g_is_whole : mg "is_whole" = some (.ref (He.ga K "is_whole")) := He.glo_ok X0 G (c.fact 0 rfl)
  obtain ⟨fd__is_kind, F__is_kind, O__is_kind⟩ := ok__is_kind (P := P) (w := w) (base := base) X0 G c
  have b__is_kind : Binds K fd__is_kind ["b", "many", "told"] [] := F__is_kind.bindsN fun _ _ _ _ _ _ us hl => match us, hl with | [_, _, _], _ => rfl
  have g__is_kind : mg "_is_kind" = some (.ref (He.ga K "_is_kind")) := He.glo_ok X0 G (c.fact 6 rfl)
  have f_all : mg "all" = none := He.free_ok X0 G (c.fact 37 rfl)
  have f_isinstance : mg "isinstance" = none := He.free_ok X0 G (c.fact 41 rfl)
  have f_len : mg "len" = none := He.free_ok X0 G (c.fact 42 rfl)
  have f_tuple : mg "tuple" = none := He.free_ok X0 G (c.fact 49 rfl)
  obtain ⟨fd, F⟩ := c.def_ 5 (d := d_is_book) rfl
  refine ⟨fd, F, fn_ok (k := 5) F sc_is_book fun cdv A outer s H E hr B => ?_⟩
  have hp : PassesOwn (model P w) _ _ _ := passes_of (X := cxOf (L2N.CX P w) P w K mg base N_is_book "is_book" (defScope s_is_book) (He.ga K "is_book") cdv A outer s H E) (K := fun e s'' => L2N.CX P w outer H s E e s'') rfl
  have tk := L2N.takes_of (X := cxOf (L2N.CX P w) P w K mg base N_is_book "is_book" (defScope s_is_book) (He.ga K "is_book") cdv A outer s H E) (E := E) rfl rfl rfl rfl
  have nd := sc_is_book.nd
  exact (qcons (qif (QW.t (qw_or (qtnot (qtval (qisi k_tuple rfl f_isinstance rfl f_tuple boot_tuple (qvar (i := 0) rfl (.inl rfl))))) (qw_or1 (qtcmp (op_neD hr.units) does_ne (qfnB call_len_seq does_len rfl f_len boot_len (qa_cons (qvar (i := 0) rfl (.inl rfl)) qa_nil)) qint)))) (qone (qret qbl)) qnil) (qcons (qasg (ws := [1, 2]) (qvar (i := 0) rfl (.inl rfl)) (qgt rfl (qgscons (qgn (i := 1) nd rfl (.inr rfl) (by decide)) (qgscons (qgn (i := 2) nd rfl (.inr rfl) (by decide)) qgsnil)))) (qcons (qif (QW.t (qw_or (qtnot (qtval (qcall O_is_whole (hr.mono (by decide)) rfl g_is_whole F_is_whole.kp b_is_whole (fun σ => L2N.passAt tk σ) (qa_cons (qvar (i := 1) rfl (.inr (.inl rfl))) qa_nil)))) (qw_or1 (qtcmp (op_notIn2 (room65 hr)) does_notIn (qvar (i := 1) rfl (.inr (.inl rfl))) (qtup (qa_cons qint (qa_cons qint qa_nil))))))) (qone (qret qbl)) qnil) (qcons (qif (QW.t (qw_or (qtnot (qtval (qisi k_tuple rfl f_isinstance rfl f_tuple boot_tuple (qvar (i := 2) rfl (.inr (.inl rfl)))))) (qw_or1 (qtcmp (op_eqD hr.units) does_eq (qfnB call_len_seq does_len rfl f_len boot_len (qa_cons (qvar (i := 2) rfl (.inr (.inl rfl))) qa_nil)) qint)))) (qone (qret qbl)) qnil) (qone (qret (qfnB (cr_all rfl) does_all rfl f_all boot_all (qa_cons (qcomp (vs := [3]) rfl nd (qiof (qvar (i := 2) rfl (.inr (.inl rfl)))) (blkOk_by (own := [("kind", 3)]) (N := N_is_book) (sc := defScope s_is_book) (by decide +kernel)) (gok_n (by decide)) rfl (fun _ _ _ _ _ B => (qgn (i := 3) nd rfl (.inl rfl) (by decide))) (fun _ _ _ _ _ => qtsnil) (fun _ _ _ _ _ => (qcall O__is_kind (hr.mono (by decide)) rfl g__is_kind F__is_kind.kp b__is_kind (fun σ => L2N.passAt takesN0 σ) (qa_cons (qvar (i := 1) rfl (.inr (.inl rfl))) (qa_cons (qfnB call_len_seq does_len rfl f_len boot_len (qa_cons (qvar (i := 2) rfl (.inr (.inl rfl))) qa_nil)) (qa_cons (qvar (i := 3) rfl (.inl rfl)) qa_nil)))))) qa_nil))))))))
abbrev N_check_book : List Str := ["book"]
theorem sc_check_book : FnScope N_check_book ["book"] (defScope s_check_book) := ⟨rfl, rfl, rfl, by decide +kernel, rfl, by decide +kernel, by decide +kernel⟩
theorem ok_check_book (X0 : K.In h) (G : h.Ns mainGlobals mg) (c : He.SaysD fa fn K) : ∃ fd, FunD K "check_book" "check_book" (defArgs s_check_book) (defBody s_check_book) (defScope s_check_book) [] [] (He.ga K "check_book") fd ∧ FnOk P w K mg base (L2N.CX P w) 7 (He.ga K "check_book") fd ["book"] (spF K 1 m_check_book) := by
  obtain ⟨fd_is_book, F_is_book, O_is_book⟩ := ok_is_book (P := P) (w := w) (base := base) X0 G c
  have b_is_book : Binds K fd_is_book ["told"] [] := F_is_book.bindsN fun _ _ _ _ _ _ us hl => match us, hl with | [_], _ => rfl
  have g_is_book : mg "is_book" = some (.ref (He.ga K "is_book")) := He.glo_ok X0 G (c.fact 5 rfl)
  obtain ⟨fd, F⟩ := c.def_ 9 (d := d_check_book) rfl
  refine ⟨fd, F, fn_ok (k := 6) F sc_check_book fun cdv A outer s H E hr B => ?_⟩
  have hp : PassesOwn (model P w) _ _ _ := passes_of (X := cxOf (L2N.CX P w) P w K mg base N_check_book "check_book" (defScope s_check_book) (He.ga K "check_book") cdv A outer s H E) (K := fun e s'' => L2N.CX P w outer H s E e s'') rfl
  have tk := L2N.takes_of (X := cxOf (L2N.CX P w) P w K mg base N_check_book "check_book" (defScope s_check_book) (He.ga K "check_book") cdv A outer s H E) (E := E) rfl rfl rfl rfl
  have nd := sc_check_book.nd
  exact (qone (qif (qtnot (qtval (qcall O_is_book (hr.mono (by decide)) rfl g_is_book F_is_book.kp b_is_book (fun σ => L2N.passAt tk σ) (qa_cons (qvar (i := 0) rfl (.inl rfl)) qa_nil)))) (qone qnever) qnil))
abbrev N_is_posture : List Str := ["told", "way", "mirror"]
theorem sc_is_posture : FnScope N_is_posture ["told"] (defScope s_is_posture) := ⟨rfl, rfl, rfl, by decide +kernel, rfl, by decide +kernel, by decide +kernel⟩
theorem ok_is_posture (X0 : K.In h) (G : h.Ns mainGlobals mg) (c : He.SaysD fa fn K) : ∃ fd, FunD K "is_posture" "is_posture" (defArgs s_is_posture) (defBody s_is_posture) (defScope s_is_posture) [] [] (He.ga K "is_posture") fd ∧ FnOk P w K mg base (L2N.CX P w) 4 (He.ga K "is_posture") fd ["told"] (spF K 1 m_is_posture) := by
  obtain ⟨fd_is_index, F_is_index, O_is_index⟩ := ok_is_index (P := P) (w := w) (base := base) X0 G c
  have b_is_index : Binds K fd_is_index ["told", "many"] [] := F_is_index.bindsN fun _ _ _ _ _ _ us hl => match us, hl with | [_, _], _ => rfl
  have g_is_index : mg "is_index" = some (.ref (He.ga K "is_index")) := He.glo_ok X0 G (c.fact 2 rfl)
  have f_isinstance : mg "isinstance" = none := He.free_ok X0 G (c.fact 41 rfl)
  have f_len : mg "len" = none := He.free_ok X0 G (c.fact 42 rfl)
  have f_tuple : mg "tuple" = none := He.free_ok X0 G (c.fact 49 rfl)
  obtain ⟨fd, F⟩ := c.def_ 10 (d := d_is_posture) rfl
  refine ⟨fd, F, fn_ok (k := 3) F sc_is_posture fun cdv A outer s H E hr B => ?_⟩
  have hp : PassesOwn (model P w) _ _ _ := passes_of (X := cxOf (L2N.CX P w) P w K mg base N_is_posture "is_posture" (defScope s_is_posture) (He.ga K "is_posture") cdv A outer s H E) (K := fun e s'' => L2N.CX P w outer H s E e s'') rfl
  have tk := L2N.takes_of (X := cxOf (L2N.CX P w) P w K mg base N_is_posture "is_posture" (defScope s_is_posture) (He.ga K "is_posture") cdv A outer s H E) (E := E) rfl rfl rfl rfl
  have nd := sc_is_posture.nd
  exact (qcons (qif (QW.t (qw_or (qtnot (qtval (qisi k_tuple rfl f_isinstance rfl f_tuple boot_tuple (qvar (i := 0) rfl (.inl rfl))))) (qw_or1 (qtcmp (op_neD hr.units) does_ne (qfnB call_len_seq does_len rfl f_len boot_len (qa_cons (qvar (i := 0) rfl (.inl rfl)) qa_nil)) qint)))) (qone (qret qbl)) qnil) (qcons (qasg (ws := [1, 2]) (qvar (i := 0) rfl (.inl rfl)) (qgt rfl (qgscons (qgn (i := 1) nd rfl (.inl rfl) (by decide)) (qgscons (qgn (i := 2) nd rfl (.inl rfl) (by decide)) qgsnil)))) (qone (qret (qand (qcall O_is_index (hr.mono (by decide)) rfl g_is_index F_is_index.kp b_is_index (fun σ => L2N.passAt tk σ) (qa_cons (qvar (i := 1) rfl (.inl rfl)) (qa_cons qint qa_nil))) (qone_ (qcall O_is_index (hr.mono (by decide)) rfl g_is_index F_is_index.kp b_is_index (fun σ => L2N.passAt tk σ) (qa_cons (qvar (i := 2) rfl (.inl rfl)) (qa_cons qint qa_nil)))))))))
abbrev N_check_posture : List Str := ["posture"]
theorem sc_check_posture : FnScope N_check_posture ["posture"] (defScope s_check_posture) := ⟨rfl, rfl, rfl, by decide +kernel, rfl, by decide +kernel, by decide +kernel⟩
theorem ok_check_posture (X0 : K.In h) (G : h.Ns mainGlobals mg) (c : He.SaysD fa fn K) : ∃ fd, FunD K "check_posture" "check_posture" (defArgs s_check_posture) (defBody s_check_posture) (defScope s_check_posture) [] [] (He.ga K "check_posture") fd ∧ FnOk P w K mg base (L2N.CX P w) 5 (He.ga K "check_posture") fd ["posture"] (spF K 1 m_check_posture) := by
  obtain ⟨fd_is_posture, F_is_posture, O_is_posture⟩ := ok_is_posture (P := P) (w := w) (base := base) X0 G c
  have b_is_posture : Binds K fd_is_posture ["told"] [] := F_is_posture.bindsN fun _ _ _ _ _ _ us hl => match us, hl with | [_], _ => rfl
  have g_is_posture : mg "is_posture" = some (.ref (He.ga K "is_posture")) := He.glo_ok X0 G (c.fact 10 rfl)
  obtain ⟨fd, F⟩ := c.def_ 11 (d := d_check_posture) rfl
  refine ⟨fd, F, fn_ok (k := 4) F sc_check_posture fun cdv A outer s H E hr B => ?_⟩
  have hp : PassesOwn (model P w) _ _ _ := passes_of (X := cxOf (L2N.CX P w) P w K mg base N_check_posture "check_posture" (defScope s_check_posture) (He.ga K "check_posture") cdv A outer s H E) (K := fun e s'' => L2N.CX P w outer H s E e s'') rfl
  have tk := L2N.takes_of (X := cxOf (L2N.CX P w) P w K mg base N_check_posture "check_posture" (defScope s_check_posture) (He.ga K "check_posture") cdv A outer s H E) (E := E) rfl rfl rfl rfl
  have nd := sc_check_posture.nd
  exact (qone (qif (qtnot (qtval (qcall O_is_posture (hr.mono (by decide)) rfl g_is_posture F_is_posture.kp b_is_posture (fun σ => L2N.passAt tk σ) (qa_cons (qvar (i := 0) rfl (.inl rfl)) qa_nil)))) (qone qnever) qnil))
abbrev N_in_posture : List Str := ["size", "posture", "cell", "x", "y", "way", "mirror", "_"]
theorem sc_in_posture : FnScope N_in_posture ["size", "posture", "cell"] (defScope s_in_posture) := ⟨rfl, rfl, rfl, by decide +kernel, rfl, by decide +kernel, by decide +kernel⟩
theorem ok_in_posture (X0 : K.In h) (G : h.Ns mainGlobals mg) (c : He.SaysD fa fn K) : ∃ fd, FunD K "in_posture" "in_posture" (defArgs s_in_posture) (defBody s_in_posture) (defScope s_in_posture) [] [] (He.ga K "in_posture") fd ∧ FnOk P w K mg base (L2N.CX P w) 1 (He.ga K "in_posture") fd ["size", "posture", "cell"] (spF K 3 m_in_posture) := by
  have f_range : mg "range" = none := He.free_ok X0 G (c.fact 46 rfl)
  obtain ⟨fd, F⟩ := c.def_ 14 (d := d_in_posture) rfl
  refine ⟨fd, F, fn_ok (k := 0) F sc_in_posture fun cdv A outer s H E hr B => ?_⟩
  have hp : PassesOwn (model P w) _ _ _ := passes_of (X := cxOf (L2N.CX P w) P w K mg base N_in_posture "in_posture" (defScope s_in_posture) (He.ga K "in_posture") cdv A outer s H E) (K := fun e s'' => L2N.CX P w outer H s E e s'') rfl
  have tk := L2N.takes_of (X := cxOf (L2N.CX P w) P w K mg base N_in_posture "in_posture" (defScope s_in_posture) (He.ga K "in_posture") cdv A outer s H E) (E := E) rfl rfl rfl rfl
  have nd := sc_in_posture.nd
  exact (qcons (qasg (ws := [3, 4]) (qvar (i := 2) rfl (.inl rfl)) (qgt rfl (qgscons (qgn (i := 3) nd rfl (.inl rfl) (by decide)) (qgscons (qgn (i := 4) nd rfl (.inl rfl) (by decide)) qgsnil)))) (qcons (qasg (ws := [5, 6]) (qvar (i := 1) rfl (.inl rfl)) (qgt rfl (qgscons (qgn (i := 5) nd rfl (.inl rfl) (by decide)) (qgscons (qgn (i := 6) nd rfl (.inl rfl) (by decide)) qgsnil)))) (qcons (qfor (ws := [7]) hp rfl (qir1 rfl f_range (qa_cons (qvar (i := 5) rfl (.inl rfl)) qa_nil)) (fun B => (qgn (i := 7) nd rfl (.inl rfl) (by decide))) (fun B => (qone (qpar2 (i := 3) (j := 4) rfl nd rfl rfl (by decide) rfl rfl (qa_cons (qop op_sub does_sub (qop op_sub does_sub (qvar (i := 0) rfl (.inl rfl)) qint) (qvar (i := 4) rfl (.inl rfl))) (qa_cons (qvar (i := 3) rfl (.inl rfl)) qa_nil)) (by rfl))))) (qcons (qif (qtcmp (op_eqD hr.units) does_eq (qvar (i := 6) rfl (.inl rfl)) qint) (qone (qret (qtup (qa_cons (qvar (i := 4) rfl (.inl rfl)) (qa_cons (qvar (i := 3) rfl (.inl rfl)) qa_nil))))) qnil) (qone (qret (qtup (qa_cons (qvar (i := 3) rfl (.inl rfl)) (qa_cons (qvar (i := 4) rfl (.inl rfl)) qa_nil)))))))))
abbrev N__turned_parts : List Str := ["b", "posture", "parts", "moved", "x", "y", "kind", "right", "up"]
theorem sc__turned_parts : FnScope N__turned_parts ["b", "posture", "parts"] (defScope s__turned_parts) := ⟨rfl, rfl, rfl, by decide +kernel, rfl, by decide +kernel, by decide +kernel⟩
theorem ok__turned_parts (X0 : K.In h) (G : h.Ns mainGlobals mg) (c : He.SaysD fa fn K) : ∃ fd, FunD K "_turned_parts" "_turned_parts" (defArgs s__turned_parts) (defBody s__turned_parts) (defScope s__turned_parts) [] [] (He.ga K "_turned_parts") fd ∧ FnOk P w K mg base (L2N.CX P w) 2 (He.ga K "_turned_parts") fd ["b", "posture", "parts"] (spF K 3 m__turned_parts) := by
  obtain ⟨fd_in_posture, F_in_posture, O_in_posture⟩ := ok_in_posture (P := P) (w := w) (base := base) X0 G c
  have b_in_posture : Binds K fd_in_posture ["size", "posture", "cell"] [] := F_in_posture.bindsN fun _ _ _ _ _ _ us hl => match us, hl with | [_, _, _], _ => rfl
  have g_in_posture : mg "in_posture" = some (.ref (He.ga K "in_posture")) := He.glo_ok X0 G (c.fact 14 rfl)
  have f_tuple : mg "tuple" = none := He.free_ok X0 G (c.fact 49 rfl)
  obtain ⟨fd, F⟩ := c.def_ 13 (d := d__turned_parts) rfl
  refine ⟨fd, F, fn_ok (k := 1) F sc__turned_parts fun cdv A outer s H E hr B => ?_⟩
  have hp : PassesOwn (model P w) _ _ _ := passes_of (X := cxOf (L2N.CX P w) P w K mg base N__turned_parts "_turned_parts" (defScope s__turned_parts) (He.ga K "_turned_parts") cdv A outer s H E) (K := fun e s'' => L2N.CX P w outer H s E e s'') rfl
  have tk := L2N.takes_of (X := cxOf (L2N.CX P w) P w K mg base N__turned_parts "_turned_parts" (defScope s__turned_parts) (He.ga K "_turned_parts") cdv A outer s H E) (E := E) rfl rfl rfl rfl
  have nd := sc__turned_parts.nd
  exact (qcons (qset (i := 3) nd rfl (.inl rfl) (qlst qa_nil)) (qcons (qfor (ws := [4, 5, 6]) hp rfl (qiof (qvar (i := 2) rfl (.inl rfl))) (fun B => (qgt rfl (qgscons (qgn (i := 4) nd rfl (.inl rfl) (by decide)) (qgscons (qgn (i := 5) nd rfl (.inl rfl) (by decide)) (qgscons (qgn (i := 6) nd rfl (.inl rfl) (by decide)) qgsnil))))) (fun B => (qcons (qasg (ws := [7, 8]) (qcall O_in_posture (hr.mono (by decide)) rfl g_in_posture F_in_posture.kp b_in_posture (fun σ => L2N.passAt tk σ) (qa_cons (qvar (i := 0) rfl (.inl rfl)) (qa_cons (qvar (i := 1) rfl (.inl rfl)) (qa_cons (qtup (qa_cons (qvar (i := 4) rfl (.inl rfl)) (qa_cons (qvar (i := 5) rfl (.inl rfl)) qa_nil))) qa_nil)))) (qgt rfl (qgscons (qgn (i := 7) nd rfl (.inl rfl) (by decide)) (qgscons (qgn (i := 8) nd rfl (.inl rfl) (by decide)) qgsnil)))) (qone (qexpr (qmeth (i := 3) PySem.F.slot_list_append PySem.F.type_list_append mt_append does_append rfl (.inl rfl) (qa_cons (qtup (qa_cons (qvar (i := 7) rfl (.inl rfl)) (qa_cons (qvar (i := 8) rfl (.inl rfl)) (qa_cons (qvar (i := 6) rfl (.inl rfl)) qa_nil)))) qa_nil))))))) (qone (qret (qfnT call_tuple_of does_tuple rfl f_tuple boot_tuple (qa_cons (qvar (i := 3) rfl (.inl rfl)) qa_nil))))))
abbrev N_turned : List Str := ["book", "posture", "b", "kinds", "parts"]
theorem sc_turned : FnScope N_turned ["book", "posture"] (defScope s_turned) := ⟨rfl, rfl, rfl, by decide +kernel, rfl, by decide +kernel, by decide +kernel⟩
theorem ok_turned (X0 : K.In h) (G : h.Ns mainGlobals mg) (c : He.SaysD fa fn K) : ∃ fd, FunD K "turned" "turned" (defArgs s_turned) (defBody s_turned) (defScope s_turned) [] [] (He.ga K "turned") fd ∧ FnOk P w K mg base (L2N.CX P w) 8 (He.ga K "turned") fd ["book", "posture"] (spF K 2 m_turned) := by
  obtain ⟨fd_check_book, F_check_book, O_check_book⟩ := ok_check_book (P := P) (w := w) (base := base) X0 G c
  have b_check_book : Binds K fd_check_book ["book"] [] := F_check_book.bindsN fun _ _ _ _ _ _ us hl => match us, hl with | [_], _ => rfl
  have g_check_book : mg "check_book" = some (.ref (He.ga K "check_book")) := He.glo_ok X0 G (c.fact 9 rfl)
  obtain ⟨fd_check_posture, F_check_posture, O_check_posture⟩ := ok_check_posture (P := P) (w := w) (base := base) X0 G c
  have b_check_posture : Binds K fd_check_posture ["posture"] [] := F_check_posture.bindsN fun _ _ _ _ _ _ us hl => match us, hl with | [_], _ => rfl
  have g_check_posture : mg "check_posture" = some (.ref (He.ga K "check_posture")) := He.glo_ok X0 G (c.fact 11 rfl)
  obtain ⟨fd__turned_parts, F__turned_parts, O__turned_parts⟩ := ok__turned_parts (P := P) (w := w) (base := base) X0 G c
  have b__turned_parts : Binds K fd__turned_parts ["b", "posture", "parts"] [] := F__turned_parts.bindsN fun _ _ _ _ _ _ us hl => match us, hl with | [_, _, _], _ => rfl
  have g__turned_parts : mg "_turned_parts" = some (.ref (He.ga K "_turned_parts")) := He.glo_ok X0 G (c.fact 13 rfl)
  have f_tuple : mg "tuple" = none := He.free_ok X0 G (c.fact 49 rfl)
  obtain ⟨fd, F⟩ := c.def_ 12 (d := d_turned) rfl
  refine ⟨fd, F, fn_ok (k := 7) F sc_turned fun cdv A outer s H E hr B => ?_⟩
  have hp : PassesOwn (model P w) _ _ _ := passes_of (X := cxOf (L2N.CX P w) P w K mg base N_turned "turned" (defScope s_turned) (He.ga K "turned") cdv A outer s H E) (K := fun e s'' => L2N.CX P w outer H s E e s'') rfl
  have tk := L2N.takes_of (X := cxOf (L2N.CX P w) P w K mg base N_turned "turned" (defScope s_turned) (He.ga K "turned") cdv A outer s H E) (E := E) rfl rfl rfl rfl
  have nd := sc_turned.nd
  exact (qcons (qexpr (qcall O_check_book (hr.mono (by decide)) rfl g_check_book F_check_book.kp b_check_book (fun σ => L2N.passAt tk σ) (qa_cons (qvar (i := 0) rfl (.inl rfl)) qa_nil))) (qcons (qexpr (qcall O_check_posture (hr.mono (by decide)) rfl g_check_posture F_check_posture.kp b_check_posture (fun σ => L2N.passAt tk σ) (qa_cons (qvar (i := 1) rfl (.inr (.inl rfl))) qa_nil))) (qcons (qasg (ws := [2, 3]) (qvar (i := 0) rfl (.inl rfl)) (qgt rfl (qgscons (qgn (i := 2) nd rfl (.inr rfl) (by decide)) (qgscons (qgn (i := 3) nd rfl (.inl rfl) (by decide)) qgsnil)))) (qone (qret (qtup (qa_cons (qvar (i := 2) rfl (.inr (.inl rfl))) (qa_cons (qfnT call_tuple_of does_tuple rfl f_tuple boot_tuple (qa_cons (qcomp (vs := [4]) rfl nd (qiof (qvar (i := 3) rfl (.inl rfl))) (blkOk_by (own := [("parts", 4)]) (N := N_turned) (sc := defScope s_turned) (by decide +kernel)) (gok_n (by decide)) rfl (fun _ _ _ _ _ B => (qgn (i := 4) nd rfl (.inl rfl) (by decide))) (fun _ _ _ _ _ => qtsnil) (fun _ _ _ _ _ => (qcall O__turned_parts (hr.mono (by decide)) rfl g__turned_parts F__turned_parts.kp b__turned_parts (fun σ => L2N.passAt takesN0 σ) (qa_cons (qvar (i := 2) rfl (.inr (.inl rfl))) (qa_cons (qvar (i := 1) rfl (.inr (.inl rfl))) (qa_cons (qvar (i := 4) rfl (.inl rfl)) qa_nil)))))) qa_nil)) qa_nil))))))))
abbrev N_backward : List Str := ["book", "b", "kinds", "parts"]
theorem sc_backward : FnScope N_backward ["book"] (defScope s_backward) := ⟨rfl, rfl, rfl, by decide +kernel, rfl, by decide +kernel, by decide +kernel⟩
theorem ok_backward (X0 : K.In h) (G : h.Ns mainGlobals mg) (c : He.SaysD fa fn K) : ∃ fd, FunD K "backward" "backward" (defArgs s_backward) (defBody s_backward) (defScope s_backward) [] [] (He.ga K "backward") fd ∧ FnOk P w K mg base (L2N.CX P w) 8 (He.ga K "backward") fd ["book"] (spF K 1 m_backward) := by
  obtain ⟨fd_check_book, F_check_book, O_check_book⟩ := ok_check_book (P := P) (w := w) (base := base) X0 G c
  have b_check_book : Binds K fd_check_book ["book"] [] := F_check_book.bindsN fun _ _ _ _ _ _ us hl => match us, hl with | [_], _ => rfl
  have g_check_book : mg "check_book" = some (.ref (He.ga K "check_book")) := He.glo_ok X0 G (c.fact 9 rfl)
  have f_tuple : mg "tuple" = none := He.free_ok X0 G (c.fact 49 rfl)
  obtain ⟨fd, F⟩ := c.def_ 15 (d := d_backward) rfl
  refine ⟨fd, F, fn_ok (k := 7) F sc_backward fun cdv A outer s H E hr B => ?_⟩
  have hp : PassesOwn (model P w) _ _ _ := passes_of (X := cxOf (L2N.CX P w) P w K mg base N_backward "backward" (defScope s_backward) (He.ga K "backward") cdv A outer s H E) (K := fun e s'' => L2N.CX P w outer H s E e s'') rfl
  have tk := L2N.takes_of (X := cxOf (L2N.CX P w) P w K mg base N_backward "backward" (defScope s_backward) (He.ga K "backward") cdv A outer s H E) (E := E) rfl rfl rfl rfl
  have nd := sc_backward.nd
  exact (qcons (qexpr (qcall O_check_book (hr.mono (by decide)) rfl g_check_book F_check_book.kp b_check_book (fun σ => L2N.passAt tk σ) (qa_cons (qvar (i := 0) rfl (.inl rfl)) qa_nil))) (qcons (qasg (ws := [1, 2]) (qvar (i := 0) rfl (.inl rfl)) (qgt rfl (qgscons (qgn (i := 1) nd rfl (.inl rfl) (by decide)) (qgscons (qgn (i := 2) nd rfl (.inl rfl) (by decide)) qgsnil)))) (qone (qret (qtup (qa_cons (qvar (i := 1) rfl (.inl rfl)) (qa_cons (qfnT call_tuple_of does_tuple rfl f_tuple boot_tuple (qa_cons (qcomp (vs := [3]) rfl nd (qiof (qvar (i := 2) rfl (.inl rfl))) (blkOk_by (own := [("parts", 3)]) (N := N_backward) (sc := defScope s_backward) (by decide +kernel)) (gok_n (by decide)) rfl (fun _ _ _ _ _ B => (qgn (i := 3) nd rfl (.inl rfl) (by decide))) (fun _ _ _ _ _ => qtsnil) (fun _ _ _ _ _ => (qrev (qvar (i := 3) rfl (.inl rfl))))) qa_nil)) qa_nil)))))))
abbrev N_check_depth : List Str := ["d"]
theorem sc_check_depth : FnScope N_check_depth ["d"] (defScope s_check_depth) := ⟨rfl, rfl, rfl, by decide +kernel, rfl, by decide +kernel, by decide +kernel⟩
theorem ok_check_depth (X0 : K.In h) (G : h.Ns mainGlobals mg) (c : He.SaysD fa fn K) : ∃ fd, FunD K "check_depth" "check_depth" (defArgs s_check_depth) (defBody s_check_depth) (defScope s_check_depth) [] [] (He.ga K "check_depth") fd ∧ FnOk P w K mg base (L2N.CX P w) 3 (He.ga K "check_depth") fd ["d"] (spF K 1 m_check_depth) := by
  obtain ⟨fd_is_count, F_is_count, O_is_count⟩ := ok_is_count (P := P) (w := w) (base := base) X0 G c
  have b_is_count : Binds K fd_is_count ["told"] [] := F_is_count.bindsN fun _ _ _ _ _ _ us hl => match us, hl with | [_], _ => rfl
  have g_is_count : mg "is_count" = some (.ref (He.ga K "is_count")) := He.glo_ok X0 G (c.fact 1 rfl)
  obtain ⟨fd, F⟩ := c.def_ 16 (d := d_check_depth) rfl
  refine ⟨fd, F, fn_ok (k := 2) F sc_check_depth fun cdv A outer s H E hr B => ?_⟩
  have hp : PassesOwn (model P w) _ _ _ := passes_of (X := cxOf (L2N.CX P w) P w K mg base N_check_depth "check_depth" (defScope s_check_depth) (He.ga K "check_depth") cdv A outer s H E) (K := fun e s'' => L2N.CX P w outer H s E e s'') rfl
  have tk := L2N.takes_of (X := cxOf (L2N.CX P w) P w K mg base N_check_depth "check_depth" (defScope s_check_depth) (He.ga K "check_depth") cdv A outer s H E) (E := E) rfl rfl rfl rfl
  have nd := sc_check_depth.nd
  exact (qone (qif (qtnot (qtval (qcall O_is_count (hr.mono (by decide)) rfl g_is_count F_is_count.kp b_is_count (fun σ => L2N.passAt tk σ) (qa_cons (qvar (i := 0) rfl (.inl rfl)) qa_nil)))) (qone qnever) qnil))
abbrev N_how_many_cells : List Str := ["book", "d"]
theorem sc_how_many_cells : FnScope N_how_many_cells ["book", "d"] (defScope s_how_many_cells) := ⟨rfl, rfl, rfl, by decide +kernel, rfl, by decide +kernel, by decide +kernel⟩
theorem ok_how_many_cells (X0 : K.In h) (G : h.Ns mainGlobals mg) (c : He.SaysD fa fn K) : ∃ fd, FunD K "how_many_cells" "how_many_cells" (defArgs s_how_many_cells) (defBody s_how_many_cells) (defScope s_how_many_cells) [] [] (He.ga K "how_many_cells") fd ∧ FnOk P w K mg base (L2N.CX P w) 2 (He.ga K "how_many_cells") fd ["book", "d"] (spF K 2 m_how_many_cells) := by
  obtain ⟨fd_power, F_power, O_power⟩ := ok_power (P := P) (w := w) (base := base) X0 G c
  have b_power : Binds K fd_power ["base", "times"] [] := F_power.bindsN fun _ _ _ _ _ _ us hl => match us, hl with | [_, _], _ => rfl
  have g_power : mg "power" = some (.ref (He.ga K "power")) := He.glo_ok X0 G (c.fact 3 rfl)
  obtain ⟨fd, F⟩ := c.def_ 17 (d := d_how_many_cells) rfl
  refine ⟨fd, F, fn_ok (k := 1) F sc_how_many_cells fun cdv A outer s H E hr B => ?_⟩
  have hp : PassesOwn (model P w) _ _ _ := passes_of (X := cxOf (L2N.CX P w) P w K mg base N_how_many_cells "how_many_cells" (defScope s_how_many_cells) (He.ga K "how_many_cells") cdv A outer s H E) (K := fun e s'' => L2N.CX P w outer H s E e s'') rfl
  have tk := L2N.takes_of (X := cxOf (L2N.CX P w) P w K mg base N_how_many_cells "how_many_cells" (defScope s_how_many_cells) (He.ga K "how_many_cells") cdv A outer s H E) (E := E) rfl rfl rfl rfl
  have nd := sc_how_many_cells.nd
  exact (qone (qret (qcall O_power (hr.mono (by decide)) rfl g_power F_power.kp b_power (fun σ => L2N.passAt tk σ) (qa_cons (qop op_mulW does_mul (qix (qvar (i := 0) rfl (.inl rfl)) qint) (qix (qvar (i := 0) rfl (.inl rfl)) qint)) (qa_cons (qvar (i := 1) rfl (.inl rfl)) qa_nil)))))
abbrev N_cell_in_kind : List Str := ["book", "kind", "d", "number", "b", "kinds", "x", "y", "digit", "right", "up"]
theorem sc_cell_in_kind : FnScope N_cell_in_kind ["book", "kind", "d", "number"] (defScope s_cell_in_kind) := ⟨rfl, rfl, rfl, by decide +kernel, rfl, by decide +kernel, by decide +kernel⟩
theorem ok_cell_in_kind (X0 : K.In h) (G : h.Ns mainGlobals mg) (c : He.SaysD fa fn K) : ∃ fd, FunD K "cell_in_kind" "cell_in_kind" (defArgs s_cell_in_kind) (defBody s_cell_in_kind) (defScope s_cell_in_kind) [] [] (He.ga K "cell_in_kind") fd ∧ FnOk P w K mg base (L2N.CX P w) 2 (He.ga K "cell_in_kind") fd ["book", "kind", "d", "number"] (spF K 4 m_cell_in_kind) := by
  obtain ⟨fd_digits_of, F_digits_of, O_digits_of⟩ := ok_digits_of (P := P) (w := w) (base := base) X0 G c
  have b_digits_of : Binds K fd_digits_of ["number", "base", "many"] [] := F_digits_of.bindsN fun _ _ _ _ _ _ us hl => match us, hl with | [_, _, _], _ => rfl
  have g_digits_of : mg "digits_of" = some (.ref (He.ga K "digits_of")) := He.glo_ok X0 G (c.fact 4 rfl)
  obtain ⟨fd, F⟩ := c.def_ 18 (d := d_cell_in_kind) rfl
  refine ⟨fd, F, fn_ok (k := 1) F sc_cell_in_kind fun cdv A outer s H E hr B => ?_⟩
  have hp : PassesOwn (model P w) _ _ _ := passes_of (X := cxOf (L2N.CX P w) P w K mg base N_cell_in_kind "cell_in_kind" (defScope s_cell_in_kind) (He.ga K "cell_in_kind") cdv A outer s H E) (K := fun e s'' => L2N.CX P w outer H s E e s'') rfl
  have tk := L2N.takes_of (X := cxOf (L2N.CX P w) P w K mg base N_cell_in_kind "cell_in_kind" (defScope s_cell_in_kind) (He.ga K "cell_in_kind") cdv A outer s H E) (E := E) rfl rfl rfl rfl
  have nd := sc_cell_in_kind.nd
  exact (qcons (qasg (ws := [4, 5]) (qvar (i := 0) rfl (.inl rfl)) (qgt rfl (qgscons (qgn (i := 4) nd rfl (.inl rfl) (by decide)) (qgscons (qgn (i := 5) nd rfl (.inl rfl) (by decide)) qgsnil)))) (qcons (qset (i := 6) nd rfl (.inl rfl) qint) (qcons (qset (i := 7) nd rfl (.inl rfl) qint) (qcons (qfor (ws := [8]) hp rfl (qiof (qcall O_digits_of (hr.mono (by decide)) rfl g_digits_of F_digits_of.kp b_digits_of (fun σ => L2N.passAt tk σ) (qa_cons (qvar (i := 3) rfl (.inl rfl)) (qa_cons (qop op_mulW does_mul (qvar (i := 4) rfl (.inl rfl)) (qvar (i := 4) rfl (.inl rfl))) (qa_cons (qvar (i := 2) rfl (.inl rfl)) qa_nil))))) (fun B => (qgn (i := 8) nd rfl (.inl rfl) (by decide))) (fun B => (qcons (qasg (ws := [9, 10, 1]) (qix (qix (qvar (i := 5) rfl (.inl rfl)) (qvar (i := 1) rfl (.inl rfl))) (qvar (i := 8) rfl (.inl rfl))) (qgt rfl (qgscons (qgn (i := 9) nd rfl (.inl rfl) (by decide)) (qgscons (qgn (i := 10) nd rfl (.inl rfl) (by decide)) (qgscons (qgn (i := 1) nd rfl (.inl rfl) (by decide)) qgsnil))))) (qcons (qset (i := 6) nd rfl (.inl rfl) (qop op_add4 does_add (qop op_mulW does_mul (qvar (i := 6) rfl (.inl rfl)) (qvar (i := 4) rfl (.inl rfl))) (qvar (i := 9) rfl (.inl rfl)))) (qone (qset (i := 7) nd rfl (.inl rfl) (qop op_add4 does_add (qop op_mulW does_mul (qvar (i := 7) rfl (.inl rfl)) (qvar (i := 4) rfl (.inl rfl))) (qvar (i := 10) rfl (.inl rfl))))))))) (qone (qret (qtup (qa_cons (qvar (i := 6) rfl (.inl rfl)) (qa_cons (qvar (i := 7) rfl (.inl rfl)) qa_nil)))))))))
abbrev N_whole : List Str := ["book", "d", "number"]
theorem sc_whole : FnScope N_whole ["book", "d"] (defScope s_whole) := ⟨rfl, rfl, rfl, by decide +kernel, rfl, by decide +kernel, by decide +kernel⟩
theorem ok_whole (X0 : K.In h) (G : h.Ns mainGlobals mg) (c : He.SaysD fa fn K) : ∃ fd, FunD K "whole" "whole" (defArgs s_whole) (defBody s_whole) (defScope s_whole) [] [] (He.ga K "whole") fd ∧ FnOk P w K mg base (L2N.CX P w) 8 (He.ga K "whole") fd ["book", "d"] (spF K 2 m_whole) := by
  obtain ⟨fd_check_book, F_check_book, O_check_book⟩ := ok_check_book (P := P) (w := w) (base := base) X0 G c
  have b_check_book : Binds K fd_check_book ["book"] [] := F_check_book.bindsN fun _ _ _ _ _ _ us hl => match us, hl with | [_], _ => rfl
  have g_check_book : mg "check_book" = some (.ref (He.ga K "check_book")) := He.glo_ok X0 G (c.fact 9 rfl)
  obtain ⟨fd_check_depth, F_check_depth, O_check_depth⟩ := ok_check_depth (P := P) (w := w) (base := base) X0 G c
  have b_check_depth : Binds K fd_check_depth ["d"] [] := F_check_depth.bindsN fun _ _ _ _ _ _ us hl => match us, hl with | [_], _ => rfl
  have g_check_depth : mg "check_depth" = some (.ref (He.ga K "check_depth")) := He.glo_ok X0 G (c.fact 16 rfl)
  obtain ⟨fd_cell_in_kind, F_cell_in_kind, O_cell_in_kind⟩ := ok_cell_in_kind (P := P) (w := w) (base := base) X0 G c
  have b_cell_in_kind : Binds K fd_cell_in_kind ["book", "kind", "d", "number"] [] := F_cell_in_kind.bindsN fun _ _ _ _ _ _ us hl => match us, hl with | [_, _, _, _], _ => rfl
  have g_cell_in_kind : mg "cell_in_kind" = some (.ref (He.ga K "cell_in_kind")) := He.glo_ok X0 G (c.fact 18 rfl)
  obtain ⟨fd_how_many_cells, F_how_many_cells, O_how_many_cells⟩ := ok_how_many_cells (P := P) (w := w) (base := base) X0 G c
  have b_how_many_cells : Binds K fd_how_many_cells ["book", "d"] [] := F_how_many_cells.bindsN fun _ _ _ _ _ _ us hl => match us, hl with | [_, _], _ => rfl
  have g_how_many_cells : mg "how_many_cells" = some (.ref (He.ga K "how_many_cells")) := He.glo_ok X0 G (c.fact 17 rfl)
  have f_range : mg "range" = none := He.free_ok X0 G (c.fact 46 rfl)
  obtain ⟨fd, F⟩ := c.def_ 19 (d := d_whole) rfl
  refine ⟨fd, F, fn_ok (k := 7) F sc_whole fun cdv A outer s H E hr B => ?_⟩
  have hp : PassesOwn (model P w) _ _ _ := passes_of (X := cxOf (L2N.CX P w) P w K mg base N_whole "whole" (defScope s_whole) (He.ga K "whole") cdv A outer s H E) (K := fun e s'' => L2N.CX P w outer H s E e s'') rfl
  have tk := L2N.takes_of (X := cxOf (L2N.CX P w) P w K mg base N_whole "whole" (defScope s_whole) (He.ga K "whole") cdv A outer s H E) (E := E) rfl rfl rfl rfl
  have nd := sc_whole.nd
  exact (qcons (qexpr (qcall O_check_book (hr.mono (by decide)) rfl g_check_book F_check_book.kp b_check_book (fun σ => L2N.passAt tk σ) (qa_cons (qvar (i := 0) rfl (.inr (.inl rfl))) qa_nil))) (qcons (qexpr (qcall O_check_depth (hr.mono (by decide)) rfl g_check_depth F_check_depth.kp b_check_depth (fun σ => L2N.passAt tk σ) (qa_cons (qvar (i := 1) rfl (.inr (.inl rfl))) qa_nil))) (qone (qret (qcomp (vs := [2]) rfl nd (qir1 rfl f_range (qa_cons (qcall O_how_many_cells (hr.mono (by decide)) rfl g_how_many_cells F_how_many_cells.kp b_how_many_cells (fun σ => L2N.passAt tk σ) (qa_cons (qvar (i := 0) rfl (.inr (.inl rfl))) (qa_cons (qvar (i := 1) rfl (.inr (.inl rfl))) qa_nil))) qa_nil)) (blkOk_by (own := [("number", 2)]) (N := N_whole) (sc := defScope s_whole) (by decide +kernel)) (gok_n (by decide)) rfl (fun _ _ _ _ _ B => (qgn (i := 2) nd rfl (.inl rfl) (by decide))) (fun _ _ _ _ _ => qtsnil) (fun _ _ _ _ _ => (qcall O_cell_in_kind (hr.mono (by decide)) rfl g_cell_in_kind F_cell_in_kind.kp b_cell_in_kind (fun σ => L2N.passAt takesN0 σ) (qa_cons (qvar (i := 0) rfl (.inr (.inl rfl))) (qa_cons qint (qa_cons (qvar (i := 1) rfl (.inr (.inl rfl))) (qa_cons (qvar (i := 2) rfl (.inl rfl)) qa_nil)))))))))))
abbrev N__law_deck : List Str := ["script", "at", "cell", "stir"]
theorem sc__law_deck : FnScope N__law_deck ["script", "at"] (defScope s__law_deck) := ⟨rfl, rfl, rfl, by decide +kernel, rfl, by decide +kernel, by decide +kernel⟩
theorem ok__law_deck (X0 : K.In h) (G : h.Ns mainGlobals mg) (c : He.SaysD fa fn K) : ∃ fd, FunD K "_law_deck" "_law_deck" (defArgs s__law_deck) (defBody s__law_deck) (defScope s__law_deck) [] [] (He.ga K "_law_deck") fd ∧ FnOk P w K mg base (L2N.CX P w) 1 (He.ga K "_law_deck") fd ["script", "at"] (spF K 2 m__law_deck) := by
  have f_int : mg "int" = none := He.free_ok X0 G (c.fact 40 rfl)
  have f_len : mg "len" = none := He.free_ok X0 G (c.fact 42 rfl)
  obtain ⟨fd, F⟩ := c.def_ 20 (d := d__law_deck) rfl
  refine ⟨fd, F, fn_ok (k := 0) F sc__law_deck fun cdv A outer s H E hr B => ?_⟩
  have hp : PassesOwn (model P w) _ _ _ := passes_of (X := cxOf (L2N.CX P w) P w K mg base N__law_deck "_law_deck" (defScope s__law_deck) (He.ga K "_law_deck") cdv A outer s H E) (K := fun e s'' => L2N.CX P w outer H s E e s'') rfl
  have tk := L2N.takes_of (X := cxOf (L2N.CX P w) P w K mg base N__law_deck "_law_deck" (defScope s__law_deck) (He.ga K "_law_deck") cdv A outer s H E) (E := E) rfl rfl rfl rfl
  have nd := sc__law_deck.nd
  exact (qcons (qset (i := 2) nd rfl (.inl rfl) qint) (qcons (qif (qtcmp op_lt does_lt (qvar (i := 1) rfl (.inl rfl)) (qfnB call_len_seq does_len rfl f_len boot_len (qa_cons (qvar (i := 0) rfl (.inl rfl)) qa_nil))) (qone (qset (i := 2) nd rfl (.inl rfl) (qix (qvar (i := 0) rfl (.inl rfl)) (qvar (i := 1) rfl (.inl rfl))))) qnil) (qcons (qset (i := 3) nd rfl (.inl rfl) (qop op_mod does_mod (qfnT call_int1 does_int rfl f_int boot_int (qa_cons (qop op_add4 does_add (qop op_add4 does_add (qvar (i := 2) rfl (.inl rfl)) (qop op_mulW does_mul qint (qvar (i := 1) rfl (.inl rfl)))) qint) qa_nil)) qint)) (qcons (qset (i := 3) nd rfl (.inl rfl) (qop op_mod does_mod (qfnT call_int1 does_int rfl f_int boot_int (qa_cons (qop op_add4 does_add (qop op_add4 does_add (qop op_mulW does_mul (qop op_mulW does_mul (qvar (i := 3) rfl (.inl rfl)) (qvar (i := 3) rfl (.inl rfl))) (qvar (i := 3) rfl (.inl rfl))) (qop op_mulW does_mul qint (qvar (i := 1) rfl (.inl rfl)))) qint) qa_nil)) qint)) (qcons (qif (qtcmp op_lt does_lt (qvar (i := 2) rfl (.inl rfl)) (qop op_pow does_pow qint qint)) (qone (qret (qlst (qa_cons qint (qa_cons (qvar (i := 3) rfl (.inl rfl)) qa_nil))))) qnil) (qone (qret (qlst (qa_cons (qop op_sub does_sub (qvar (i := 2) rfl (.inl rfl)) (qop op_pow does_pow qint qint)) (qa_cons (qvar (i := 3) rfl (.inl rfl)) qa_nil))))))))))
abbrev N__law_take : List Str := ["deck", "many", "taken"]
theorem sc__law_take : FnScope N__law_take ["deck", "many"] (defScope s__law_take) := ⟨rfl, rfl, rfl, by decide +kernel, rfl, by decide +kernel, by decide +kernel⟩
theorem ok__law_take (X0 : K.In h) (G : h.Ns mainGlobals mg) (c : He.SaysD fa fn K) : ∃ fd, FunD K "_law_take" "_law_take" (defArgs s__law_take) (defBody s__law_take) (defScope s__law_take) [] [] (He.ga K "_law_take") fd ∧ FnOk P w K mg base (L2N.CX P w) 1 (He.ga K "_law_take") fd ["deck", "many"] (spF K 2 m__law_take) := by
  have f_int : mg "int" = none := He.free_ok X0 G (c.fact 40 rfl)
  obtain ⟨fd, F⟩ := c.def_ 21 (d := d__law_take) rfl
  refine ⟨fd, F, fn_ok (k := 0) F sc__law_take fun cdv A outer s H E hr B => ?_⟩
  have hp : PassesOwn (model P w) _ _ _ := passes_of (X := cxOf (L2N.CX P w) P w K mg base N__law_take "_law_take" (defScope s__law_take) (He.ga K "_law_take") cdv A outer s H E) (K := fun e s'' => L2N.CX P w outer H s E e s'') rfl
  have tk := L2N.takes_of (X := cxOf (L2N.CX P w) P w K mg base N__law_take "_law_take" (defScope s__law_take) (He.ga K "_law_take") cdv A outer s H E) (E := E) rfl rfl rfl rfl
  have nd := sc__law_take.nd
  exact (qcons (qif (qtcmp op_gt does_gt (qix (qvar (i := 0) rfl (.inl rfl)) qint) qint) (qcons (qset (i := 2) nd rfl (.inl rfl) (qop op_mod does_mod (qfnT call_int1 does_int rfl f_int boot_int (qa_cons (qix (qvar (i := 0) rfl (.inl rfl)) qint) qa_nil)) (qvar (i := 1) rfl (.inl rfl)))) (qcons (qsetix (i := 0) rfl (.inl rfl) qint (qop op_fdivW does_div (qix (qvar (i := 0) rfl (.inl rfl)) qint) (qvar (i := 1) rfl (.inl rfl)))) (qone (qret (qvar (i := 2) rfl (.inl rfl)))))) qnil) (qcons (qsetix (i := 0) rfl (.inl rfl) qint (qop op_mod does_mod (qfnT call_int1 does_int rfl f_int boot_int (qa_cons (qop op_add4 does_add (qop op_mulW does_mul (qix (qvar (i := 0) rfl (.inl rfl)) qint) qint) qint) qa_nil)) (qop op_pow does_pow qint qint))) (qone (qret (qop op_mod does_mod (qop op_fdivW does_div (qix (qvar (i := 0) rfl (.inl rfl)) qint) (qop op_pow does_pow qint qint)) (qvar (i := 1) rfl (.inl rfl)))))))
abbrev N__law_same : List Str := ["found", "due", "at"]
theorem sc__law_same : FnScope N__law_same ["found", "due"] (defScope s__law_same) := ⟨rfl, rfl, rfl, by decide +kernel, rfl, by decide +kernel, by decide +kernel⟩
theorem ok__law_same (X0 : K.In h) (G : h.Ns mainGlobals mg) (c : He.SaysD fa fn K) : ∀ fuel : Nat, ∃ fd, FunD K "_law_same" "_law_same" (defArgs s__law_same) (defBody s__law_same) (defScope s__law_same) [] [] (He.ga K "_law_same") fd ∧ FnOk P w K mg base (L2N.CX P w) (1 + fuel) (He.ga K "_law_same") fd ["found", "due"] (spF K 2 (m__law_same fuel)) := by
  have f_bool : mg "bool" = none := He.free_ok X0 G (c.fact 38 rfl)
  have f_int : mg "int" = none := He.free_ok X0 G (c.fact 40 rfl)
  have f_isinstance : mg "isinstance" = none := He.free_ok X0 G (c.fact 41 rfl)
  have f_len : mg "len" = none := He.free_ok X0 G (c.fact 42 rfl)
  have f_list : mg "list" = none := He.free_ok X0 G (c.fact 43 rfl)
  have f_range : mg "range" = none := He.free_ok X0 G (c.fact 46 rfl)
  have f_str : mg "str" = none := He.free_ok X0 G (c.fact 48 rfl)
  have f_tuple : mg "tuple" = none := He.free_ok X0 G (c.fact 49 rfl)
  have g__law_same : mg "_law_same" = some (.ref (He.ga K "_law_same")) := He.glo_ok X0 G (c.fact 22 rfl)
  obtain ⟨fd, F__law_same⟩ := c.def_ 22 (d := d__law_same) rfl
  have F__law_same : FunD K "_law_same" "_law_same" (defArgs s__law_same) (defBody s__law_same) (defScope s__law_same) [] [] (He.ga K "_law_same") fd := F__law_same
  have b__law_same : Binds K fd ["found", "due"] [] := F__law_same.bindsN fun _ _ _ _ _ _ us hl => match us, hl with | [_, _], _ => rfl
  intro fuel
  refine ⟨fd, F__law_same, ?_⟩
  induction fuel with
  | zero =>
    refine (fn_ok (k := 0) (b := sNever) F__law_same sc__law_same fun cdv A outer s H E hr B => qnevers).imp fun vs H Q E z => ⟨z.1, ?_⟩
    obtain ⟨e, F, R, z⟩ := z.2
    exact z.elim
  | succ fuel ih =>
    have O__law_same := ih
    refine fn_ok (k := 1 + fuel) F__law_same sc__law_same fun cdv A outer s H E hr B => ?_
    have hp : PassesOwn (model P w) _ _ _ := passes_of (X := cxOf (L2N.CX P w) P w K mg base N__law_same "_law_same" (defScope s__law_same) (He.ga K "_law_same") cdv A outer s H E) (K := fun e s'' => L2N.CX P w outer H s E e s'') rfl
    have tk := L2N.takes_of (X := cxOf (L2N.CX P w) P w K mg base N__law_same "_law_same" (defScope s__law_same) (He.ga K "_law_same") cdv A outer s H E) (E := E) rfl rfl rfl rfl
    have nd := sc__law_same.nd
    exact (qcons (qif (qtval (qisi2 k_tl rfl f_isinstance rfl f_tuple boot_tuple rfl f_list boot_list (qvar (i := 1) rfl (.inr (.inl rfl))))) (qcons (qif (QW.t (qw_or (qtcmp (op_neD hr.units) does_ne (qisi k_tuple rfl f_isinstance rfl f_tuple boot_tuple (qvar (i := 0) rfl (.inr (.inl rfl)))) (qisi k_tuple rfl f_isinstance rfl f_tuple boot_tuple (qvar (i := 1) rfl (.inr (.inl rfl))))) (qw_or1 (qtcmp (op_neD hr.units) does_ne (qisi k_list rfl f_isinstance rfl f_list boot_list (qvar (i := 0) rfl (.inr (.inl rfl)))) (qisi k_list rfl f_isinstance rfl f_list boot_list (qvar (i := 1) rfl (.inr (.inl rfl)))))))) (qone (qret qbl)) qnil) (qcons (qif (qtcmp (op_neD hr.units) does_ne (qfnB call_len_seq does_len rfl f_len boot_len (qa_cons (qvar (i := 0) rfl (.inr (.inl rfl))) qa_nil)) (qfnB call_len_seq does_len rfl f_len boot_len (qa_cons (qvar (i := 1) rfl (.inr (.inl rfl))) qa_nil))) (qone (qret qbl)) qnil) (qone (qret (qcmp (op_eqD hr.units) does_eq (qcomp (vs := [2]) rfl nd (qir1 rfl f_range (qa_cons (qfnB call_len_seq does_len rfl f_len boot_len (qa_cons (qvar (i := 1) rfl (.inr (.inl rfl))) qa_nil)) qa_nil)) (blkOk_by (own := [("at", 2)]) (N := N__law_same) (sc := defScope s__law_same) (by decide +kernel)) (gok_n (by decide)) rfl (fun _ _ _ _ _ B => (qgn (i := 2) nd rfl (.inl rfl) (by decide))) (fun _ _ _ _ _ => (qtsone (qtnot (qtval (qcall O__law_same (hr.mono (by omega)) rfl g__law_same F__law_same.kp b__law_same (fun σ => L2N.passAt takesN0 σ) (qa_cons (qix (qvar (i := 0) rfl (.inr (.inl rfl))) (qvar (i := 2) rfl (.inl rfl))) (qa_cons (qix (qvar (i := 1) rfl (.inr (.inl rfl))) (qvar (i := 2) rfl (.inl rfl))) qa_nil))))))) (fun _ _ _ _ _ => (qvar (i := 2) rfl (.inl rfl)))) (qlst qa_nil)))))) qnil) (qcons (qif (qtcmp op_isN does_isN (qvar (i := 1) rfl (.inr (.inl rfl))) qnon) (qone (qret (qcmp op_isN does_isN (qvar (i := 0) rfl (.inr (.inl rfl))) qnon))) qnil) (qcons (qif (qtval (qisi k_str rfl f_isinstance rfl f_str boot_str (qvar (i := 1) rfl (.inr (.inl rfl))))) (qone (qret (qand (qisi k_str rfl f_isinstance rfl f_str boot_str (qvar (i := 0) rfl (.inr (.inl rfl)))) (qone_ (qcmp (op_eqD hr.units) does_eq (qvar (i := 0) rfl (.inr (.inl rfl))) (qvar (i := 1) rfl (.inr (.inl rfl)))))))) qnil) (qcons (qif (QW.t (qw_or (qtval (qisi k_bool rfl f_isinstance rfl f_bool boot_bool (qvar (i := 1) rfl (.inr (.inl rfl))))) (qw_or1 (qtval (qisi k_bool rfl f_isinstance rfl f_bool boot_bool (qvar (i := 0) rfl (.inr (.inl rfl)))))))) (qone (qret (qand (qisi k_bool rfl f_isinstance rfl f_bool boot_bool (qvar (i := 1) rfl (.inr (.inl rfl)))) (qand (qisi k_bool rfl f_isinstance rfl f_bool boot_bool (qvar (i := 0) rfl (.inr (.inl rfl)))) (qone_ (qcmp (op_eqD hr.units) does_eq (qvar (i := 0) rfl (.inr (.inl rfl))) (qvar (i := 1) rfl (.inr (.inl rfl))))))))) qnil) (qone (qret (qand (qisi k_int rfl f_isinstance rfl f_int boot_int (qvar (i := 0) rfl (.inr (.inl rfl)))) (qone_ (qcmp (op_eqD hr.units) does_eq (qvar (i := 0) rfl (.inr (.inl rfl))) (qvar (i := 1) rfl (.inr (.inl rfl))))))))))))
abbrev N__law_posed : List Str := ["wide", "spot", "pose", "x", "y", "turn"]
theorem sc__law_posed : FnScope N__law_posed ["wide", "spot", "pose"] (defScope s__law_posed) := ⟨rfl, rfl, rfl, by decide +kernel, rfl, by decide +kernel, by decide +kernel⟩
theorem ok__law_posed (X0 : K.In h) (G : h.Ns mainGlobals mg) (c : He.SaysD fa fn K) : ∃ fd, FunD K "_law_posed" "_law_posed" (defArgs s__law_posed) (defBody s__law_posed) (defScope s__law_posed) [] [] (He.ga K "_law_posed") fd ∧ FnOk P w K mg base (L2N.CX P w) 1 (He.ga K "_law_posed") fd ["wide", "spot", "pose"] (spF K 3 m__law_posed) := by
  have f_range : mg "range" = none := He.free_ok X0 G (c.fact 46 rfl)
  obtain ⟨fd, F⟩ := c.def_ 23 (d := d__law_posed) rfl
  refine ⟨fd, F, fn_ok (k := 0) F sc__law_posed fun cdv A outer s H E hr B => ?_⟩
  have hp : PassesOwn (model P w) _ _ _ := passes_of (X := cxOf (L2N.CX P w) P w K mg base N__law_posed "_law_posed" (defScope s__law_posed) (He.ga K "_law_posed") cdv A outer s H E) (K := fun e s'' => L2N.CX P w outer H s E e s'') rfl
  have tk := L2N.takes_of (X := cxOf (L2N.CX P w) P w K mg base N__law_posed "_law_posed" (defScope s__law_posed) (He.ga K "_law_posed") cdv A outer s H E) (E := E) rfl rfl rfl rfl
  have nd := sc__law_posed.nd
  exact (qcons (qasg (ws := [3, 4]) (qvar (i := 1) rfl (.inl rfl)) (qgt rfl (qgscons (qgn (i := 3) nd rfl (.inl rfl) (by decide)) (qgscons (qgn (i := 4) nd rfl (.inl rfl) (by decide)) qgsnil)))) (qcons (qfor (ws := [5]) hp rfl (qir1 rfl f_range (qa_cons (qix (qvar (i := 2) rfl (.inl rfl)) qint) qa_nil)) (fun B => (qgn (i := 5) nd rfl (.inl rfl) (by decide))) (fun B => (qone (qpar2 (i := 3) (j := 4) rfl nd rfl rfl (by decide) rfl rfl (qa_cons (qop op_sub does_sub (qop op_sub does_sub (qvar (i := 0) rfl (.inl rfl)) qint) (qvar (i := 4) rfl (.inl rfl))) (qa_cons (qvar (i := 3) rfl (.inl rfl)) qa_nil)) (by rfl))))) (qone (qret (qifx (qtcmp (op_eqD hr.units) does_eq (qix (qvar (i := 2) rfl (.inl rfl)) qint) qint) (qtup (qa_cons (qvar (i := 4) rfl (.inl rfl)) (qa_cons (qvar (i := 3) rfl (.inl rfl)) qa_nil))) (qtup (qa_cons (qvar (i := 3) rfl (.inl rfl)) (qa_cons (qvar (i := 4) rfl (.inl rfl)) qa_nil))))))))
abbrev N__law_places : List Str := ["deck", "b", "found", "x", "line", "y"]
theorem sc__law_places : FnScope N__law_places ["deck", "b"] (defScope s__law_places) := ⟨rfl, rfl, rfl, by decide +kernel, rfl, by decide +kernel, by decide +kernel⟩
theorem ok__law_places (X0 : K.In h) (G : h.Ns mainGlobals mg) (c : He.SaysD fa fn K) : ∃ fd, FunD K "_law_places" "_law_places" (defArgs s__law_places) (defBody s__law_places) (defScope s__law_places) [] [] (He.ga K "_law_places") fd ∧ FnOk P w K mg base (L2N.CX P w) 2 (He.ga K "_law_places") fd ["deck", "b"] (spF K 2 m__law_places) := by
  obtain ⟨fd__law_take, F__law_take, O__law_take⟩ := ok__law_take (P := P) (w := w) (base := base) X0 G c
  have b__law_take : Binds K fd__law_take ["deck", "many"] [] := F__law_take.bindsN fun _ _ _ _ _ _ us hl => match us, hl with | [_, _], _ => rfl
  have g__law_take : mg "_law_take" = some (.ref (He.ga K "_law_take")) := He.glo_ok X0 G (c.fact 21 rfl)
  have f_int : mg "int" = none := He.free_ok X0 G (c.fact 40 rfl)
  have f_len : mg "len" = none := He.free_ok X0 G (c.fact 42 rfl)
  have f_range : mg "range" = none := He.free_ok X0 G (c.fact 46 rfl)
  obtain ⟨fd, F⟩ := c.def_ 24 (d := d__law_places) rfl
  refine ⟨fd, F, fn_ok (k := 1) F sc__law_places fun cdv A outer s H E hr B => ?_⟩
  have hp : PassesOwn (model P w) _ _ _ := passes_of (X := cxOf (L2N.CX P w) P w K mg base N__law_places "_law_places" (defScope s__law_places) (He.ga K "_law_places") cdv A outer s H E) (K := fun e s'' => L2N.CX P w outer H s E e s'') rfl
  have tk := L2N.takes_of (X := cxOf (L2N.CX P w) P w K mg base N__law_places "_law_places" (defScope s__law_places) (He.ga K "_law_places") cdv A outer s H E) (E := E) rfl rfl rfl rfl
  have nd := sc__law_places.nd
  exact (qcons (qset (i := 2) nd rfl (.inl rfl) (qlst qa_nil)) (qcons (qif (qtcmp (op_eqD hr.units) does_eq (qcall O__law_take (hr.mono (by decide)) rfl g__law_take F__law_take.kp b__law_take (fun σ => L2N.passAt tk σ) (qa_cons (qvar (i := 0) rfl (.inl rfl)) (qa_cons qint qa_nil))) qint) (qcons (qfor (ws := [3]) hp rfl (qir1 rfl f_range (qa_cons (qvar (i := 1) rfl (.inl rfl)) qa_nil)) (fun B => (qgn (i := 3) nd rfl (.inr rfl) (by decide))) (fun B => (qcons (qsetcomp (i := 4) (vs := [5]) rfl nd rfl rfl (sw_true rfl rfl rfl (by decide +kernel)) (qir1 rfl f_range (qa_cons (qvar (i := 1) rfl (.inl rfl)) qa_nil)) (blkOk_by (own := [("y", 5)]) (N := N__law_places) (sc := defScope s__law_places) (by decide +kernel)) (gok_n (by decide)) rfl (fun _ _ _ _ _ B => (qgn (i := 5) nd rfl (.inl rfl) (by decide))) (fun _ _ _ _ _ => qtsnil) (fun _ _ _ _ _ => (qtup (qa_cons (qvar (i := 3) rfl (.inr (.inl rfl))) (qa_cons (qvar (i := 5) rfl (.inl rfl)) qa_nil))))) (qone (qset (i := 2) nd rfl (.inl rfl) (qop op_add4 does_add (qvar (i := 2) rfl (.inl rfl)) (qifx (qtcmp (op_eqD hr.units) does_eq (qop op_mod does_mod (qfnT call_int1 does_int rfl f_int boot_int (qa_cons (qvar (i := 3) rfl (.inr (.inl rfl))) qa_nil)) qint) qint) (qvar (i := 4) rfl (.inl rfl)) (qrev (qvar (i := 4) rfl (.inl rfl)))))))))) (qone (qret (qvar (i := 2) rfl (.inl rfl))))) qnil) (qcons (qfor (ws := [3]) hp rfl (qir1 rfl f_range (qa_cons (qvar (i := 1) rfl (.inl rfl)) qa_nil)) (fun B => (qgn (i := 3) nd rfl (.inr rfl) (by decide))) (fun B => (qone (qfor (ws := [5]) hp rfl (qir1 rfl f_range (qa_cons (qvar (i := 1) rfl (.inl rfl)) qa_nil)) (fun B => (qgn (i := 5) nd rfl (.inl rfl) (by decide))) (fun B => (qone (qexpr (qmeth (i := 2) PySem.F.slot_list_insert PySem.F.type_list_insert mt_insert does_insert rfl (.inl rfl) (qa_cons (qcall O__law_take (hr.mono (by decide)) rfl g__law_take F__law_take.kp b__law_take (fun σ => L2N.passAt tk σ) (qa_cons (qvar (i := 0) rfl (.inl rfl)) (qa_cons (qop op_add4 does_add (qfnB call_len_seq does_len rfl f_len boot_len (qa_cons (qvar (i := 2) rfl (.inl rfl)) qa_nil)) qint) qa_nil))) (qa_cons (qtup (qa_cons (qvar (i := 3) rfl (.inr (.inl rfl))) (qa_cons (qvar (i := 5) rfl (.inl rfl)) qa_nil))) qa_nil)))))))))) (qone (qret (qvar (i := 2) rfl (.inl rfl)))))))
abbrev N__law_all_poses : List Str := ["found", "way"]
theorem sc__law_all_poses : FnScope N__law_all_poses [] (defScope s__law_all_poses) := ⟨rfl, rfl, rfl, by decide +kernel, rfl, by decide +kernel, by decide +kernel⟩
theorem ok__law_all_poses (X0 : K.In h) (G : h.Ns mainGlobals mg) (c : He.SaysD fa fn K) : ∃ fd, FunD K "_law_all_poses" "_law_all_poses" (defArgs s__law_all_poses) (defBody s__law_all_poses) (defScope s__law_all_poses) [] [] (He.ga K "_law_all_poses") fd ∧ FnOk P w K mg base (L2N.CX P w) 1 (He.ga K "_law_all_poses") fd [] (spF K 0 m__law_all_poses) := by
  have f_range : mg "range" = none := He.free_ok X0 G (c.fact 46 rfl)
  obtain ⟨fd, F⟩ := c.def_ 25 (d := d__law_all_poses) rfl
  refine ⟨fd, F, fn_ok (k := 0) F sc__law_all_poses fun cdv A outer s H E hr B => ?_⟩
  have hp : PassesOwn (model P w) _ _ _ := passes_of (X := cxOf (L2N.CX P w) P w K mg base N__law_all_poses "_law_all_poses" (defScope s__law_all_poses) (He.ga K "_law_all_poses") cdv A outer s H E) (K := fun e s'' => L2N.CX P w outer H s E e s'') rfl
  have tk := L2N.takes_of (X := cxOf (L2N.CX P w) P w K mg base N__law_all_poses "_law_all_poses" (defScope s__law_all_poses) (He.ga K "_law_all_poses") cdv A outer s H E) (E := E) rfl rfl rfl rfl
  have nd := sc__law_all_poses.nd
  exact (qcons (qset (i := 0) nd rfl (.inl rfl) (qlst qa_nil)) (qcons (qfor (ws := [1]) hp rfl (qir1 rfl f_range (qa_cons qint qa_nil)) (fun B => (qgn (i := 1) nd rfl (.inl rfl) (by decide))) (fun B => (qone (qset (i := 0) nd rfl (.inl rfl) (qop op_add4 does_add (qvar (i := 0) rfl (.inl rfl)) (qlst (qa_cons (qtup (qa_cons (qvar (i := 1) rfl (.inl rfl)) (qa_cons qint qa_nil))) (qa_cons (qtup (qa_cons (qvar (i := 1) rfl (.inl rfl)) (qa_cons qint qa_nil))) qa_nil)))))))) (qone (qret (qvar (i := 0) rfl (.inl rfl))))))
abbrev N__law_behind : List Str := ["pose", "other", "marks", "told_pose", "spot"]
theorem sc__law_behind : FnScope N__law_behind ["pose", "other"] (defScope s__law_behind) := ⟨rfl, rfl, rfl, by decide +kernel, rfl, by decide +kernel, by decide +kernel⟩
theorem ok__law_behind (X0 : K.In h) (G : h.Ns mainGlobals mg) (c : He.SaysD fa fn K) : ∃ fd, FunD K "_law_behind" "_law_behind" (defArgs s__law_behind) (defBody s__law_behind) (defScope s__law_behind) [] [] (He.ga K "_law_behind") fd ∧ FnOk P w K mg base (L2N.CX P w) 2 (He.ga K "_law_behind") fd ["pose", "other"] (spF K 2 m__law_behind) := by
  obtain ⟨fd__law_all_poses, F__law_all_poses, O__law_all_poses⟩ := ok__law_all_poses (P := P) (w := w) (base := base) X0 G c
  have b__law_all_poses : Binds K fd__law_all_poses [] [] := F__law_all_poses.bindsN fun _ _ _ _ _ _ us hl => match us, hl with | [], _ => rfl
  have g__law_all_poses : mg "_law_all_poses" = some (.ref (He.ga K "_law_all_poses")) := He.glo_ok X0 G (c.fact 25 rfl)
  obtain ⟨fd__law_posed, F__law_posed, O__law_posed⟩ := ok__law_posed (P := P) (w := w) (base := base) X0 G c
  have b__law_posed : Binds K fd__law_posed ["wide", "spot", "pose"] [] := F__law_posed.bindsN fun _ _ _ _ _ _ us hl => match us, hl with | [_, _, _], _ => rfl
  have g__law_posed : mg "_law_posed" = some (.ref (He.ga K "_law_posed")) := He.glo_ok X0 G (c.fact 23 rfl)
  obtain ⟨fd, F⟩ := c.def_ 26 (d := d__law_behind) rfl
  refine ⟨fd, F, fn_ok (k := 1) F sc__law_behind fun cdv A outer s H E hr B => ?_⟩
  have hp : PassesOwn (model P w) _ _ _ := passes_of (X := cxOf (L2N.CX P w) P w K mg base N__law_behind "_law_behind" (defScope s__law_behind) (He.ga K "_law_behind") cdv A outer s H E) (K := fun e s'' => L2N.CX P w outer H s E e s'') rfl
  have tk := L2N.takes_of (X := cxOf (L2N.CX P w) P w K mg base N__law_behind "_law_behind" (defScope s__law_behind) (He.ga K "_law_behind") cdv A outer s H E) (E := E) rfl rfl rfl rfl
  have nd := sc__law_behind.nd
  exact (qcons (qsetcomp (i := 2) (vs := [4]) rfl nd rfl rfl (sw_true rfl rfl rfl (by decide +kernel)) (qiof (qlst (qa_cons (qtup (qa_cons qint (qa_cons qint qa_nil))) (qa_cons (qtup (qa_cons qint (qa_cons qint qa_nil))) (qa_cons (qtup (qa_cons qint (qa_cons qint qa_nil))) qa_nil))))) (blkOk_by (own := [("spot", 4)]) (N := N__law_behind) (sc := defScope s__law_behind) (by decide +kernel)) (gok_n (by decide)) rfl (fun _ _ _ _ _ B => (qgn (i := 4) nd rfl (.inl rfl) (by decide))) (fun _ _ _ _ _ => qtsnil) (fun _ _ _ _ _ => (qcall O__law_posed (hr.mono (by decide)) rfl g__law_posed F__law_posed.kp b__law_posed (fun σ => L2N.passAt takesN0 σ) (qa_cons qint (qa_cons (qcall O__law_posed (hr.mono (by decide)) rfl g__law_posed F__law_posed.kp b__law_posed (fun σ => L2N.passAt takesN0 σ) (qa_cons qint (qa_cons (qvar (i := 4) rfl (.inl rfl)) (qa_cons (qvar (i := 1) rfl (.inr (.inl rfl))) qa_nil)))) (qa_cons (qvar (i := 0) rfl (.inr (.inl rfl))) qa_nil)))))) (qcons (qfor (ws := [3]) hp rfl (qiof (qcall0 O__law_all_poses (hr.mono (by decide)) rfl g__law_all_poses F__law_all_poses.kp b__law_all_poses (fun σ => L2N.passAt tk σ))) (fun B => (qgn (i := 3) nd rfl (.inr rfl) (by decide))) (fun B => (qone (qif (qtcmp (op_eqD hr.units) does_eq (qcomp (vs := [4]) rfl nd (qiof (qlst (qa_cons (qtup (qa_cons qint (qa_cons qint qa_nil))) (qa_cons (qtup (qa_cons qint (qa_cons qint qa_nil))) (qa_cons (qtup (qa_cons qint (qa_cons qint qa_nil))) qa_nil))))) (blkOk_by (own := [("spot", 4)]) (N := N__law_behind) (sc := defScope s__law_behind) (by decide +kernel)) (gok_n (by decide)) rfl (fun _ _ _ _ _ B => (qgn (i := 4) nd rfl (.inl rfl) (by decide))) (fun _ _ _ _ _ => qtsnil) (fun _ _ _ _ _ => (qcall O__law_posed (hr.mono (by decide)) rfl g__law_posed F__law_posed.kp b__law_posed (fun σ => L2N.passAt takesN0 σ) (qa_cons qint (qa_cons (qvar (i := 4) rfl (.inl rfl)) (qa_cons (qvar (i := 3) rfl (.inr (.inl rfl))) qa_nil)))))) (qvar (i := 2) rfl (.inl rfl))) (qone (qret (qvar (i := 3) rfl (.inr (.inl rfl))))) qnil)))) (qone (qret (qtup (qa_cons qint (qa_cons qint qa_nil)))))))
abbrev N__law_posed_page : List Str := ["deck", "b", "poses", "places", "makes", "kinds", "pose", "parts", "place", "make"]
theorem sc__law_posed_page : FnScope N__law_posed_page ["deck", "b"] (defScope s__law_posed_page) := ⟨rfl, rfl, rfl, by decide +kernel, rfl, by decide +kernel, by decide +kernel⟩
theorem ok__law_posed_page (X0 : K.In h) (G : h.Ns mainGlobals mg) (c : He.SaysD fa fn K) : ∃ fd, FunD K "_law_posed_page" "_law_posed_page" (defArgs s__law_posed_page) (defBody s__law_posed_page) (defScope s__law_posed_page) [] [] (He.ga K "_law_posed_page") fd ∧ FnOk P w K mg base (L2N.CX P w) 3 (He.ga K "_law_posed_page") fd ["deck", "b"] (spF K 2 m__law_posed_page) := by
  obtain ⟨fd__law_all_poses, F__law_all_poses, O__law_all_poses⟩ := ok__law_all_poses (P := P) (w := w) (base := base) X0 G c
  have b__law_all_poses : Binds K fd__law_all_poses [] [] := F__law_all_poses.bindsN fun _ _ _ _ _ _ us hl => match us, hl with | [], _ => rfl
  have g__law_all_poses : mg "_law_all_poses" = some (.ref (He.ga K "_law_all_poses")) := He.glo_ok X0 G (c.fact 25 rfl)
  obtain ⟨fd__law_places, F__law_places, O__law_places⟩ := ok__law_places (P := P) (w := w) (base := base) X0 G c
  have b__law_places : Binds K fd__law_places ["deck", "b"] [] := F__law_places.bindsN fun _ _ _ _ _ _ us hl => match us, hl with | [_, _], _ => rfl
  have g__law_places : mg "_law_places" = some (.ref (He.ga K "_law_places")) := He.glo_ok X0 G (c.fact 24 rfl)
  obtain ⟨fd__law_take, F__law_take, O__law_take⟩ := ok__law_take (P := P) (w := w) (base := base) X0 G c
  have b__law_take : Binds K fd__law_take ["deck", "many"] [] := F__law_take.bindsN fun _ _ _ _ _ _ us hl => match us, hl with | [_, _], _ => rfl
  have g__law_take : mg "_law_take" = some (.ref (He.ga K "_law_take")) := He.glo_ok X0 G (c.fact 21 rfl)
  obtain ⟨fd__law_posed, F__law_posed, O__law_posed⟩ := ok__law_posed (P := P) (w := w) (base := base) X0 G c
  have b__law_posed : Binds K fd__law_posed ["wide", "spot", "pose"] [] := F__law_posed.bindsN fun _ _ _ _ _ _ us hl => match us, hl with | [_, _, _], _ => rfl
  have g__law_posed : mg "_law_posed" = some (.ref (He.ga K "_law_posed")) := He.glo_ok X0 G (c.fact 23 rfl)
  obtain ⟨fd__law_behind, F__law_behind, O__law_behind⟩ := ok__law_behind (P := P) (w := w) (base := base) X0 G c
  have b__law_behind : Binds K fd__law_behind ["pose", "other"] [] := F__law_behind.bindsN fun _ _ _ _ _ _ us hl => match us, hl with | [_, _], _ => rfl
  have g__law_behind : mg "_law_behind" = some (.ref (He.ga K "_law_behind")) := He.glo_ok X0 G (c.fact 26 rfl)
  have f_tuple : mg "tuple" = none := He.free_ok X0 G (c.fact 49 rfl)
  have f_zip : mg "zip" = none := He.free_ok X0 G (c.fact 50 rfl)
  obtain ⟨fd, F⟩ := c.def_ 27 (d := d__law_posed_page) rfl
  refine ⟨fd, F, fn_ok (k := 2) F sc__law_posed_page fun cdv A outer s H E hr B => ?_⟩
  have hp : PassesOwn (model P w) _ _ _ := passes_of (X := cxOf (L2N.CX P w) P w K mg base N__law_posed_page "_law_posed_page" (defScope s__law_posed_page) (He.ga K "_law_posed_page") cdv A outer s H E) (K := fun e s'' => L2N.CX P w outer H s E e s'') rfl
  have tk := L2N.takes_of (X := cxOf (L2N.CX P w) P w K mg base N__law_posed_page "_law_posed_page" (defScope s__law_posed_page) (He.ga K "_law_posed_page") cdv A outer s H E) (E := E) rfl rfl rfl rfl
  have nd := sc__law_posed_page.nd
  exact (qcons (qparT (is := [2, 3]) (gs := gsNames [2, 3]) rfl (qa_cons (qcall0 O__law_all_poses (hr.mono (by decide)) rfl g__law_all_poses F__law_all_poses.kp b__law_all_poses (fun σ => L2N.passAt tk σ)) (qa_cons (qcall O__law_places (hr.mono (by decide)) rfl g__law_places F__law_places.kp b__law_places (fun σ => L2N.passAt tk σ) (qa_cons (qvar (i := 0) rfl (.inr (.inl rfl))) (qa_cons (qvar (i := 1) rfl (.inl rfl)) qa_nil))) qa_nil)) (pgs_cons (pg_name (i := 2) nd rfl (.inr rfl)) (pgs_cons (pg_name (i := 3) nd rfl (.inl rfl)) pgs_nil)) (gsNames_ok [2, 3]) (by decide)) (qcons (qsetcomp (i := 4) (vs := [8]) rfl nd rfl rfl (sw_true rfl rfl rfl (by decide +kernel)) (qiof (qvar (i := 3) rfl (.inl rfl))) (blkOk_by (own := [("place", 8)]) (N := N__law_posed_page) (sc := defScope s__law_posed_page) (by decide +kernel)) (gok_n (by decide)) rfl (fun _ _ _ _ _ B => (qgn (i := 8) nd rfl (.inl rfl) (by decide))) (fun _ _ _ _ _ => qtsnil) (fun _ _ _ _ _ => (qix (qvar (i := 2) rfl (.inr (.inl rfl))) (qcall O__law_take (hr.mono (by decide)) rfl g__law_take F__law_take.kp b__law_take (fun σ => L2N.passAt takesN0 σ) (qa_cons (qvar (i := 0) rfl (.inr (.inl rfl))) (qa_cons qint qa_nil)))))) (qcons (qset (i := 5) nd rfl (.inl rfl) (qlst qa_nil)) (qcons (qfor (ws := [6]) hp rfl (qiof (qvar (i := 2) rfl (.inr (.inl rfl)))) (fun B => (qgn (i := 6) nd rfl (.inl rfl) (by decide))) (fun B => (qcons (qset (i := 7) nd rfl (.inl rfl) (qlst qa_nil)) (qcons (qfor (ws := [8, 9]) hp rfl (qizip rfl f_zip (qa_cons (qvar (i := 3) rfl (.inl rfl)) (qa_cons (qvar (i := 4) rfl (.inl rfl)) qa_nil))) (fun B => (qgt rfl (qgscons (qgn (i := 8) nd rfl (.inl rfl) (by decide)) (qgscons (qgn (i := 9) nd rfl (.inl rfl) (by decide)) qgsnil)))) (fun B => (qone (qexpr (qmeth (i := 7) PySem.F.slot_list_append PySem.F.type_list_append mt_append does_append rfl (.inl rfl) (qa_cons (qop op_add4 does_add (qcall O__law_posed (hr.mono (by decide)) rfl g__law_posed F__law_posed.kp b__law_posed (fun σ => L2N.passAt tk σ) (qa_cons (qvar (i := 1) rfl (.inl rfl)) (qa_cons (qvar (i := 8) rfl (.inl rfl)) (qa_cons (qvar (i := 6) rfl (.inl rfl)) qa_nil)))) (qtup (qa_cons (qindex (room65 hr) (qvar (i := 2) rfl (.inr (.inl rfl))) (qa_cons (qcall O__law_behind (hr.mono (by decide)) rfl g__law_behind F__law_behind.kp b__law_behind (fun σ => L2N.passAt tk σ) (qa_cons (qvar (i := 6) rfl (.inl rfl)) (qa_cons (qvar (i := 9) rfl (.inl rfl)) qa_nil))) qa_nil)) qa_nil))) qa_nil)))))) (qone (qexpr (qmeth (i := 5) PySem.F.slot_list_append PySem.F.type_list_append mt_append does_append rfl (.inl rfl) (qa_cons (qfnT call_tuple_of does_tuple rfl f_tuple boot_tuple (qa_cons (qvar (i := 7) rfl (.inl rfl)) qa_nil)) qa_nil)))))))) (qone (qret (qtup (qa_cons (qvar (i := 1) rfl (.inl rfl)) (qa_cons (qfnT call_tuple_of does_tuple rfl f_tuple boot_tuple (qa_cons (qvar (i := 5) rfl (.inl rfl)) qa_nil)) qa_nil)))))))))
abbrev N__law_page : List Str := ["deck", "b", "way", "many", "lines", "kinds", "at", "line", "turn", "x", "y"]
theorem sc__law_page : FnScope N__law_page ["deck"] (defScope s__law_page) := ⟨rfl, rfl, rfl, by decide +kernel, rfl, by decide +kernel, by decide +kernel⟩
theorem ok__law_page (X0 : K.In h) (G : h.Ns mainGlobals mg) (c : He.SaysD fa fn K) : ∃ fd, FunD K "_law_page" "_law_page" (defArgs s__law_page) (defBody s__law_page) (defScope s__law_page) [] [] (He.ga K "_law_page") fd ∧ FnOk P w K mg base (L2N.CX P w) 4 (He.ga K "_law_page") fd ["deck"] (spF K 1 m__law_page) := by
  obtain ⟨fd__law_take, F__law_take, O__law_take⟩ := ok__law_take (P := P) (w := w) (base := base) X0 G c
  have b__law_take : Binds K fd__law_take ["deck", "many"] [] := F__law_take.bindsN fun _ _ _ _ _ _ us hl => match us, hl with | [_, _], _ => rfl
  have g__law_take : mg "_law_take" = some (.ref (He.ga K "_law_take")) := He.glo_ok X0 G (c.fact 21 rfl)
  obtain ⟨fd__law_posed_page, F__law_posed_page, O__law_posed_page⟩ := ok__law_posed_page (P := P) (w := w) (base := base) X0 G c
  have b__law_posed_page : Binds K fd__law_posed_page ["deck", "b"] [] := F__law_posed_page.bindsN fun _ _ _ _ _ _ us hl => match us, hl with | [_, _], _ => rfl
  have g__law_posed_page : mg "_law_posed_page" = some (.ref (He.ga K "_law_posed_page")) := He.glo_ok X0 G (c.fact 27 rfl)
  obtain ⟨fd__law_places, F__law_places, O__law_places⟩ := ok__law_places (P := P) (w := w) (base := base) X0 G c
  have b__law_places : Binds K fd__law_places ["deck", "b"] [] := F__law_places.bindsN fun _ _ _ _ _ _ us hl => match us, hl with | [_, _], _ => rfl
  have g__law_places : mg "_law_places" = some (.ref (He.ga K "_law_places")) := He.glo_ok X0 G (c.fact 24 rfl)
  have f_int : mg "int" = none := He.free_ok X0 G (c.fact 40 rfl)
  have f_len : mg "len" = none := He.free_ok X0 G (c.fact 42 rfl)
  have f_range : mg "range" = none := He.free_ok X0 G (c.fact 46 rfl)
  have f_tuple : mg "tuple" = none := He.free_ok X0 G (c.fact 49 rfl)
  obtain ⟨fd, F⟩ := c.def_ 28 (d := d__law_page) rfl
  refine ⟨fd, F, fn_ok (k := 3) F sc__law_page fun cdv A outer s H E hr B => ?_⟩
  have hp : PassesOwn (model P w) _ _ _ := passes_of (X := cxOf (L2N.CX P w) P w K mg base N__law_page "_law_page" (defScope s__law_page) (He.ga K "_law_page") cdv A outer s H E) (K := fun e s'' => L2N.CX P w outer H s E e s'') rfl
  have tk := L2N.takes_of (X := cxOf (L2N.CX P w) P w K mg base N__law_page "_law_page" (defScope s__law_page) (He.ga K "_law_page") cdv A outer s H E) (E := E) rfl rfl rfl rfl
  have nd := sc__law_page.nd
  exact (qcons (qparT (is := [1, 2, 3]) (gs := gsNames [1, 2, 3]) rfl (qa_cons (qop op_add4 does_add qint (qfnT call_int1 does_int rfl f_int boot_int (qa_cons (qcmp (op_eqD hr.units) does_eq (qcall O__law_take (hr.mono (by decide)) rfl g__law_take F__law_take.kp b__law_take (fun σ => L2N.passAt tk σ) (qa_cons (qvar (i := 0) rfl (.inr (.inl rfl))) (qa_cons qint qa_nil))) qint) qa_nil))) (qa_cons (qcall O__law_take (hr.mono (by decide)) rfl g__law_take F__law_take.kp b__law_take (fun σ => L2N.passAt tk σ) (qa_cons (qvar (i := 0) rfl (.inr (.inl rfl))) (qa_cons qint qa_nil))) (qa_cons (qop op_add4 does_add qint (qcall O__law_take (hr.mono (by decide)) rfl g__law_take F__law_take.kp b__law_take (fun σ => L2N.passAt tk σ) (qa_cons (qvar (i := 0) rfl (.inr (.inl rfl))) (qa_cons qint qa_nil)))) qa_nil))) (pgs_cons (pg_name (i := 1) nd rfl (.inr rfl)) (pgs_cons (pg_name (i := 2) nd rfl (.inl rfl)) (pgs_cons (pg_name (i := 3) nd rfl (.inr rfl)) pgs_nil))) (gsNames_ok [1, 2, 3]) (by decide)) (qcons (qif (qtcmp (op_eqD hr.units) does_eq (qvar (i := 2) rfl (.inl rfl)) qint) (qone (qret (qcall O__law_posed_page (hr.mono (by decide)) rfl g__law_posed_page F__law_posed_page.kp b__law_posed_page (fun σ => L2N.passAt tk σ) (qa_cons (qvar (i := 0) rfl (.inr (.inl rfl))) (qa_cons (qvar (i := 1) rfl (.inr (.inl rfl))) qa_nil))))) qnil) (qcons (qpar2 (i := 4) (j := 5) rfl nd rfl rfl (by decide) rfl rfl (qa_cons (qcomp (vs := [8]) rfl nd (qir1 rfl f_range (qa_cons (qix (qlst (qa_cons (qvar (i := 3) rfl (.inr (.inl rfl))) (qa_cons qint (qa_cons qint (qa_cons (qvar (i := 3) rfl (.inr (.inl rfl))) qa_nil))))) (qop op_sub does_sub (qvar (i := 2) rfl (.inl rfl)) qint)) qa_nil)) (blkOk_by (own := [("turn", 8)]) (N := N__law_page) (sc := defScope s__law_page) (by decide +kernel)) (gok_n (by decide)) rfl (fun _ _ _ _ _ B => (qgn (i := 8) nd rfl (.inl rfl) (by decide))) (fun _ _ _ _ _ => qtsnil) (fun _ _ _ _ _ => (qcall O__law_places (hr.mono (by decide)) rfl g__law_places F__law_places.kp b__law_places (fun σ => L2N.passAt takesN0 σ) (qa_cons (qvar (i := 0) rfl (.inr (.inl rfl))) (qa_cons (qvar (i := 1) rfl (.inr (.inl rfl))) qa_nil))))) (qa_cons (qlst qa_nil) qa_nil)) (by rfl)) (qcons (qfor (ws := [6]) hp rfl (qir1 rfl f_range (qa_cons (qvar (i := 3) rfl (.inr (.inl rfl))) qa_nil)) (fun B => (qgn (i := 6) nd rfl (.inl rfl) (by decide))) (fun B => (qcons (qset (i := 7) nd rfl (.inl rfl) (qifx (qtcmp op_lt does_lt (qvar (i := 2) rfl (.inl rfl)) qint) (qix (qvar (i := 4) rfl (.inl rfl)) (qcall O__law_take (hr.mono (by decide)) rfl g__law_take F__law_take.kp b__law_take (fun σ => L2N.passAt tk σ) (qa_cons (qvar (i := 0) rfl (.inr (.inl rfl))) (qa_cons (qfnB call_len_seq does_len rfl f_len boot_len (qa_cons (qvar (i := 4) rfl (.inl rfl)) qa_nil)) qa_nil)))) (qix (qvar (i := 4) rfl (.inl rfl)) (qop op_fdivW does_div (qvar (i := 6) rfl (.inl rfl)) qint)))) (qone (qexpr (qmeth (i := 5) PySem.F.slot_list_append PySem.F.type_list_append mt_append does_append rfl (.inl rfl) (qa_cons (qfnT call_tuple_of does_tuple rfl f_tuple boot_tuple (qa_cons (qcomp (vs := [9, 10]) rfl nd (qiof (qvar (i := 7) rfl (.inl rfl))) (blkOk_by (own := [("x", 9), ("y", 10)]) (N := N__law_page) (sc := defScope s__law_page) (by decide +kernel)) (gok_t (gsok_cons (gok_n (by decide)) (gsok_cons (gok_n (by decide)) gsok_nil))) rfl (fun _ _ _ _ _ B => (qgt rfl (qgscons (qgn (i := 9) nd rfl (.inl rfl) (by decide)) (qgscons (qgn (i := 10) nd rfl (.inl rfl) (by decide)) qgsnil)))) (fun _ _ _ _ _ => qtsnil) (fun _ _ _ _ _ => (qtup (qa_cons (qvar (i := 9) rfl (.inl rfl)) (qa_cons (qvar (i := 10) rfl (.inl rfl)) (qa_cons (qcall O__law_take (hr.mono (by decide)) rfl g__law_take F__law_take.kp b__law_take (fun σ => L2N.passAt takesN0 σ) (qa_cons (qvar (i := 0) rfl (.inr (.inl rfl))) (qa_cons (qvar (i := 3) rfl (.inr (.inl rfl))) qa_nil))) qa_nil)))))) qa_nil)) qa_nil))))))) (qone (qret (qtup (qa_cons (qvar (i := 1) rfl (.inr (.inl rfl))) (qa_cons (qfnT call_tuple_of does_tuple rfl f_tuple boot_tuple (qa_cons (qvar (i := 5) rfl (.inl rfl)) qa_nil)) qa_nil)))))))))
abbrev N__law_threads : List Str := ["page", "deep", "b", "kinds", "wide", "lines", "turn", "longer", "parts", "line", "x", "y", "sort", "left", "low"]
theorem sc__law_threads : FnScope N__law_threads ["page", "deep"] (defScope s__law_threads) := ⟨rfl, rfl, rfl, by decide +kernel, rfl, by decide +kernel, by decide +kernel⟩
theorem ok__law_threads (X0 : K.In h) (G : h.Ns mainGlobals mg) (c : He.SaysD fa fn K) : ∃ fd, FunD K "_law_threads" "_law_threads" (defArgs s__law_threads) (defBody s__law_threads) (defScope s__law_threads) [] [] (He.ga K "_law_threads") fd ∧ FnOk P w K mg base (L2N.CX P w) 1 (He.ga K "_law_threads") fd ["page", "deep"] (spF K 2 m__law_threads) := by
  have f_range : mg "range" = none := He.free_ok X0 G (c.fact 46 rfl)
  obtain ⟨fd, F⟩ := c.def_ 29 (d := d__law_threads) rfl
  refine ⟨fd, F, fn_ok (k := 0) F sc__law_threads fun cdv A outer s H E hr B => ?_⟩
  have hp : PassesOwn (model P w) _ _ _ := passes_of (X := cxOf (L2N.CX P w) P w K mg base N__law_threads "_law_threads" (defScope s__law_threads) (He.ga K "_law_threads") cdv A outer s H E) (K := fun e s'' => L2N.CX P w outer H s E e s'') rfl
  have tk := L2N.takes_of (X := cxOf (L2N.CX P w) P w K mg base N__law_threads "_law_threads" (defScope s__law_threads) (He.ga K "_law_threads") cdv A outer s H E) (E := E) rfl rfl rfl rfl
  have nd := sc__law_threads.nd
  exact (qcons (qasg (ws := [2, 3]) (qvar (i := 0) rfl (.inl rfl)) (qgt rfl (qgscons (qgn (i := 2) nd rfl (.inl rfl) (by decide)) (qgscons (qgn (i := 3) nd rfl (.inl rfl) (by decide)) qgsnil)))) (qcons (qparT (is := [4, 5]) (gs := gsNames [4, 5]) rfl (qa_cons qint (qa_cons (qcomp (vs := [8]) rfl nd (qiof (qvar (i := 3) rfl (.inl rfl))) (blkOk_by (own := [("parts", 8)]) (N := N__law_threads) (sc := defScope s__law_threads) (by decide +kernel)) (gok_n (by decide)) rfl (fun _ _ _ _ _ B => (qgn (i := 8) nd rfl (.inl rfl) (by decide))) (fun _ _ _ _ _ => qtsnil) (fun _ _ _ _ _ => (qlst (qa_cons (qtup (qa_cons qint (qa_cons qint qa_nil))) qa_nil)))) qa_nil)) (pgs_cons (pg_name (i := 4) nd rfl (.inr rfl)) (pgs_cons (pg_name (i := 5) nd rfl (.inl rfl)) pgs_nil)) (gsNames_ok [4, 5]) (by decide)) (qcons (qfor (ws := [6]) hp rfl (qir1 rfl f_range (qa_cons (qvar (i := 1) rfl (.inl rfl)) qa_nil)) (fun B => (qgn (i := 6) nd rfl (.inl rfl) (by decide))) (fun B => (qcons (qset (i := 7) nd rfl (.inl rfl) (qlst qa_nil)) (qcons (qfor (ws := [8]) hp rfl (qiof (qvar (i := 3) rfl (.inl rfl))) (fun B => (qgn (i := 8) nd rfl (.inl rfl) (by decide))) (fun B => (qcons (qset (i := 9) nd rfl (.inl rfl) (qlst qa_nil)) (qcons (qfor (ws := [10, 11, 12]) hp rfl (qiof (qvar (i := 8) rfl (.inl rfl))) (fun B => (qgt rfl (qgscons (qgn (i := 10) nd rfl (.inr rfl) (by decide)) (qgscons (qgn (i := 11) nd rfl (.inr rfl) (by decide)) (qgscons (qgn (i := 12) nd rfl (.inl rfl) (by decide)) qgsnil))))) (fun B => (qone (qset (i := 9) nd rfl (.inl rfl) (qop op_add4 does_add (qvar (i := 9) rfl (.inl rfl)) (qcomp (vs := [13, 14]) rfl nd (qiof (qix (qvar (i := 5) rfl (.inl rfl)) (qvar (i := 12) rfl (.inl rfl)))) (blkOk_by (own := [("left", 13), ("low", 14)]) (N := N__law_threads) (sc := defScope s__law_threads) (by decide +kernel)) (gok_t (gsok_cons (gok_n (by decide)) (gsok_cons (gok_n (by decide)) gsok_nil))) rfl (fun _ _ _ _ _ B => (qgt rfl (qgscons (qgn (i := 13) nd rfl (.inl rfl) (by decide)) (qgscons (qgn (i := 14) nd rfl (.inl rfl) (by decide)) qgsnil)))) (fun _ _ _ _ _ => qtsnil) (fun _ _ _ _ _ => (qtup (qa_cons (qop op_add4 does_add (qop op_mulW does_mul (qvar (i := 10) rfl (.inr (.inl rfl))) (qvar (i := 4) rfl (.inr (.inl rfl)))) (qvar (i := 13) rfl (.inl rfl))) (qa_cons (qop op_add4 does_add (qop op_mulW does_mul (qvar (i := 11) rfl (.inr (.inl rfl))) (qvar (i := 4) rfl (.inr (.inl rfl)))) (qvar (i := 14) rfl (.inl rfl))) qa_nil)))))))))) (qone (qexpr (qmeth (i := 7) PySem.F.slot_list_append PySem.F.type_list_append mt_append does_append rfl (.inl rfl) (qa_cons (qvar (i := 9) rfl (.inl rfl)) qa_nil)))))))) (qone (qparT (is := [4, 5]) (gs := gsNames [4, 5]) rfl (qa_cons (qop op_mulW does_mul (qvar (i := 4) rfl (.inr (.inl rfl))) (qvar (i := 2) rfl (.inl rfl))) (qa_cons (qvar (i := 7) rfl (.inl rfl)) qa_nil)) (pgs_cons (pg_name (i := 4) nd rfl (.inr rfl)) (pgs_cons (pg_name (i := 5) nd rfl (.inl rfl)) pgs_nil)) (gsNames_ok [4, 5]) (by decide))))))) (qone (qret (qvar (i := 5) rfl (.inl rfl)))))))
abbrev N__law_turned : List Str := ["page", "pose", "b", "kinds", "found", "parts", "x", "y", "sort"]
theorem sc__law_turned : FnScope N__law_turned ["page", "pose"] (defScope s__law_turned) := ⟨rfl, rfl, rfl, by decide +kernel, rfl, by decide +kernel, by decide +kernel⟩
theorem ok__law_turned (X0 : K.In h) (G : h.Ns mainGlobals mg) (c : He.SaysD fa fn K) : ∃ fd, FunD K "_law_turned" "_law_turned" (defArgs s__law_turned) (defBody s__law_turned) (defScope s__law_turned) [] [] (He.ga K "_law_turned") fd ∧ FnOk P w K mg base (L2N.CX P w) 2 (He.ga K "_law_turned") fd ["page", "pose"] (spF K 2 m__law_turned) := by
  obtain ⟨fd__law_posed, F__law_posed, O__law_posed⟩ := ok__law_posed (P := P) (w := w) (base := base) X0 G c
  have b__law_posed : Binds K fd__law_posed ["wide", "spot", "pose"] [] := F__law_posed.bindsN fun _ _ _ _ _ _ us hl => match us, hl with | [_, _, _], _ => rfl
  have g__law_posed : mg "_law_posed" = some (.ref (He.ga K "_law_posed")) := He.glo_ok X0 G (c.fact 23 rfl)
  have f_tuple : mg "tuple" = none := He.free_ok X0 G (c.fact 49 rfl)
  obtain ⟨fd, F⟩ := c.def_ 30 (d := d__law_turned) rfl
  refine ⟨fd, F, fn_ok (k := 1) F sc__law_turned fun cdv A outer s H E hr B => ?_⟩
  have hp : PassesOwn (model P w) _ _ _ := passes_of (X := cxOf (L2N.CX P w) P w K mg base N__law_turned "_law_turned" (defScope s__law_turned) (He.ga K "_law_turned") cdv A outer s H E) (K := fun e s'' => L2N.CX P w outer H s E e s'') rfl
  have tk := L2N.takes_of (X := cxOf (L2N.CX P w) P w K mg base N__law_turned "_law_turned" (defScope s__law_turned) (He.ga K "_law_turned") cdv A outer s H E) (E := E) rfl rfl rfl rfl
  have nd := sc__law_turned.nd
  exact (qcons (qasg (ws := [2, 3]) (qvar (i := 0) rfl (.inl rfl)) (qgt rfl (qgscons (qgn (i := 2) nd rfl (.inr rfl) (by decide)) (qgscons (qgn (i := 3) nd rfl (.inl rfl) (by decide)) qgsnil)))) (qcons (qset (i := 4) nd rfl (.inl rfl) (qlst qa_nil)) (qcons (qfor (ws := [5]) hp rfl (qiof (qvar (i := 3) rfl (.inl rfl))) (fun B => (qgn (i := 5) nd rfl (.inl rfl) (by decide))) (fun B => (qone (qexpr (qmeth (i := 4) PySem.F.slot_list_append PySem.F.type_list_append mt_append does_append rfl (.inl rfl) (qa_cons (qfnT call_tuple_of does_tuple rfl f_tuple boot_tuple (qa_cons (qcomp (vs := [6, 7, 8]) rfl nd (qiof (qvar (i := 5) rfl (.inl rfl))) (blkOk_by (own := [("x", 6), ("y", 7), ("sort", 8)]) (N := N__law_turned) (sc := defScope s__law_turned) (by decide +kernel)) (gok_t (gsok_cons (gok_n (by decide)) (gsok_cons (gok_n (by decide)) (gsok_cons (gok_n (by decide)) gsok_nil)))) rfl (fun _ _ _ _ _ B => (qgt rfl (qgscons (qgn (i := 6) nd rfl (.inl rfl) (by decide)) (qgscons (qgn (i := 7) nd rfl (.inl rfl) (by decide)) (qgscons (qgn (i := 8) nd rfl (.inl rfl) (by decide)) qgsnil))))) (fun _ _ _ _ _ => qtsnil) (fun _ _ _ _ _ => (qop op_add4 does_add (qcall O__law_posed (hr.mono (by decide)) rfl g__law_posed F__law_posed.kp b__law_posed (fun σ => L2N.passAt takesN0 σ) (qa_cons (qvar (i := 2) rfl (.inr (.inl rfl))) (qa_cons (qtup (qa_cons (qvar (i := 6) rfl (.inl rfl)) (qa_cons (qvar (i := 7) rfl (.inl rfl)) qa_nil))) (qa_cons (qvar (i := 1) rfl (.inr (.inl rfl))) qa_nil)))) (qtup (qa_cons (qvar (i := 8) rfl (.inl rfl)) qa_nil))))) qa_nil)) qa_nil)))))) (qone (qret (qtup (qa_cons (qvar (i := 2) rfl (.inr (.inl rfl))) (qa_cons (qfnT call_tuple_of does_tuple rfl f_tuple boot_tuple (qa_cons (qvar (i := 4) rfl (.inl rfl)) qa_nil)) qa_nil))))))))
abbrev N__law_backward : List Str := ["page", "parts", "at"]
theorem sc__law_backward : FnScope N__law_backward ["page"] (defScope s__law_backward) := ⟨rfl, rfl, rfl, by decide +kernel, rfl, by decide +kernel, by decide +kernel⟩
theorem ok__law_backward (X0 : K.In h) (G : h.Ns mainGlobals mg) (c : He.SaysD fa fn K) : ∃ fd, FunD K "_law_backward" "_law_backward" (defArgs s__law_backward) (defBody s__law_backward) (defScope s__law_backward) [] [] (He.ga K "_law_backward") fd ∧ FnOk P w K mg base (L2N.CX P w) 1 (He.ga K "_law_backward") fd ["page"] (spF K 1 m__law_backward) := by
  have f_len : mg "len" = none := He.free_ok X0 G (c.fact 42 rfl)
  have f_range : mg "range" = none := He.free_ok X0 G (c.fact 46 rfl)
  have f_tuple : mg "tuple" = none := He.free_ok X0 G (c.fact 49 rfl)
  obtain ⟨fd, F⟩ := c.def_ 31 (d := d__law_backward) rfl
  refine ⟨fd, F, fn_ok (k := 0) F sc__law_backward fun cdv A outer s H E hr B => ?_⟩
  have hp : PassesOwn (model P w) _ _ _ := passes_of (X := cxOf (L2N.CX P w) P w K mg base N__law_backward "_law_backward" (defScope s__law_backward) (He.ga K "_law_backward") cdv A outer s H E) (K := fun e s'' => L2N.CX P w outer H s E e s'') rfl
  have tk := L2N.takes_of (X := cxOf (L2N.CX P w) P w K mg base N__law_backward "_law_backward" (defScope s__law_backward) (He.ga K "_law_backward") cdv A outer s H E) (E := E) rfl rfl rfl rfl
  have nd := sc__law_backward.nd
  exact (qone (qret (qtup (qa_cons (qix (qvar (i := 0) rfl (.inl rfl)) qint) (qa_cons (qfnT call_tuple_of does_tuple rfl f_tuple boot_tuple (qa_cons (qcomp (vs := [1]) rfl nd (qiof (qix (qvar (i := 0) rfl (.inl rfl)) qint)) (blkOk_by (own := [("parts", 1)]) (N := N__law_backward) (sc := defScope s__law_backward) (by decide +kernel)) (gok_n (by decide)) rfl (fun _ _ _ _ _ B => (qgn (i := 1) nd rfl (.inr rfl) (by decide))) (fun _ _ _ _ _ => qtsnil) (fun _ _ _ _ _ => (qfnT call_tuple_of does_tuple rfl f_tuple boot_tuple (qa_cons (qcomp (vs := [2]) rfl nd (qir1 rfl f_range (qa_cons (qfnB call_len_seq does_len rfl f_len boot_len (qa_cons (qvar (i := 1) rfl (.inr (.inl rfl))) qa_nil)) qa_nil)) (blkOk_by (own := [("at", 2)]) (by with_unfolding_all rfl)) (gok_n (by decide)) rfl (fun _ _ _ _ _ B => (qgn (i := 2) nd rfl (.inl rfl) (by decide))) (fun _ _ _ _ _ => qtsnil) (fun _ _ _ _ _ => (qix (qvar (i := 1) rfl (.inr (.inl rfl))) (qop op_sub does_sub (qop op_sub does_sub (qfnB call_len_seq does_len rfl f_len boot_len (qa_cons (qvar (i := 1) rfl (.inr (.inl rfl))) qa_nil)) qint) (qvar (i := 2) rfl (.inl rfl)))))) qa_nil)))) qa_nil)) qa_nil)))))
abbrev N__law_wide : List Str := ["page", "deep", "wide", "turn"]
theorem sc__law_wide : FnScope N__law_wide ["page", "deep"] (defScope s__law_wide) := ⟨rfl, rfl, rfl, by decide +kernel, rfl, by decide +kernel, by decide +kernel⟩
theorem ok__law_wide (X0 : K.In h) (G : h.Ns mainGlobals mg) (c : He.SaysD fa fn K) : ∃ fd, FunD K "_law_wide" "_law_wide" (defArgs s__law_wide) (defBody s__law_wide) (defScope s__law_wide) [] [] (He.ga K "_law_wide") fd ∧ FnOk P w K mg base (L2N.CX P w) 1 (He.ga K "_law_wide") fd ["page", "deep"] (spF K 2 m__law_wide) := by
  have f_range : mg "range" = none := He.free_ok X0 G (c.fact 46 rfl)
  obtain ⟨fd, F⟩ := c.def_ 32 (d := d__law_wide) rfl
  refine ⟨fd, F, fn_ok (k := 0) F sc__law_wide fun cdv A outer s H E hr B => ?_⟩
  have hp : PassesOwn (model P w) _ _ _ := passes_of (X := cxOf (L2N.CX P w) P w K mg base N__law_wide "_law_wide" (defScope s__law_wide) (He.ga K "_law_wide") cdv A outer s H E) (K := fun e s'' => L2N.CX P w outer H s E e s'') rfl
  have tk := L2N.takes_of (X := cxOf (L2N.CX P w) P w K mg base N__law_wide "_law_wide" (defScope s__law_wide) (He.ga K "_law_wide") cdv A outer s H E) (E := E) rfl rfl rfl rfl
  have nd := sc__law_wide.nd
  exact (qcons (qset (i := 2) nd rfl (.inl rfl) qint) (qcons (qfor (ws := [3]) hp rfl (qir1 rfl f_range (qa_cons (qvar (i := 1) rfl (.inl rfl)) qa_nil)) (fun B => (qgn (i := 3) nd rfl (.inl rfl) (by decide))) (fun B => (qone (qset (i := 2) nd rfl (.inl rfl) (qop op_mulW does_mul (qvar (i := 2) rfl (.inl rfl)) (qix (qvar (i := 0) rfl (.inl rfl)) qint)))))) (qone (qret (qvar (i := 2) rfl (.inl rfl))))))
abbrev N__law_pose_right : List Str := ["page", "pose", "deep", "lines", "due", "wide", "posed_lines", "both", "line", "spot"]
theorem sc__law_pose_right : FnScope N__law_pose_right ["page", "pose", "deep", "lines"] (defScope s__law_pose_right) := ⟨rfl, rfl, rfl, by decide +kernel, rfl, by decide +kernel, by decide +kernel⟩
theorem ok__law_pose_right (X0 : K.In h) (G : h.Ns mainGlobals mg) (c : He.SaysD fa fn K) : ∃ fd, FunD K "_law_pose_right" "_law_pose_right" (defArgs s__law_pose_right) (defBody s__law_pose_right) (defScope s__law_pose_right) [] [] (He.ga K "_law_pose_right") fd ∧ FnOk P w K mg base (L2N.CX P w) 10 (He.ga K "_law_pose_right") fd ["page", "pose", "deep", "lines"] (spF K 4 m__law_pose_right) := by
  obtain ⟨fd__law_backward, F__law_backward, O__law_backward⟩ := ok__law_backward (P := P) (w := w) (base := base) X0 G c
  have b__law_backward : Binds K fd__law_backward ["page"] [] := F__law_backward.bindsN fun _ _ _ _ _ _ us hl => match us, hl with | [_], _ => rfl
  have g__law_backward : mg "_law_backward" = some (.ref (He.ga K "_law_backward")) := He.glo_ok X0 G (c.fact 31 rfl)
  obtain ⟨fd__law_same, F__law_same, O__law_same⟩ := ok__law_same (P := P) (w := w) (base := base) X0 G c 8
  have b__law_same : Binds K fd__law_same ["found", "due"] [] := F__law_same.bindsN fun _ _ _ _ _ _ us hl => match us, hl with | [_, _], _ => rfl
  have g__law_same : mg "_law_same" = some (.ref (He.ga K "_law_same")) := He.glo_ok X0 G (c.fact 22 rfl)
  obtain ⟨fd__law_turned, F__law_turned, O__law_turned⟩ := ok__law_turned (P := P) (w := w) (base := base) X0 G c
  have b__law_turned : Binds K fd__law_turned ["page", "pose"] [] := F__law_turned.bindsN fun _ _ _ _ _ _ us hl => match us, hl with | [_, _], _ => rfl
  have g__law_turned : mg "_law_turned" = some (.ref (He.ga K "_law_turned")) := He.glo_ok X0 G (c.fact 30 rfl)
  obtain ⟨fd__law_wide, F__law_wide, O__law_wide⟩ := ok__law_wide (P := P) (w := w) (base := base) X0 G c
  have b__law_wide : Binds K fd__law_wide ["page", "deep"] [] := F__law_wide.bindsN fun _ _ _ _ _ _ us hl => match us, hl with | [_, _], _ => rfl
  have g__law_wide : mg "_law_wide" = some (.ref (He.ga K "_law_wide")) := He.glo_ok X0 G (c.fact 32 rfl)
  obtain ⟨fd__law_posed, F__law_posed, O__law_posed⟩ := ok__law_posed (P := P) (w := w) (base := base) X0 G c
  have b__law_posed : Binds K fd__law_posed ["wide", "spot", "pose"] [] := F__law_posed.bindsN fun _ _ _ _ _ _ us hl => match us, hl with | [_, _, _], _ => rfl
  have g__law_posed : mg "_law_posed" = some (.ref (He.ga K "_law_posed")) := He.glo_ok X0 G (c.fact 23 rfl)
  obtain ⟨fd__law_threads, F__law_threads, O__law_threads⟩ := ok__law_threads (P := P) (w := w) (base := base) X0 G c
  have b__law_threads : Binds K fd__law_threads ["page", "deep"] [] := F__law_threads.bindsN fun _ _ _ _ _ _ us hl => match us, hl with | [_, _], _ => rfl
  have g__law_threads : mg "_law_threads" = some (.ref (He.ga K "_law_threads")) := He.glo_ok X0 G (c.fact 29 rfl)
  obtain ⟨fd_turned, F_turned, O_turned⟩ := ok_turned (P := P) (w := w) (base := base) X0 G c
  have b_turned : Binds K fd_turned ["book", "posture"] [] := F_turned.bindsN fun _ _ _ _ _ _ us hl => match us, hl with | [_, _], _ => rfl
  have g_turned : mg "turned" = some (.ref (He.ga K "turned")) := He.glo_ok X0 G (c.fact 12 rfl)
  obtain ⟨fd_backward, F_backward, O_backward⟩ := ok_backward (P := P) (w := w) (base := base) X0 G c
  have b_backward : Binds K fd_backward ["book"] [] := F_backward.bindsN fun _ _ _ _ _ _ us hl => match us, hl with | [_], _ => rfl
  have g_backward : mg "backward" = some (.ref (He.ga K "backward")) := He.glo_ok X0 G (c.fact 15 rfl)
  obtain ⟨fd_is_book, F_is_book, O_is_book⟩ := ok_is_book (P := P) (w := w) (base := base) X0 G c
  have b_is_book : Binds K fd_is_book ["told"] [] := F_is_book.bindsN fun _ _ _ _ _ _ us hl => match us, hl with | [_], _ => rfl
  have g_is_book : mg "is_book" = some (.ref (He.ga K "is_book")) := He.glo_ok X0 G (c.fact 5 rfl)
  obtain ⟨fd_whole, F_whole, O_whole⟩ := ok_whole (P := P) (w := w) (base := base) X0 G c
  have b_whole : Binds K fd_whole ["book", "d"] [] := F_whole.bindsN fun _ _ _ _ _ _ us hl => match us, hl with | [_, _], _ => rfl
  have g_whole : mg "whole" = some (.ref (He.ga K "whole")) := He.glo_ok X0 G (c.fact 19 rfl)
  obtain ⟨fd, F⟩ := c.def_ 33 (d := d__law_pose_right) rfl
  refine ⟨fd, F, fn_ok (k := 9) F sc__law_pose_right fun cdv A outer s H E hr B => ?_⟩
  have hp : PassesOwn (model P w) _ _ _ := passes_of (X := cxOf (L2N.CX P w) P w K mg base N__law_pose_right "_law_pose_right" (defScope s__law_pose_right) (He.ga K "_law_pose_right") cdv A outer s H E) (K := fun e s'' => L2N.CX P w outer H s E e s'') rfl
  have tk := L2N.takes_of (X := cxOf (L2N.CX P w) P w K mg base N__law_pose_right "_law_pose_right" (defScope s__law_pose_right) (He.ga K "_law_pose_right") cdv A outer s H E) (E := E) rfl rfl rfl rfl
  have nd := sc__law_pose_right.nd
  exact (qcons (qparT (is := [4, 5]) (gs := gsNames [4, 5]) rfl (qa_cons (qcall O__law_turned (hr.mono (by decide)) rfl g__law_turned F__law_turned.kp b__law_turned (fun σ => L2N.passAt tk σ) (qa_cons (qvar (i := 0) rfl (.inl rfl)) (qa_cons (qvar (i := 1) rfl (.inr (.inl rfl))) qa_nil))) (qa_cons (qcall O__law_wide (hr.mono (by decide)) rfl g__law_wide F__law_wide.kp b__law_wide (fun σ => L2N.passAt tk σ) (qa_cons (qvar (i := 0) rfl (.inl rfl)) (qa_cons (qvar (i := 2) rfl (.inl rfl)) qa_nil))) qa_nil)) (pgs_cons (pg_name (i := 4) nd rfl (.inl rfl)) (pgs_cons (pg_name (i := 5) nd rfl (.inr rfl)) pgs_nil)) (gsNames_ok [4, 5]) (by decide)) (qcons (qif (qtnot (qtval (qcall O__law_same (hr.mono (by decide)) rfl g__law_same F__law_same.kp b__law_same (fun σ => L2N.passAt tk σ) (qa_cons (qlst (qa_cons (qcall O_turned (hr.mono (by decide)) rfl g_turned F_turned.kp b_turned (fun σ => L2N.passAt tk σ) (qa_cons (qvar (i := 0) rfl (.inl rfl)) (qa_cons (qvar (i := 1) rfl (.inr (.inl rfl))) qa_nil))) (qa_cons (qcallk (ks := ["posture", "book"]) (perm := [1, 0]) O_turned (hr.mono (by decide)) rfl g_turned F_turned.kp (kwBinds_of (ks := ["posture", "book"]) F_turned fun _ _ _ _ _ _ ws hl => match ws, hl with | [_, _], _ => rfl) (fun σ => L2N.passAt tk σ) (qk_cons (qvar (i := 1) rfl (.inr (.inl rfl))) (qk_cons (qvar (i := 0) rfl (.inl rfl)) qk_nil))) (qa_cons (qcall O_is_book (hr.mono (by decide)) rfl g_is_book F_is_book.kp b_is_book (fun σ => L2N.passAt tk σ) (qa_cons (qvar (i := 4) rfl (.inl rfl)) qa_nil)) qa_nil)))) (qa_cons (qlst (qa_cons (qvar (i := 4) rfl (.inl rfl)) (qa_cons (qvar (i := 4) rfl (.inl rfl)) (qa_cons qbl qa_nil)))) qa_nil))))) (qone (qret qbl)) qnil) (qcons (qsetcomp (i := 6) (vs := [8]) rfl nd rfl rfl (sw_true rfl rfl rfl (by decide +kernel)) (qiof (qvar (i := 3) rfl (.inl rfl))) (blkOk_by (own := [("line", 8)]) (N := N__law_pose_right) (sc := defScope s__law_pose_right) (by decide +kernel)) (gok_n (by decide)) rfl (fun _ _ _ _ _ B => (qgn (i := 8) nd rfl (.inl rfl) (by decide))) (fun _ _ _ _ _ => qtsnil) (fun _ _ _ _ _ => (qcomp (vs := [9]) rfl nd (qiof (qvar (i := 8) rfl (.inl rfl))) (blkOk_by (own := [("spot", 9)]) (by with_unfolding_all rfl)) (gok_n (by decide)) rfl (fun _ _ _ _ _ B => (qgn (i := 9) nd rfl (.inl rfl) (by decide))) (fun _ _ _ _ _ => qtsnil) (fun _ _ _ _ _ => (qcall O__law_posed (hr.mono (by decide)) rfl g__law_posed F__law_posed.kp b__law_posed (fun σ => L2N.passAt takesN0 σ) (qa_cons (qvar (i := 5) rfl (.inr (.inl rfl))) (qa_cons (qvar (i := 9) rfl (.inl rfl)) (qa_cons (qvar (i := 1) rfl (.inr (.inl rfl))) qa_nil)))))))) (qcons (qif (QW.t (qw_or (qtcmp (op_neD hr.units) does_ne (qcall O__law_threads (hr.mono (by decide)) rfl g__law_threads F__law_threads.kp b__law_threads (fun σ => L2N.passAt tk σ) (qa_cons (qvar (i := 4) rfl (.inl rfl)) (qa_cons (qvar (i := 2) rfl (.inl rfl)) qa_nil))) (qvar (i := 6) rfl (.inl rfl))) (qw_or1 (qtnot (qtval (qcall O__law_same (hr.mono (by decide)) rfl g__law_same F__law_same.kp b__law_same (fun σ => L2N.passAt tk σ) (qa_cons (qcall O_whole (hr.mono (by decide)) rfl g_whole F_whole.kp b_whole (fun σ => L2N.passAt tk σ) (qa_cons (qvar (i := 4) rfl (.inl rfl)) (qa_cons (qvar (i := 2) rfl (.inl rfl)) qa_nil))) (qa_cons (qix (qvar (i := 6) rfl (.inl rfl)) qint) qa_nil)))))))) (qone (qret qbl)) qnil) (qcons (qset (i := 7) nd rfl (.inl rfl) (qcall O__law_backward (hr.mono (by decide)) rfl g__law_backward F__law_backward.kp b__law_backward (fun σ => L2N.passAt tk σ) (qa_cons (qvar (i := 4) rfl (.inl rfl)) qa_nil))) (qone (qret (qcall O__law_same (hr.mono (by decide)) rfl g__law_same F__law_same.kp b__law_same (fun σ => L2N.passAt tk σ) (qa_cons (qlst (qa_cons (qcall O_turned (hr.mono (by decide)) rfl g_turned F_turned.kp b_turned (fun σ => L2N.passAt tk σ) (qa_cons (qcall O_backward (hr.mono (by decide)) rfl g_backward F_backward.kp b_backward (fun σ => L2N.passAt tk σ) (qa_cons (qvar (i := 0) rfl (.inl rfl)) qa_nil)) (qa_cons (qvar (i := 1) rfl (.inr (.inl rfl))) qa_nil))) (qa_cons (qcall O_backward (hr.mono (by decide)) rfl g_backward F_backward.kp b_backward (fun σ => L2N.passAt tk σ) (qa_cons (qcall O_turned (hr.mono (by decide)) rfl g_turned F_turned.kp b_turned (fun σ => L2N.passAt tk σ) (qa_cons (qvar (i := 0) rfl (.inl rfl)) (qa_cons (qvar (i := 1) rfl (.inr (.inl rfl))) qa_nil))) qa_nil)) qa_nil))) (qa_cons (qlst (qa_cons (qvar (i := 7) rfl (.inl rfl)) (qa_cons (qvar (i := 7) rfl (.inl rfl)) qa_nil))) qa_nil))))))))))
abbrev N__law_right : List Str := ["deck", "page", "deep", "lines", "pose", "due", "found", "other", "around", "line"]
theorem sc__law_right : FnScope N__law_right ["deck"] (defScope s__law_right) := ⟨rfl, rfl, rfl, by decide +kernel, rfl, by decide +kernel, by decide +kernel⟩
theorem ok__law_right (X0 : K.In h) (G : h.Ns mainGlobals mg) (c : He.SaysD fa fn K) : ∃ fd, FunD K "_law_right" "_law_right" (defArgs s__law_right) (defBody s__law_right) (defScope s__law_right) [] [] (He.ga K "_law_right") fd ∧ FnOk P w K mg base (L2N.CX P w) 11 (He.ga K "_law_right") fd ["deck"] (spF K 1 m__law_right) := by
  obtain ⟨fd__law_page, F__law_page, O__law_page⟩ := ok__law_page (P := P) (w := w) (base := base) X0 G c
  have b__law_page : Binds K fd__law_page ["deck"] [] := F__law_page.bindsN fun _ _ _ _ _ _ us hl => match us, hl with | [_], _ => rfl
  have g__law_page : mg "_law_page" = some (.ref (He.ga K "_law_page")) := He.glo_ok X0 G (c.fact 28 rfl)
  obtain ⟨fd__law_take, F__law_take, O__law_take⟩ := ok__law_take (P := P) (w := w) (base := base) X0 G c
  have b__law_take : Binds K fd__law_take ["deck", "many"] [] := F__law_take.bindsN fun _ _ _ _ _ _ us hl => match us, hl with | [_, _], _ => rfl
  have g__law_take : mg "_law_take" = some (.ref (He.ga K "_law_take")) := He.glo_ok X0 G (c.fact 21 rfl)
  obtain ⟨fd__law_threads, F__law_threads, O__law_threads⟩ := ok__law_threads (P := P) (w := w) (base := base) X0 G c
  have b__law_threads : Binds K fd__law_threads ["page", "deep"] [] := F__law_threads.bindsN fun _ _ _ _ _ _ us hl => match us, hl with | [_, _], _ => rfl
  have g__law_threads : mg "_law_threads" = some (.ref (He.ga K "_law_threads")) := He.glo_ok X0 G (c.fact 29 rfl)
  obtain ⟨fd__law_all_poses, F__law_all_poses, O__law_all_poses⟩ := ok__law_all_poses (P := P) (w := w) (base := base) X0 G c
  have b__law_all_poses : Binds K fd__law_all_poses [] [] := F__law_all_poses.bindsN fun _ _ _ _ _ _ us hl => match us, hl with | [], _ => rfl
  have g__law_all_poses : mg "_law_all_poses" = some (.ref (He.ga K "_law_all_poses")) := He.glo_ok X0 G (c.fact 25 rfl)
  obtain ⟨fd__law_backward, F__law_backward, O__law_backward⟩ := ok__law_backward (P := P) (w := w) (base := base) X0 G c
  have b__law_backward : Binds K fd__law_backward ["page"] [] := F__law_backward.bindsN fun _ _ _ _ _ _ us hl => match us, hl with | [_], _ => rfl
  have g__law_backward : mg "_law_backward" = some (.ref (He.ga K "_law_backward")) := He.glo_ok X0 G (c.fact 31 rfl)
  obtain ⟨fd_turned, F_turned, O_turned⟩ := ok_turned (P := P) (w := w) (base := base) X0 G c
  have b_turned : Binds K fd_turned ["book", "posture"] [] := F_turned.bindsN fun _ _ _ _ _ _ us hl => match us, hl with | [_, _], _ => rfl
  have g_turned : mg "turned" = some (.ref (He.ga K "turned")) := He.glo_ok X0 G (c.fact 12 rfl)
  obtain ⟨fd__law_same, F__law_same, O__law_same⟩ := ok__law_same (P := P) (w := w) (base := base) X0 G c 8
  have b__law_same : Binds K fd__law_same ["found", "due"] [] := F__law_same.bindsN fun _ _ _ _ _ _ us hl => match us, hl with | [_, _], _ => rfl
  have g__law_same : mg "_law_same" = some (.ref (He.ga K "_law_same")) := He.glo_ok X0 G (c.fact 22 rfl)
  obtain ⟨fd_backward, F_backward, O_backward⟩ := ok_backward (P := P) (w := w) (base := base) X0 G c
  have b_backward : Binds K fd_backward ["book"] [] := F_backward.bindsN fun _ _ _ _ _ _ us hl => match us, hl with | [_], _ => rfl
  have g_backward : mg "backward" = some (.ref (He.ga K "backward")) := He.glo_ok X0 G (c.fact 15 rfl)
  obtain ⟨fd_is_book, F_is_book, O_is_book⟩ := ok_is_book (P := P) (w := w) (base := base) X0 G c
  have b_is_book : Binds K fd_is_book ["told"] [] := F_is_book.bindsN fun _ _ _ _ _ _ us hl => match us, hl with | [_], _ => rfl
  have g_is_book : mg "is_book" = some (.ref (He.ga K "is_book")) := He.glo_ok X0 G (c.fact 5 rfl)
  obtain ⟨fd__law_pose_right, F__law_pose_right, O__law_pose_right⟩ := ok__law_pose_right (P := P) (w := w) (base := base) X0 G c
  have b__law_pose_right : Binds K fd__law_pose_right ["page", "pose", "deep", "lines"] [] := F__law_pose_right.bindsN fun _ _ _ _ _ _ us hl => match us, hl with | [_, _, _, _], _ => rfl
  have g__law_pose_right : mg "_law_pose_right" = some (.ref (He.ga K "_law_pose_right")) := He.glo_ok X0 G (c.fact 33 rfl)
  obtain ⟨fd_whole, F_whole, O_whole⟩ := ok_whole (P := P) (w := w) (base := base) X0 G c
  have b_whole : Binds K fd_whole ["book", "d"] [] := F_whole.bindsN fun _ _ _ _ _ _ us hl => match us, hl with | [_, _], _ => rfl
  have g_whole : mg "whole" = some (.ref (He.ga K "whole")) := He.glo_ok X0 G (c.fact 19 rfl)
  obtain ⟨fd__law_behind, F__law_behind, O__law_behind⟩ := ok__law_behind (P := P) (w := w) (base := base) X0 G c
  have b__law_behind : Binds K fd__law_behind ["pose", "other"] [] := F__law_behind.bindsN fun _ _ _ _ _ _ us hl => match us, hl with | [_, _], _ => rfl
  have g__law_behind : mg "_law_behind" = some (.ref (He.ga K "_law_behind")) := He.glo_ok X0 G (c.fact 26 rfl)
  obtain ⟨fd, F⟩ := c.def_ 34 (d := d__law_right) rfl
  refine ⟨fd, F, fn_ok (k := 10) F sc__law_right fun cdv A outer s H E hr B => ?_⟩
  have hp : PassesOwn (model P w) _ _ _ := passes_of (X := cxOf (L2N.CX P w) P w K mg base N__law_right "_law_right" (defScope s__law_right) (He.ga K "_law_right") cdv A outer s H E) (K := fun e s'' => L2N.CX P w outer H s E e s'') rfl
  have tk := L2N.takes_of (X := cxOf (L2N.CX P w) P w K mg base N__law_right "_law_right" (defScope s__law_right) (He.ga K "_law_right") cdv A outer s H E) (E := E) rfl rfl rfl rfl
  have nd := sc__law_right.nd
  exact (qcons (qset (i := 1) nd rfl (.inl rfl) (qcall O__law_page (hr.mono (by decide)) rfl g__law_page F__law_page.kp b__law_page (fun σ => L2N.passAt tk σ) (qa_cons (qvar (i := 0) rfl (.inl rfl)) qa_nil))) (qcons (qset (i := 2) nd rfl (.inl rfl) (qcall O__law_take (hr.mono (by decide)) rfl g__law_take F__law_take.kp b__law_take (fun σ => L2N.passAt tk σ) (qa_cons (qvar (i := 0) rfl (.inl rfl)) (qa_cons (qifx (qtcmp (op_eqD hr.units) does_eq (qix (qvar (i := 1) rfl (.inl rfl)) qint) qint) qint qint) qa_nil)))) (qcons (qset (i := 3) nd rfl (.inl rfl) (qcall O__law_threads (hr.mono (by decide)) rfl g__law_threads F__law_threads.kp b__law_threads (fun σ => L2N.passAt tk σ) (qa_cons (qvar (i := 1) rfl (.inl rfl)) (qa_cons (qvar (i := 2) rfl (.inl rfl)) qa_nil)))) (qcons (qfor (ws := [4]) hp rfl (qiof (qcall0 O__law_all_poses (hr.mono (by decide)) rfl g__law_all_poses F__law_all_poses.kp b__law_all_poses (fun σ => L2N.passAt tk σ))) (fun B => (qgn (i := 4) nd rfl (.inl rfl) (by decide))) (fun B => (qone (qif (qtnot (qtval (qcall O__law_pose_right (hr.mono (by decide)) rfl g__law_pose_right F__law_pose_right.kp b__law_pose_right (fun σ => L2N.passAt tk σ) (qa_cons (qvar (i := 1) rfl (.inl rfl)) (qa_cons (qvar (i := 4) rfl (.inl rfl)) (qa_cons (qvar (i := 2) rfl (.inl rfl)) (qa_cons (qvar (i := 3) rfl (.inl rfl)) qa_nil))))))) (qone (qret qbl)) qnil)))) (qcons (qset (i := 5) nd rfl (.inl rfl) (qcall O__law_backward (hr.mono (by decide)) rfl g__law_backward F__law_backward.kp b__law_backward (fun σ => L2N.passAt tk σ) (qa_cons (qvar (i := 1) rfl (.inl rfl)) qa_nil))) (qcons (qset (i := 6) nd rfl (.inl rfl) (qlst (qa_cons (qcall O_backward (hr.mono (by decide)) rfl g_backward F_backward.kp b_backward (fun σ => L2N.passAt tk σ) (qa_cons (qvar (i := 1) rfl (.inl rfl)) qa_nil)) (qa_cons (qcallk (ks := ["book"]) (perm := [0]) O_backward (hr.mono (by decide)) rfl g_backward F_backward.kp (kwBinds_of (ks := ["book"]) F_backward fun _ _ _ _ _ _ ws hl => match ws, hl with | [_], _ => rfl) (fun σ => L2N.passAt tk σ) (qk_cons (qvar (i := 1) rfl (.inl rfl)) qk_nil)) (qa_cons (qcall O_is_book (hr.mono (by decide)) rfl g_is_book F_is_book.kp b_is_book (fun σ => L2N.passAt tk σ) (qa_cons (qvar (i := 5) rfl (.inl rfl)) qa_nil)) (qa_cons (qcall O_backward (hr.mono (by decide)) rfl g_backward F_backward.kp b_backward (fun σ => L2N.passAt tk σ) (qa_cons (qvar (i := 5) rfl (.inl rfl)) qa_nil)) (qa_cons (qcall O_turned (hr.mono (by decide)) rfl g_turned F_turned.kp b_turned (fun σ => L2N.passAt tk σ) (qa_cons (qvar (i := 1) rfl (.inl rfl)) (qa_cons (qtup (qa_cons qint (qa_cons qint qa_nil))) qa_nil))) qa_nil))))))) (qcons (qif (qtnot (qtval (qcall O__law_same (hr.mono (by decide)) rfl g__law_same F__law_same.kp b__law_same (fun σ => L2N.passAt tk σ) (qa_cons (qvar (i := 6) rfl (.inl rfl)) (qa_cons (qlst (qa_cons (qvar (i := 5) rfl (.inl rfl)) (qa_cons (qvar (i := 5) rfl (.inl rfl)) (qa_cons qbl (qa_cons (qvar (i := 1) rfl (.inl rfl)) (qa_cons (qvar (i := 1) rfl (.inl rfl)) qa_nil)))))) qa_nil))))) (qone (qret qbl)) qnil) (qcons (qif (QW.t (qw_or (qtcmp (op_neD hr.units) does_ne (qcall O__law_threads (hr.mono (by decide)) rfl g__law_threads F__law_threads.kp b__law_threads (fun σ => L2N.passAt tk σ) (qa_cons (qvar (i := 5) rfl (.inl rfl)) (qa_cons (qvar (i := 2) rfl (.inl rfl)) qa_nil))) (qcomp (vs := [9]) rfl nd (qiof (qvar (i := 3) rfl (.inl rfl))) (blkOk_by (own := [("line", 9)]) (N := N__law_right) (sc := defScope s__law_right) (by decide +kernel)) (gok_n (by decide)) rfl (fun _ _ _ _ _ B => (qgn (i := 9) nd rfl (.inl rfl) (by decide))) (fun _ _ _ _ _ => qtsnil) (fun _ _ _ _ _ => (qrev (qvar (i := 9) rfl (.inl rfl)))))) (qw_or1 (qtnot (qtval (qcall O__law_same (hr.mono (by decide)) rfl g__law_same F__law_same.kp b__law_same (fun σ => L2N.passAt tk σ) (qa_cons (qcall O_whole (hr.mono (by decide)) rfl g_whole F_whole.kp b_whole (fun σ => L2N.passAt tk σ) (qa_cons (qvar (i := 5) rfl (.inl rfl)) (qa_cons (qvar (i := 2) rfl (.inl rfl)) qa_nil))) (qa_cons (qrev (qix (qvar (i := 3) rfl (.inl rfl)) qint)) qa_nil)))))))) (qone (qret qbl)) qnil) (qcons (qpar2 (i := 4) (j := 7) rfl nd rfl rfl (by decide) rfl rfl (qa_cons (qtup (qa_cons (qcall O__law_take (hr.mono (by decide)) rfl g__law_take F__law_take.kp b__law_take (fun σ => L2N.passAt tk σ) (qa_cons (qvar (i := 0) rfl (.inl rfl)) (qa_cons qint qa_nil))) (qa_cons (qcall O__law_take (hr.mono (by decide)) rfl g__law_take F__law_take.kp b__law_take (fun σ => L2N.passAt tk σ) (qa_cons (qvar (i := 0) rfl (.inl rfl)) (qa_cons qint qa_nil))) qa_nil))) (qa_cons (qtup (qa_cons (qcall O__law_take (hr.mono (by decide)) rfl g__law_take F__law_take.kp b__law_take (fun σ => L2N.passAt tk σ) (qa_cons (qvar (i := 0) rfl (.inl rfl)) (qa_cons qint qa_nil))) (qa_cons (qcall O__law_take (hr.mono (by decide)) rfl g__law_take F__law_take.kp b__law_take (fun σ => L2N.passAt tk σ) (qa_cons (qvar (i := 0) rfl (.inl rfl)) (qa_cons qint qa_nil))) qa_nil))) qa_nil)) (by rfl)) (qcons (qif (qtnot (qtval (qcall O__law_same (hr.mono (by decide)) rfl g__law_same F__law_same.kp b__law_same (fun σ => L2N.passAt tk σ) (qa_cons (qcall O_turned (hr.mono (by decide)) rfl g_turned F_turned.kp b_turned (fun σ => L2N.passAt tk σ) (qa_cons (qcall O_turned (hr.mono (by decide)) rfl g_turned F_turned.kp b_turned (fun σ => L2N.passAt tk σ) (qa_cons (qvar (i := 1) rfl (.inl rfl)) (qa_cons (qvar (i := 7) rfl (.inl rfl)) qa_nil))) (qa_cons (qvar (i := 4) rfl (.inl rfl)) qa_nil))) (qa_cons (qcall O_turned (hr.mono (by decide)) rfl g_turned F_turned.kp b_turned (fun σ => L2N.passAt tk σ) (qa_cons (qvar (i := 1) rfl (.inl rfl)) (qa_cons (qcall O__law_behind (hr.mono (by decide)) rfl g__law_behind F__law_behind.kp b__law_behind (fun σ => L2N.passAt tk σ) (qa_cons (qvar (i := 4) rfl (.inl rfl)) (qa_cons (qvar (i := 7) rfl (.inl rfl)) qa_nil))) qa_nil))) qa_nil))))) (qone (qret qbl)) qnil) (qcons (qset (i := 8) nd rfl (.inl rfl) (qcall O_turned (hr.mono (by decide)) rfl g_turned F_turned.kp b_turned (fun σ => L2N.passAt tk σ) (qa_cons (qcall O_turned (hr.mono (by decide)) rfl g_turned F_turned.kp b_turned (fun σ => L2N.passAt tk σ) (qa_cons (qcall O_turned (hr.mono (by decide)) rfl g_turned F_turned.kp b_turned (fun σ => L2N.passAt tk σ) (qa_cons (qcall O_turned (hr.mono (by decide)) rfl g_turned F_turned.kp b_turned (fun σ => L2N.passAt tk σ) (qa_cons (qvar (i := 1) rfl (.inl rfl)) (qa_cons (qtup (qa_cons qint (qa_cons qint qa_nil))) qa_nil))) (qa_cons (qtup (qa_cons qint (qa_cons qint qa_nil))) qa_nil))) (qa_cons (qtup (qa_cons qint (qa_cons qint qa_nil))) qa_nil))) (qa_cons (qtup (qa_cons qint (qa_cons qint qa_nil))) qa_nil)))) (qone (qret (qcall O__law_same (hr.mono (by decide)) rfl g__law_same F__law_same.kp b__law_same (fun σ => L2N.passAt tk σ) (qa_cons (qlst (qa_cons (qvar (i := 8) rfl (.inl rfl)) (qa_cons (qcall O_turned (hr.mono (by decide)) rfl g_turned F_turned.kp b_turned (fun σ => L2N.passAt tk σ) (qa_cons (qcall O_turned (hr.mono (by decide)) rfl g_turned F_turned.kp b_turned (fun σ => L2N.passAt tk σ) (qa_cons (qvar (i := 1) rfl (.inl rfl)) (qa_cons (qtup (qa_cons qint (qa_cons qint qa_nil))) qa_nil))) (qa_cons (qtup (qa_cons qint (qa_cons qint qa_nil))) qa_nil))) qa_nil))) (qa_cons (qlst (qa_cons (qvar (i := 1) rfl (.inl rfl)) (qa_cons (qvar (i := 1) rfl (.inl rfl)) qa_nil))) qa_nil))))))))))))))))
abbrev N_law : List Str := ["script", "at"]
theorem sc_law : FnScope N_law ["script"] (defScope s_law) := ⟨rfl, rfl, rfl, by decide +kernel, rfl, by decide +kernel, by decide +kernel⟩
theorem ok_law (X0 : K.In h) (G : h.Ns mainGlobals mg) (c : He.SaysD fa fn K) : ∃ fd, FunD K "law" "law" (defArgs s_law) (defBody s_law) (defScope s_law) [] [] (He.ga K "law") fd ∧ FnOk P w K mg base (L2N.CX P w) 12 (He.ga K "law") fd ["script"] (spF K 1 m_law) := by
  obtain ⟨fd__law_right, F__law_right, O__law_right⟩ := ok__law_right (P := P) (w := w) (base := base) X0 G c
  have b__law_right : Binds K fd__law_right ["deck"] [] := F__law_right.bindsN fun _ _ _ _ _ _ us hl => match us, hl with | [_], _ => rfl
  have g__law_right : mg "_law_right" = some (.ref (He.ga K "_law_right")) := He.glo_ok X0 G (c.fact 34 rfl)
  obtain ⟨fd__law_deck, F__law_deck, O__law_deck⟩ := ok__law_deck (P := P) (w := w) (base := base) X0 G c
  have b__law_deck : Binds K fd__law_deck ["script", "at"] [] := F__law_deck.bindsN fun _ _ _ _ _ _ us hl => match us, hl with | [_, _], _ => rfl
  have g__law_deck : mg "_law_deck" = some (.ref (He.ga K "_law_deck")) := He.glo_ok X0 G (c.fact 20 rfl)
  have f_len : mg "len" = none := He.free_ok X0 G (c.fact 42 rfl)
  have f_max : mg "max" = none := He.free_ok X0 G (c.fact 44 rfl)
  have f_min : mg "min" = none := He.free_ok X0 G (c.fact 45 rfl)
  have f_range : mg "range" = none := He.free_ok X0 G (c.fact 46 rfl)
  obtain ⟨fd, F⟩ := c.def_ 35 (d := d_law) rfl
  refine ⟨fd, F, fn_ok (k := 11) F sc_law fun cdv A outer s H E hr B => ?_⟩
  have hp : PassesOwn (model P w) _ _ _ := passes_of (X := cxOf (L2N.CX P w) P w K mg base N_law "law" (defScope s_law) (He.ga K "law") cdv A outer s H E) (K := fun e s'' => L2N.CX P w outer H s E e s'') rfl
  have tk := L2N.takes_of (X := cxOf (L2N.CX P w) P w K mg base N_law "law" (defScope s_law) (He.ga K "law") cdv A outer s H E) (E := E) rfl rfl rfl rfl
  have nd := sc_law.nd
  exact (qcons (qfor (ws := [1]) hp rfl (qir1 rfl f_range (qa_cons (qfnB (call_max2 rfl) does_max2 rfl f_max boot_max (qa_cons qint (qa_cons (qfnB (call_min2 rfl) does_min2 rfl f_min boot_min (qa_cons (qfnB call_len_seq does_len rfl f_len boot_len (qa_cons (qvar (i := 0) rfl (.inl rfl)) qa_nil)) (qa_cons qint qa_nil))) qa_nil))) qa_nil)) (fun B => (qgn (i := 1) nd rfl (.inl rfl) (by decide))) (fun B => (qone (qif (qtnot (qtval (qcall O__law_right (hr.mono (by decide)) rfl g__law_right F__law_right.kp b__law_right (fun σ => L2N.passAt tk σ) (qa_cons (qcall O__law_deck (hr.mono (by decide)) rfl g__law_deck F__law_deck.kp b__law_deck (fun σ => L2N.passAt tk σ) (qa_cons (qvar (i := 0) rfl (.inl rfl)) (qa_cons (qvar (i := 1) rfl (.inl rfl)) qa_nil))) qa_nil)))) (qone (qret qbl)) qnil)))) (qone (qret qbl)))
end
end Lw
set_option maxHeartbeats 4000000
namespace Lw
open PySem PySem.Spec PyProof.Rows L2 Ev
def loose : List PySem.Str := (["__name__", "ThreadError", "InvalidBook", "InvalidDepth", "InvalidPosture", "is_whole", "is_count", "is_index", "power", "digits_of", "is_book", "_is_kind", "_is_part", "places_of", "check_book", "is_posture", "check_posture", "turned", "_turned_parts", "in_posture", "backward", "check_depth", "how_many_cells", "cell_in_kind", "whole", "_law_deck", "_law_take", "_law_same", "_law_posed", "_law_places"] : List PySem.Str) ++ (["_law_all_poses", "_law_behind", "_law_posed_page", "_law_page", "_law_threads", "_law_turned", "_law_backward", "_law_wide", "_law_pose_right", "_law_right"] : List PySem.Str)
abbrev R : PySem.W.OpenRow := PySem.W.OpenLaw.row PySem.Challenge.rw_squarethreads_k03_whole_turned_and_backw
abbrev hk : PySem.W.Hook := He.hookD 4 fa fn
def ob (s : PySem.W.SharedT) : He.AlD := He.obsDG 4 fa fn (HandSHeadRun.getT s)
theorem ob_eq (s : PySem.W.SharedT) : ob s = hk.obs s.abs := He.obsDG_eq (HandSHeadRun.getT_eq s)
theorem run (w : World) : HandSHeadRun.RunEq R (PySem.W.view R.prog [44]) hk ob 4000 loose w := by
  intro os
  kernel_rfl
theorem facts {P : Program} {w : World} {K : PySem.W.Frag} {h : Heap} {mg : Str → Option Value} {f : Addr} (X : K.In h) (G : h.Ns mainGlobals mg) (hfa : mg ("law" : Str) = some (.ref f)) (c : He.SaysD fa fn K) :
    ∃ fd : FuncData, (∀ (s : Shared) (v : Value), BindsTo s fd ⟨[v], []⟩ [("script", v)]) ∧ ∀ base : Heap, K.In base → base.Ns mainGlobals mg → FnOk P w K mg base CXE 12 f fd ["script"] (spF K 1 m_law) := by
  have e := hfa.symm.trans (He.glo_ok X G (c.fact 35 (f := .glo "law") rfl))
  cases e
  obtain ⟨fd, F⟩ := c.def_ 35 (d := d_law) rfl
  have F : FunD K "law" "law" (defArgs s_law) (defBody s_law) (defScope s_law) [] [] (He.ga K "law") fd := F
  have b := FunD.bindsA (ps := ["script"]) F fun _ _ _ _ _ _ us hl => match us, hl with | [_], _ => rfl
  refine ⟨fd, fun s v => b s [v] rfl, fun base _ _ => ?_⟩
  obtain ⟨fd', F', O⟩ := ok_law (P := P) (w := w) (base := base) X G c
  have ee : fd = fd' := by
    obtain ⟨_, _, _, _, _, _, _, _, _, _, e1, l1, _⟩ := F.ex
    obtain ⟨_, _, _, _, _, _, _, _, _, _, e2, l2, _⟩ := F'.ex
    rw [l1] at l2
    cases l2
    rfl
  rw [ee]
  exact fnok_cx O
end Lw
open PySem PySem.W PySem.Calls PyProof.Rows
theorem PySem.Challenge.cw_squarethreads_k03_whole_turned_and_backw_holds : PySem.Challenge.rw_squarethreads_k03_whole_turned_and_backw.Holds := by
  w_on; o_law
  refine HandSHeadRun.head_any (r := OpenLaw.row PySem.Challenge.rw_squarethreads_k03_whole_turned_and_backw) (q := view (OpenLaw.row PySem.Challenge.rw_squarethreads_k03_whole_turned_and_backw).prog [44]) (H := Lw.hk) (ob := Lw.ob) (M := 4000) (loose := Lw.loose) (d := HandSHeadRun.topDef (OpenLaw.row PySem.Challenge.rw_squarethreads_k03_whole_turned_and_backw).prog 44) (kwd := []) Lw.ob_eq
    (by kernel_rfl) (fun s => by kernel_rfl) Lw.run (by kernel_rfl) (by kernel_rfl) (by kernel_rfl) (by rfl) (by first | assumption | decide +kernel) (by decide +kernel) ⟨rfl, rfl, rfl, rfl, rfl, by decide +kernel⟩ ?hw ?hc
  case hw => w_witness2
  case hc =>
    refine L2.walk_ofE (l := PySem.Challenge.rw_squarethreads_k03_whole_turned_and_backw) (n := 63) (k := 12) (x := "script") (CX := Ev.CXE) rfl (by decide) (by kernel_rfl) ⟨rfl, by decide, by decide⟩ ?F Ev.law_CXE
    intro w mg fa h Y G hmg0
    obtain ⟨K, KX, c⟩ := Y
    have hmg : mg ("law" : PySem.Str) = some (.ref fa) := by
      have e : (HandSHeadRun.topDef (OpenLaw.row PySem.Challenge.rw_squarethreads_k03_whole_turned_and_backw).prog 44).name = ("law" : PySem.Str) := by kernel_rfl
      rw [← e]
      exact hmg0
    obtain ⟨fd, hb, hF⟩ := Lw.facts (P := (PySem.Challenge.rw_squarethreads_k03_whole_turned_and_backw).prog) (w := w) KX G hmg c
    exact ⟨K, fd, _, KX, hb, fun H a ns hl _ hS => Ev.law_sp hS (Lw.pure_law ns hl), hF⟩

