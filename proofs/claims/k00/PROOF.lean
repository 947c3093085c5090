import PyProof.Rows.All
import Wide.All
import OpenK.AllK
import Wide.FinOn
import HandS.ForMost
import HandS.Conv
import HandS.IsInst
import HandS.Gcd
import HandS.Wide
import HandS.Deep
import HandS.Style
import HandS.Exc
import HandS.Flow
import PyProof.ReprReads
import KE.KIndexOf
import HandS.Walk
import HandS.WordsExc
import KE.GoesMore
import PyProof.ReprBulk
import HandS.Ends
import HandS.TupAny
import HandS.Text
import HandS.Dict
import HandS.More
import KE.GoesEnumKw
import HandS.DictComp
import HandS.SortInts
import HandS.SortRule
import HandS.WideBits
import HandS.Small
import HandS.TupMul
import HandS.AnyAll
import HandS.OwnEq
import HandS.Codes
import PyProof.InstEq
import KE.RegKIsAll
import PySem.Challenge.RW_selfdrawn_k00_whole_books_as_they_are_to
set_option Elab.async false
set_option linter.all false
set_option maxRecDepth 100000
set_option maxHeartbeats 4000000
/-! Wk: a walk over data. Values are told by data (PyData), apart from the addresses B that may still change. -/
namespace Wk
open PySem PySem.Spec PyProof.Rows L2

abbrev PD := PyData
/-- a list of the written part -/
def KL (K : PySem.W.Frag) (a : Addr) (xs : List V) : Prop := ∃ (its : Array Value) (n : Nat), K.lookup a = some { cls := .type "list", data := .seq its n } ∧ its.size ≤ sizeLine ∧ Vals xs its.toList
def RdL (K : PySem.W.Frag) (B : List Addr) (H : Hp) (a : Addr) (xs : List V) : Prop := (a ∉ B ∧ Rd H a (.lst xs)) ∨ KL K a xs
def RdT (K : PySem.W.Frag) (B : List Addr) (H : Hp) (a : Addr) (xs : List V) : Prop := (a ∉ B ∧ Rd H a (.tup xs)) ∨ SqT K (fun _ => none) a xs
theorem rd_no {a : Addr} {o : HO} (h : Rd (fun _ => none) a o) : False := by
  rcases h with h | ⟨_, h⟩ <;> cases h
section
variable {K : PySem.W.Frag} {B B' : List Addr} {H H' H1 H2 : Hp} {a : Addr} {xs : List V}
theorem RdL.sq (h : RdL K B H a xs) : SqL K H a xs := by
  rcases h with ⟨_, h⟩ | ⟨its, n, h1, h2, h3⟩
  · exact .inl h
  · exact .inr ⟨_, its, n, h1, rfl, rfl, rfl, h2, h3⟩
theorem RdT.sq (h : RdT K B H a xs) : SqT K H a xs := by
  rcases h with ⟨_, h⟩ | h
  · exact .inl h
  · rcases h with h | h
    · exact (rd_no h).elim
    · exact .inr h
/-- all that was known stays, but at B -/
def Keep (B : List Addr) (H H' : Hp) : Prop := ∀ b o, b ∉ B → H b = some o → H' b = some o
theorem Keep.refl (B : List Addr) (H : Hp) : Keep B H H := fun _ _ _ h => h
theorem Keep.trans (h : Keep B H H1) (g : Keep B H1 H2) : Keep B H H2 := fun b o n e => g b o n (h b o n e)
theorem Keep.same (h : Same H H') : Keep B H H' := fun b o _ e => h b o e
theorem Keep.wider (h : Keep B H H') (s : ∀ b, b ∈ B → b ∈ B') : Keep B' H H' := fun b o n e => h b o (fun z => n (s b z)) e
theorem RdL.keep (h : RdL K B H a xs) (k : Keep B H H') : RdL K B H' a xs := by
  rcases h with ⟨n, h⟩ | h
  · refine .inl ⟨n, ?_⟩
    rcases h with h | ⟨o, h⟩
    · exact .inl (k _ _ n h)
    · exact .inr ⟨o, k _ _ n h⟩
  · exact .inr h
theorem RdT.keep (h : RdT K B H a xs) (k : Keep B H H') : RdT K B H' a xs := by
  rcases h with ⟨n, h⟩ | h
  · refine .inl ⟨n, ?_⟩
    rcases h with h | ⟨o, h⟩
    · exact .inl (k _ _ n h)
    · exact .inr ⟨o, k _ _ n h⟩
  · exact .inr h
theorem rd_ne {o : HO} {p : Addr} (h : Rd H a o) (f : H p = none) : a ≠ p := by
  rcases h with h | ⟨_, h⟩
  · exact ne_of_none h f
  · exact ne_of_none h f
theorem RdL.grow {p : Addr} (h : RdL K B H a xs) (f : H p = none) : RdL K (p :: B) H a xs := by
  rcases h with ⟨n, h⟩ | h
  · exact .inl ⟨fun z => (List.mem_cons.mp z).elim (rd_ne h f) n, h⟩
  · exact .inr h
theorem RdT.grow {p : Addr} (h : RdT K B H a xs) (f : H p = none) : RdT K (p :: B) H a xs := by
  rcases h with ⟨n, h⟩ | h
  · exact .inl ⟨fun z => (List.mem_cons.mp z).elim (rd_ne h f) n, h⟩
  · exact .inr h
theorem RdL.less (h : RdL K B H a xs) (s : ∀ b, b ∈ B' → b ∈ B) : RdL K B' H a xs := by
  rcases h with ⟨n, h⟩ | h
  · exact .inl ⟨fun z => n (s _ z), h⟩
  · exact .inr h
theorem RdT.less (h : RdT K B H a xs) (s : ∀ b, b ∈ B' → b ∈ B) : RdT K B' H a xs := by
  rcases h with ⟨n, h⟩ | h
  · exact .inl ⟨fun z => n (s _ z), h⟩
  · exact .inr h
end

/-- a dict that is a datum: an empty one, or one with keys that are texts and ints -/
def DicO (o : HO) : Prop := o = .dT [] ∨ ∃ kv : List (L2.Key × V), o = .dK kv ∧ kv ≠ []
mutual
inductive Dv (K : PySem.W.Frag) (B : List Addr) (H : Hp) : V → PyData → Prop
  | non : Dv K B H .non .none
  | bl (b : Bool) : Dv K B H (.bl b) (.bool b)
  | int (i : Int) : Dv K B H (.int i) (.int i)
  | str (x : Str) : Dv K B H (.str x) (.str x)
  | lst {a : Addr} {xs : List V} {ds : List PyData} : RdL K B H a xs → DvAll K B H xs ds → Dv K B H (.ref a) (.list ds)
  | tup {a : Addr} {xs : List V} {ds : List PyData} : RdT K B H a xs → DvAll K B H xs ds → Dv K B H (.ref a) (.tuple ds)
  | dic {a : Addr} {o : HO} {es : List (PyData × PyData)} : DicO o → a ∉ B → H a = some o → Dv K B H (.ref a) (.dict es)
inductive DvAll (K : PySem.W.Frag) (B : List Addr) (H : Hp) : List V → List PyData → Prop
  | nil : DvAll K B H [] []
  | cons {v : V} {vs : List V} {d : PyData} {ds : List PyData} : Dv K B H v d → DvAll K B H vs ds → DvAll K B H (v :: vs) (d :: ds)
end
section
variable {K : PySem.W.Frag} {B B' : List Addr} {H H' H1 H2 : Hp}
mutual
theorem Dv.imp (f : ∀ a xs, RdL K B H a xs → RdL K B' H' a xs) (g : ∀ a xs, RdT K B H a xs → RdT K B' H' a xs) (k : ∀ a o, DicO o → a ∉ B → H a = some o → a ∉ B' ∧ H' a = some o) : ∀ (d : PyData) (v : V), Dv K B H v d → Dv K B' H' v d
  | .none, _, h => by cases h; exact .non
  | .bool _, _, h => by cases h; exact .bl _
  | .int _, _, h => by cases h; exact .int _
  | .str _, _, h => by cases h; exact .str _
  | .list ds, _, h => by
    cases h with
    | lst r a => exact .lst (f _ _ r) (DvAll.imp f g k ds _ a)
  | .tuple ds, _, h => by
    cases h with
    | tup r a => exact .tup (g _ _ r) (DvAll.imp f g k ds _ a)
  | .dict _, _, h => by
    cases h with
    | dic o n e => exact .dic o (k _ _ o n e).1 (k _ _ o n e).2
theorem DvAll.imp (f : ∀ a xs, RdL K B H a xs → RdL K B' H' a xs) (g : ∀ a xs, RdT K B H a xs → RdT K B' H' a xs) (k : ∀ a o, DicO o → a ∉ B → H a = some o → a ∉ B' ∧ H' a = some o) : ∀ (ds : List PyData) (vs : List V), DvAll K B H vs ds → DvAll K B' H' vs ds
  | [], _, h => by cases h; exact .nil
  | d :: ds, _, h => by
    cases h with
    | cons x y => exact .cons (Dv.imp f g k d _ x) (DvAll.imp f g k ds _ y)
end
mutual
theorem Dv.dp : ∀ (d : PyData) (v : V), PyData.hasDict d = false → Dv K B H v d → Dp K H v d
  | .none, _, _, h => by cases h; exact .non
  | .bool _, _, _, h => by cases h; exact .bl _
  | .int _, _, _, h => by cases h; exact .int _
  | .str _, _, _, h => by cases h; exact .str _
  | .list ds, _, n, h => by
    cases h with
    | lst r a => exact .lst r.sq (DvAll.dp ds _ (by simpa only [PyData.hasDict] using n) a)
  | .tuple ds, _, n, h => by
    cases h with
    | tup r a => exact .tup r.sq (DvAll.dp ds _ (by simpa only [PyData.hasDict] using n) a)
  | .dict _, _, n, _ => by simp only [PyData.hasDict] at n; cases n
theorem DvAll.dp : ∀ (ds : List PyData) (vs : List V), PyData.hasDictAll ds = false → DvAll K B H vs ds → DpAll K H vs ds
  | [], _, _, h => by cases h; exact .nil
  | d :: ds, _, n, h => by
    simp only [PyData.hasDictAll, Bool.or_eq_false_iff] at n
    cases h with
    | cons x y => exact .cons (Dv.dp d _ n.1 x) (DvAll.dp ds _ n.2 y)
end
mutual
theorem nd_lay : ∀ d : PD, d.canLay0 = true → PyData.hasDict d = false
  | .none, _ => rfl
  | .bool _, _ => rfl
  | .int _, _ => rfl
  | .str _, _ => rfl
  | .list ds, h => by
    simp only [PyData.hasDict]
    exact nd_layAll ds (by simpa only [PyData.canLay0] using h)
  | .tuple ds, h => by
    simp only [PyData.hasDict]
    exact nd_layAll ds (by simpa only [PyData.canLay0] using h)
  | .dict _, h => by
    simp only [PyData.canLay0] at h
    cases h
theorem nd_layAll : ∀ ds : List PD, PyData.canLayAll0 ds = true → PyData.hasDictAll ds = false
  | [], _ => rfl
  | d :: ds, h => by
    simp only [PyData.canLayAll0, Bool.and_eq_true] at h
    simp only [PyData.hasDictAll, nd_lay d h.1, nd_layAll ds h.2, Bool.or_self]
end
theorem nd_shaped {d : PD} (h : SeqAt.shaped d = true) : PyData.hasDict d = false := nd_lay d (SeqAt.canLay_of_shaped h)
theorem nd_shapedL {ds : List PD} (h : SeqAt.shaped (.list ds) = true) : PyData.hasDictAll ds = false := by
  have q := nd_shaped h
  simpa only [PyData.hasDict] using q
theorem Dv.keep {v : V} {d : PD} (h : Dv K B H v d) (k : Keep B H H') : Dv K B H' v d := Dv.imp (fun _ _ r => r.keep k) (fun _ _ r => r.keep k) (fun a o _ n e => ⟨n, k a o n e⟩) _ _ h
theorem DvAll.keep {v : List V} {d : List PD} (h : DvAll K B H v d) (k : Keep B H H') : DvAll K B H' v d := DvAll.imp (fun _ _ r => r.keep k) (fun _ _ r => r.keep k) (fun a o _ n e => ⟨n, k a o n e⟩) _ _ h
theorem Dv.grow {v : V} {d : PD} {p : Addr} (h : Dv K B H v d) (f : H p = none) : Dv K (p :: B) H v d := Dv.imp (fun _ _ r => r.grow f) (fun _ _ r => r.grow f) (fun a o _ n e => ⟨fun z => (List.mem_cons.mp z).elim (fun z => by rw [z, f] at e; cases e) n, e⟩) _ _ h
theorem DvAll.grow {v : List V} {d : List PD} {p : Addr} (h : DvAll K B H v d) (f : H p = none) : DvAll K (p :: B) H v d := DvAll.imp (fun _ _ r => r.grow f) (fun _ _ r => r.grow f) (fun a o _ n e => ⟨fun z => (List.mem_cons.mp z).elim (fun z => by rw [z, f] at e; cases e) n, e⟩) _ _ h
theorem Dv.less {v : V} {d : PD} (h : Dv K B H v d) (s : ∀ b, b ∈ B' → b ∈ B) : Dv K B' H v d := Dv.imp (fun _ _ r => r.less s) (fun _ _ r => r.less s) (fun a o _ n e => ⟨fun z => n (s _ z), e⟩) _ _ h
theorem DvAll.less {v : List V} {d : List PD} (h : DvAll K B H v d) (s : ∀ b, b ∈ B' → b ∈ B) : DvAll K B' H v d := DvAll.imp (fun _ _ r => r.less s) (fun _ _ r => r.less s) (fun a o _ n e => ⟨fun z => n (s _ z), e⟩) _ _ h
theorem DvAll.length : ∀ {vs : List V} {ds : List PD}, DvAll K B H vs ds → vs.length = ds.length
  | _, [], h => by cases h; rfl
  | _, d :: ds, h => by
    cases h with
    | cons x y => rw [List.length_cons, List.length_cons, DvAll.length y]
theorem DvAll.get : ∀ {ds : List PD} {vs : List V} {i : Nat} {d : PD}, DvAll K B H vs ds → ds[i]? = some d → ∃ v, vs[i]? = some v ∧ Dv K B H v d
  | [], _, _, _, _, e => by simp at e
  | _ :: _, _, 0, _, h, e => by
    cases h with
    | cons x y =>
      simp at e
      subst e
      exact ⟨_, rfl, x⟩
  | _ :: ds, _, i + 1, _, h, e => by
    cases h with
    | cons x y =>
      obtain ⟨v, h1, h2⟩ := DvAll.get (i := i) y (by simpa using e)
      exact ⟨v, by simpa using h1, h2⟩
theorem DvAll.vget : ∀ {ds : List PD} {vs : List V} {i : Nat} {v : V}, DvAll K B H vs ds → vs[i]? = some v → ∃ d, ds[i]? = some d ∧ Dv K B H v d
  | [], _, _, _, h, e => by cases h; simp at e
  | _ :: _, _, 0, _, h, e => by
    cases h with
    | cons x y =>
      simp at e
      subst e
      exact ⟨_, rfl, x⟩
  | _ :: ds, _, i + 1, _, h, e => by
    cases h with
    | cons x y =>
      obtain ⟨v, h1, h2⟩ := DvAll.vget (i := i) y (by simpa using e)
      exact ⟨v, by simpa using h1, h2⟩
theorem DvAll.app : ∀ {ds es : List PD} {vs us : List V}, DvAll K B H vs ds → DvAll K B H us es → DvAll K B H (vs ++ us) (ds ++ es)
  | [], _, _, _, h, g => by cases h; exact g
  | _ :: ds, _, _, _, h, g => by
    cases h with
    | cons x y => exact .cons x (DvAll.app y g)
theorem DvAll.set : ∀ {ds : List PD} {vs : List V} (i : Nat) {v : V} {d : PD}, DvAll K B H vs ds → Dv K B H v d → DvAll K B H (vs.set i v) (ds.set i d)
  | [], _, _, _, _, h, _ => by cases h; exact .nil
  | _ :: ds, _, 0, _, _, h, g => by
    cases h with
    | cons x y => exact .cons g y
  | _ :: ds, _, i + 1, _, _, h, g => by
    cases h with
    | cons x y => exact .cons x (DvAll.set i y g)
theorem DvAll.ints : ∀ {ns : List Int} {vs : List V}, DvAll K B H vs (ns.map PyData.int) → vs = ns.map V.int
  | [], _, h => by cases h; rfl
  | n :: ns, _, h => by
    cases h with
    | cons x y =>
      cases x
      rw [DvAll.ints y]
      rfl
theorem DvAll.bools : ∀ {ns : List Bool} {vs : List V}, DvAll K B H vs (ns.map PyData.bool) → vs = ns.map V.bl
  | [], _, h => by cases h; rfl
  | n :: ns, _, h => by
    cases h with
    | cons x y =>
      cases x
      rw [DvAll.bools y]
      rfl
theorem DvAll.of_ints : ∀ (ns : List Int), DvAll K B H (ns.map V.int) (ns.map PyData.int)
  | [] => .nil
  | n :: ns => .cons (.int n) (DvAll.of_ints ns)
end

/-! ### slots and the state -/
/-- a thing of its own kind that stays as it is -/
structure Ob where
  R : PySem.W.Frag → List Addr → Hp → V → Prop
  keep : ∀ {K : PySem.W.Frag} {B : List Addr} {H H' : Hp} {v : V}, R K B H v → Keep B H H' → R K B H' v
  grow : ∀ {K : PySem.W.Frag} {B : List Addr} {H : Hp} {v : V} {p : Addr}, R K B H v → H p = none → R K (p :: B) H v
  less : ∀ {K : PySem.W.Frag} {B B' : List Addr} {H : Hp} {v : V}, R K B H v → (∀ b, b ∈ B' → b ∈ B) → R K B' H v
inductive SV where
  | d (x : PD)
  | v (x : V)
  | o (x : Ob)
def SvOk (K : PySem.W.Frag) (B : List Addr) (H : Hp) (v : V) : SV → Prop
  | .d x => Dv K B H v x
  | .v x => v = x
  | .o x => x.R K B H v
section
variable {K : PySem.W.Frag} {B B' : List Addr} {H H' H1 H2 : Hp} {v : V} {sv : SV}
theorem SvOk.keep (h : SvOk K B H v sv) (k : Keep B H H') : SvOk K B H' v sv := by
  cases sv with
  | d x => exact Dv.keep h k
  | v x => exact h
  | o x => exact x.keep h k
theorem SvOk.grow {p : Addr} (h : SvOk K B H v sv) (f : H p = none) : SvOk K (p :: B) H v sv := by
  cases sv with
  | d x => exact Dv.grow h f
  | v x => exact h
  | o x => exact x.grow h f
theorem SvOk.less (h : SvOk K B H v sv) (s : ∀ b, b ∈ B' → b ∈ B) : SvOk K B' H v sv := by
  cases sv with
  | d x => exact Dv.less h s
  | v x => exact h
  | o x => exact x.less h s
end
abbrev Dl := List (Option SV)
def Sl (K : PySem.W.Frag) (B : List Addr) (H : Hp) (σ : L2.St) (δ : Dl) : Prop := σ.length = δ.length ∧ ∀ (i : Nat) (sv : SV), δ[i]? = some (some sv) → ∃ v, σ[i]? = some (some v) ∧ SvOk K B H v sv
section
variable {K : PySem.W.Frag} {B B' : List Addr} {H H' H1 H2 : Hp} {σ : L2.St} {δ : Dl}
theorem Sl.keep (h : Sl K B H σ δ) (k : Keep B H H') : Sl K B H' σ δ := ⟨h.1, fun i sv e => let ⟨v, a, b⟩ := h.2 i sv e; ⟨v, a, b.keep k⟩⟩
theorem Sl.grow {p : Addr} (h : Sl K B H σ δ) (f : H p = none) : Sl K (p :: B) H σ δ := ⟨h.1, fun i sv e => let ⟨v, a, b⟩ := h.2 i sv e; ⟨v, a, b.grow f⟩⟩
theorem Sl.less (h : Sl K B H σ δ) (s : ∀ b, b ∈ B' → b ∈ B) : Sl K B' H σ δ := ⟨h.1, fun i sv e => let ⟨v, a, b⟩ := h.2 i sv e; ⟨v, a, b.less s⟩⟩
theorem Sl.set {v : V} {sv : SV} {j : Nat} (h : Sl K B H σ δ) (g : SvOk K B H v sv) : Sl K B H (σ.set j (some v)) (δ.set j (some sv)) := by
  refine ⟨by rw [List.length_set, List.length_set]; exact h.1, fun i w e => ?_⟩
  by_cases hj : j = i
  · subst hj
    by_cases hl : j < δ.length
    · rw [List.getElem?_set_self hl] at e
      cases e
      exact ⟨v, List.getElem?_set_self (by rw [h.1]; exact hl), g⟩
    · rw [List.getElem?_eq_none (by rw [List.length_set]; omega)] at e
      cases e
  · rw [List.getElem?_set_ne hj] at e
    rw [List.getElem?_set_ne hj]
    exact h.2 i w e
theorem Sl.drop {j : Nat} (h : Sl K B H σ δ) : Sl K B H (σ.set j none) (δ.set j none) := by
  refine ⟨by rw [List.length_set, List.length_set]; exact h.1, fun i w e => ?_⟩
  by_cases hj : j = i
  · subst hj
    by_cases hl : j < δ.length
    · rw [List.getElem?_set_self hl] at e
      cases e
    · rw [List.getElem?_eq_none (by rw [List.length_set]; omega)] at e
      cases e
  · rw [List.getElem?_set_ne hj] at e
    rw [List.getElem?_set_ne hj]
    exact h.2 i w e
def wipeD (δ : Dl) : List Nat → Dl
  | [] => δ
  | v :: vs => (wipeD δ vs).set v none
theorem Sl.wipe (h : Sl K B H σ δ) : ∀ vs : List Nat, Sl K B H (L2.wipe σ vs) (wipeD δ vs)
  | [] => h
  | v :: vs => Sl.drop (Sl.wipe h vs)
end

/-- the purse of draws: what is left to be cut off, the seed, how many were drawn -/
def PotAt (p : Addr) (n : Nat) (H : Hp) : Prop := ∃ a b c : Int, H p = some (.lst [.int a, .int b, .int c]) ∧ (0 ≤ a ∧ a.natAbs < 2 ^ 1000) ∧ (0 ≤ b ∧ b < 2305843009213693951) ∧ 0 ≤ c ∧ c ≤ n
/-- a thing that may change: what is known of what stands at its address -/
structure Vo where
  R : PySem.W.Frag → List Addr → Hp → HO → Prop
  keep : ∀ {K : PySem.W.Frag} {B : List Addr} {H H' : Hp} {o : HO}, R K B H o → Keep B H H' → R K B H' o
  grow : ∀ {K : PySem.W.Frag} {B : List Addr} {H : Hp} {o : HO} {p : Addr}, R K B H o → H p = none → R K (p :: B) H o
  less : ∀ {K : PySem.W.Frag} {B B' : List Addr} {H : Hp} {o : HO}, R K B H o → (∀ b, b ∈ B' → b ∈ B) → R K B' H o
  off : ∀ {K : PySem.W.Frag} {B : List Addr} {H : Hp} {o o' : HO} {p : Addr}, R K B H o → p ∉ B → H p = some (.dK []) → R K B (upd H p o') o
/-- a list that is filled, or another thing that changes -/
inductive Cont where
  | lst (ds : List PD)
  | vo (x : Vo)
instance : Coe (List PD) Cont := ⟨Cont.lst⟩
abbrev Ls := List (Addr × Cont)
/-- the purse in hand; what others hold that may change behind the end -/
structure Ct where
  P : Option Addr
  W : List Addr
def Bs (C : Ct) (L : Ls) : List Addr := L.map (·.1) ++ C.P.toList
def Bd (C : Ct) (L : Ls) : List Addr := Bs C L ++ C.W
theorem bs_bd {C : Ct} {L : Ls} : ∀ b, b ∈ Bs C L → b ∈ Bd C L := fun _ h => List.mem_append_left _ h
structure Hold (K : PySem.W.Frag) (C : Ct) (L : Ls) (n : Nat) (H : Hp) : Prop where
  pot : ∀ p, C.P = some p → PotAt p n H
  ls : ∀ (a : Addr) (ds : List PD), (a, Cont.lst ds) ∈ L → ∃ xs, H a = some (.lst xs) ∧ DvAll K (Bd C L) H xs ds
  vs : ∀ (a : Addr) (x : Vo), (a, Cont.vo x) ∈ L → ∃ o, H a = some o ∧ x.R K (Bd C L) H o
  nd : (Bs C L).Nodup
  wk : ∀ b, b ∈ C.W → H b ≠ none
  dj : ∀ x, x ∈ L → x.1 ∉ C.W
section
variable {K : PySem.W.Frag} {C : Ct} {L : Ls} {n m : Nat} {H H' : Hp}
theorem PotAt.mono {p : Addr} (h : PotAt p n H) (l : n ≤ m) : PotAt p m H := by
  obtain ⟨a, b, c, h1, h2, h3, h4, h5⟩ := h
  exact ⟨a, b, c, h1, h2, h3, h4, by omega⟩
theorem Hold.mono (h : Hold K C L n H) (l : n ≤ m) : Hold K C L m H := ⟨fun p e => (h.pot p e).mono l, h.ls, h.vs, h.nd, h.wk, h.dj⟩
theorem same_some {b : Addr} (s : Same H H') (h : H b ≠ none) : H' b ≠ none := by
  cases e : H b with
  | none => exact absurd e h
  | some o =>
    rw [s b o e]
    simp
theorem Hold.same (h : Hold K C L n H) (s : Same H H') : Hold K C L n H' := by
  refine ⟨fun p e => ?_, fun a ds m => ?_, fun a x m => ?_, h.nd, fun b hb => same_some s (h.wk b hb), h.dj⟩
  · obtain ⟨a, b, c, h1, h2⟩ := h.pot p e
    exact ⟨a, b, c, s _ _ h1, h2⟩
  · obtain ⟨xs, h1, h2⟩ := h.ls a ds m
    exact ⟨xs, s _ _ h1, h2.keep (.same s)⟩
  · obtain ⟨o, h1, h2⟩ := h.vs a x m
    exact ⟨o, s _ _ h1, x.keep h2 (.same s)⟩
/-- all volatile addresses are known -/
theorem Hold.known (h : Hold K C L n H) {b : Addr} (hb : b ∈ Bd C L) : H b ≠ none := by
  rcases List.mem_append.mp hb with q | q
  · rcases List.mem_append.mp q with q | q
    · obtain ⟨⟨a, ds⟩, hm, rfl⟩ := List.mem_map.mp q
      show H a ≠ none
      cases ds with
      | lst ds =>
        obtain ⟨xs, h1, _⟩ := h.ls a ds hm
        rw [h1]
        simp
      | vo x =>
        obtain ⟨o, h1, _⟩ := h.vs a x hm
        rw [h1]
        simp
    · have e : C.P = some b := by simpa using q
      obtain ⟨_, _, _, h1, _⟩ := h.pot b e
      rw [h1]
      simp
  · exact h.wk b q
theorem Hold.fresh (h : Hold K C L n H) {p : Addr} (f : H p = none) : p ∉ Bd C L := fun z => h.known z f
end
/-- what stands at the address of one of L -/
def ContOk (K : PySem.W.Frag) (B : List Addr) (H : Hp) (o : HO) : Cont → Prop
  | .lst ds => ∃ xs, o = .lst xs ∧ DvAll K B H xs ds
  | .vo x => x.R K B H o
section
variable {K : PySem.W.Frag} {B B' : List Addr} {C : Ct} {L : Ls} {n : Nat} {H H' : Hp} {o : HO} {c : Cont}
theorem ContOk.keep (h : ContOk K B H o c) (k : Keep B H H') : ContOk K B H' o c := by
  cases c with
  | lst ds =>
    obtain ⟨xs, e, g⟩ := h
    exact ⟨xs, e, g.keep k⟩
  | vo x => exact x.keep h k
theorem ContOk.grow {p : Addr} (h : ContOk K B H o c) (f : H p = none) : ContOk K (p :: B) H o c := by
  cases c with
  | lst ds =>
    obtain ⟨xs, e, g⟩ := h
    exact ⟨xs, e, g.grow f⟩
  | vo x => exact x.grow h f
theorem ContOk.less (h : ContOk K B H o c) (s : ∀ b, b ∈ B' → b ∈ B) : ContOk K B' H o c := by
  cases c with
  | lst ds =>
    obtain ⟨xs, e, g⟩ := h
    exact ⟨xs, e, g.less s⟩
  | vo x => exact x.less h s
theorem Hold.ct (h : Hold K C L n H) {a : Addr} {c : Cont} (m : (a, c) ∈ L) : ∃ o, H a = some o ∧ ContOk K (Bd C L) H o c := by
  cases c with
  | lst ds =>
    obtain ⟨xs, h1, h2⟩ := h.ls a ds m
    exact ⟨_, h1, xs, rfl, h2⟩
  | vo x => exact h.vs a x m
theorem Hold.of (pot : ∀ p, C.P = some p → PotAt p n H) (ct : ∀ (a : Addr) (c : Cont), (a, c) ∈ L → ∃ o, H a = some o ∧ ContOk K (Bd C L) H o c) (nd : (Bs C L).Nodup) (wk : ∀ b, b ∈ C.W → H b ≠ none) (dj : ∀ x, x ∈ L → x.1 ∉ C.W) : Hold K C L n H :=
  ⟨pot, fun a ds m => by
    obtain ⟨o, h1, xs, e, h2⟩ := ct a _ m
    subst e
    exact ⟨xs, h1, h2⟩, fun a x m => ct a _ m, nd, wk, dj⟩
end
theorem same_new {H : Hp} {p : Addr} {o : HO} (h : H p = none) : Same H (upd H p o) := fun b x e => by
  rw [upd_ne (ne_of_none e h)]
  exact e

/-! ### readings by data -/
section
variable {X : Cx}
theorem PE.imp {e : Expr} {t t' : TE} (h : PE X e t) (f : ∀ σ H Q, t' σ H Q → t σ H Q) : PE X e t' := ⟨fun pins s σ H Q I q => h.run pins s σ H Q I (f σ H Q q)⟩
theorem PT.imp {e : Expr} {t t' : TT} (h : PT X e t) (f : ∀ σ H Q, t' σ H Q → t σ H Q) : PT X e t' := ⟨fun pins s σ H Q I q => h.run pins s σ H Q I (f σ H Q q)⟩
theorem PW.imp {e : Expr} {t t' : TT} (h : PW X e t) (f : ∀ σ H Q, t' σ H Q → t σ H Q) : PW X e t' := ⟨fun wh pins s σ H Q I q => h.run wh pins s σ H Q I (f σ H Q q)⟩
theorem PA.imp {es : List Expr} {t t' : TA} (h : PA X es t) (f : ∀ σ H Q, t' σ H Q → t σ H Q) : PA X es t' := ⟨fun pos pins s σ H Q I q => h.run pos pins s σ H Q I (f σ H Q q)⟩
theorem PS.imp {st : Stmt} {t t' : TS} (h : PS X st t) (f : ∀ D σ H, t' D σ H → t D σ H) : PS X st t' := ⟨fun pins s σ H D I q => h.run pins s σ H D I (f D σ H q)⟩
theorem PSs.imp {st : List Stmt} {t t' : TS} (h : PSs X st t) (f : ∀ D σ H, t' D σ H → t D σ H) : PSs X st t' := ⟨fun pins s σ H D I q => h.run pins s σ H D I (f D σ H q)⟩
end

/-- where an expression stands -/
structure At (K : PySem.W.Frag) (C : Ct) (L : Ls) (δ : Dl) (n : Nat) (σ : L2.St) (H : Hp) : Prop where
  sl : Sl K (Bd C L) H σ δ
  hold : Hold K C L n H
def tOf (K : PySem.W.Frag) (C : Ct) (L : Ls) (δ : Dl) (n m : Nat) (R : SV → Prop) : TE := fun σ H Q => At K C L δ n σ H ∧
  ∀ v H2 sv, Keep (Bs C L) H H2 → Hold K C L m H2 → R sv → SvOk K (Bd C L) H2 v sv → Q v H2
def tTs (K : PySem.W.Frag) (C : Ct) (L : Ls) (δ : Dl) (n m : Nat) (b : Bool) : TT := fun σ H Q => At K C L δ n σ H ∧
  ∀ H2, Keep (Bs C L) H H2 → Hold K C L m H2 → Q b H2
inductive SvAll (K : PySem.W.Frag) (B : List Addr) (H : Hp) : List V → List SV → Prop
  | nil : SvAll K B H [] []
  | cons {v vs d ds} : SvOk K B H v d → SvAll K B H vs ds → SvAll K B H (v :: vs) (d :: ds)
theorem SvAll.keep {K : PySem.W.Frag} {B : List Addr} {H H' : Hp} : ∀ {ds : List SV} {vs : List V}, SvAll K B H vs ds → Keep B H H' → SvAll K B H' vs ds
  | [], _, h, _ => by cases h; exact .nil
  | _ :: ds, _, h, k => by
    cases h with
    | cons x y => exact .cons (x.keep k) (SvAll.keep y k)
theorem SvAll.data {K : PySem.W.Frag} {B : List Addr} {H : Hp} : ∀ {ds : List PD} {vs : List V}, SvAll K B H vs (ds.map SV.d) → DvAll K B H vs ds
  | [], _, h => by cases h; exact .nil
  | _ :: ds, _, h => by
    cases h with
    | cons x y => exact .cons x (SvAll.data y)
def tAr (K : PySem.W.Frag) (C : Ct) (L : Ls) (δ : Dl) (n m : Nat) (R : List SV → Prop) : TA := fun σ H Q => At K C L δ n σ H ∧
  ∀ vs H2 svs, Keep (Bs C L) H H2 → Hold K C L m H2 → R svs → SvAll K (Bd C L) H2 vs svs → Q vs H2
abbrev E (X : Cx) (C : Ct) (L : Ls) (δ : Dl) (e : Expr) (n m : Nat) (R : SV → Prop) : Prop := PE X e (tOf X.K C L δ n m R)
abbrev Ed (X : Cx) (C : Ct) (L : Ls) (δ : Dl) (e : Expr) (n m : Nat) (d : PD) : Prop := PE X e (tOf X.K C L δ n m (Eq (SV.d d)))
abbrev Ev (X : Cx) (C : Ct) (L : Ls) (δ : Dl) (e : Expr) (n m : Nat) (d : V) : Prop := PE X e (tOf X.K C L δ n m (Eq (SV.v d)))
abbrev T (X : Cx) (C : Ct) (L : Ls) (δ : Dl) (e : Expr) (n m : Nat) (b : Bool) : Prop := PT X e (tTs X.K C L δ n m b)
abbrev Tw (X : Cx) (C : Ct) (L : Ls) (δ : Dl) (e : Expr) (n m : Nat) (b : Bool) : Prop := PW X e (tTs X.K C L δ n m b)
abbrev Ar (X : Cx) (C : Ct) (L : Ls) (δ : Dl) (es : List Expr) (n m : Nat) (R : List SV → Prop) : Prop := PA X es (tAr X.K C L δ n m R)
abbrev Ad (X : Cx) (C : Ct) (L : Ls) (δ : Dl) (es : List Expr) (n m : Nat) (ds : List SV) : Prop := PA X es (tAr X.K C L δ n m (Eq ds))
abbrev Dd (X : Cx) (C : Ct) (L : Ls) (δ : Dl) (es : List Expr) (n m : Nat) (ds : List PD) : Prop := PA X es (tAr X.K C L δ n m (Eq (ds.map SV.d)))
section
variable {K : PySem.W.Frag} {C : Ct} {L : Ls} {δ : Dl} {n m : Nat} {σ : L2.St} {H H' : Hp}
theorem At.go (h : At K C L δ n σ H) (k : Keep (Bs C L) H H') (g : Hold K C L m H') : At K C L δ m σ H' := ⟨h.sl.keep (k.wider bs_bd), g⟩
theorem At.same (h : At K C L δ n σ H) (s : Same H H') : At K C L δ n σ H' := ⟨h.sl.keep (.same s), h.hold.same s⟩
end
end Wk
namespace Wk
open PySem PySem.Spec PyProof.Rows L2
section
variable {X : Cx} {C : Ct} {L : Ls} {δ : Dl} {n m k l : Nat} {a b c e f : Expr} {es : List Expr} {pos p : Pos} {da db dc d : PD} {x : Str}

/-! ### atoms -/
theorem e_var (i : Nat) {sv : SV} (hd : δ[i]? = some (some sv) := by rfl) (hN : X.N[i]? = some x := by rfl) (hv : Vis X.env.scope x := by first | exact Or.inl rfl | exact Or.inr (Or.inl rfl) | exact Or.inr (Or.inr rfl))
    (hb : (x == ("__debug__" : Str)) = false := by decide) (hcd : (x == ("__classdict__" : Str)) = false := by decide) : E X C L δ (.Name x pos) n n (Eq sv) :=
  PE.imp (pe_var (i := i) hN hv hb hcd) fun σ H Q ⟨t, q⟩ => by
    obtain ⟨v, h1, h2⟩ := t.sl.2 i sv hd
    exact ⟨v, h1, q v H sv (.refl _ _) t.hold rfl h2⟩
theorem e_const {e : Expr} {v : V} (h : PE X e (tC v)) (hd : ∀ H, Dv X.K (Bd C L) H v d) : Ed X C L δ e n n d := PE.imp h fun σ H Q ⟨t, q⟩ => q v H _ (.refl _ _) t.hold rfl (hd H)
theorem e_int {i : Int} {j : Nat} : Ed X C L δ (.Constant (.int i) j pos) n n (.int i) := e_const pe_int fun _ => .int i
theorem e_bl {i : Bool} {j : Nat} : Ed X C L δ (.Constant (.bool i) j pos) n n (.bool i) := e_const pe_bl fun _ => .bl i
theorem e_non {j : Nat} : Ed X C L δ (.Constant .none j pos) n n .none := e_const pe_non fun _ => .non
theorem e_str {i : Str} {j : Nat} : Ed X C L δ (.Constant (.str i) j pos) n n (.str i) := e_const pe_str fun _ => .str i
theorem e_mono {R : SV → Prop} (h : E X C L δ e n m R) (l : m ≤ k) : E X C L δ e n k R := PE.imp h fun σ H Q ⟨t, q⟩ => ⟨t, fun v H2 sv a b r s => q v H2 sv a (b.mono l) r s⟩
theorem e_imp {R R' : SV → Prop} (h : E X C L δ e n m R) (g : ∀ sv, R sv → R' sv) : E X C L δ e n m R' := PE.imp h fun σ H Q ⟨t, q⟩ => ⟨t, fun v H2 sv a b r s => q v H2 sv a b (g sv r) s⟩
theorem e_eq (h : Ed X C L δ e n m d) (g : d = da) : Ed X C L δ e n m da := g ▸ h
/-- a module's constant -/
theorem e_glob {v : V} {u : Value} (hm : X.mg x = some u) (r : RelV v u) (hd : ∀ B H, Dv X.K B H v d) (hg : Gl X x := by rfl) (hb : (x == ("__debug__" : Str)) = false := by decide) : Ed X C L δ (.Name x pos) n n d :=
  e_const (pe_glob hg hm r (hd := hb)) fun H => hd _ H

theorem e_globV {v : V} {u : Value} (hm : X.mg x = some u) (r : RelV v u) (hg : Gl X x := by rfl) (hb : (x == ("__debug__" : Str)) = false := by decide) : Ev X C L δ (.Name x pos) n n v :=
  PE.imp (pe_glob hg hm r (hd := hb)) fun σ H Q ⟨t, q⟩ => q v H _ (.refl _ _) t.hold rfl rfl
/-! ### operations by values -/
def V2 (K : PySem.W.Frag) (C : Ct) (L : Ls) (n : Nat) (r : R2) (da db d : PD) : Prop := ∀ x y H (Q : VK), Hold K C L n H → Dv K (Bd C L) H x da → Dv K (Bd C L) H y db → (∀ v H2, Same H H2 → Dv K (Bd C L) H2 v d → Q v H2) → r x y H Q
theorem e_op {op : Operator} {r : R2} (ho : OpR X (binaryOp op) r) (hr : V2 X.K C L k r da db d) (ha : Ed X C L δ a n m da) (hb : Ed X C L δ b m k db) : Ed X C L δ (.BinOp a op b pos) n k d :=
  PE.imp (pe_op ho ha hb) fun σ H Q ⟨t, q⟩ => ⟨t, fun v H2 sv k1 h1 e1 s1 => ⟨t.go k1 h1, fun u H3 su k2 h2 e2 s2 => by
    subst e1 e2
    exact hr v u H3 Q h2 (Dv.keep s1 (k2.wider bs_bd)) s2 fun z H4 s z' => q z H4 _ (k1.trans (k2.trans (.same s))) (h2.same s) rfl z'⟩⟩
theorem e_cmp {op : CmpOp} {r : R2} (ho : OpR X (compareOp op) r) (hr : V2 X.K C L k r da db d) (hm : behindInMarks op b = false) (ha : Ed X C L δ a n m da) (hb : Ed X C L δ b m k db) : Ed X C L δ (.Compare a [op] [b] pos) n k d :=
  PE.imp (pe_cmpR ho ha hb hm) fun σ H Q ⟨t, q⟩ => ⟨t, fun v H2 sv k1 h1 e1 s1 => ⟨t.go k1 h1, fun u H3 su k2 h2 e2 s2 => by
    subst e1 e2
    exact hr v u H3 Q h2 (Dv.keep s1 (k2.wider bs_bd)) s2 fun z H4 s z' => q z H4 _ (k1.trans (k2.trans (.same s))) (h2.same s) rfl z'⟩⟩
theorem t_cmp {op : CmpOp} {r : R2} {o : Bool} (ho : OpR X (compareOp op) r) (hr : V2 X.K C L k r da db (.bool o)) (hm : behindInMarks op b = false) (ha : Ed X C L δ a n m da) (hb : Ed X C L δ b m k db) : T X C L δ (.Compare a [op] [b] pos) n k o :=
  PT.imp (pt_cmpR ho ha hb hm) fun σ H Q ⟨t, q⟩ => ⟨t, fun v H2 sv k1 h1 e1 s1 => ⟨t.go k1 h1, fun u H3 su k2 h2 e2 s2 => by
    subst e1 e2
    refine hr v u H3 _ h2 (Dv.keep s1 (k2.wider bs_bd)) s2 fun z H4 s z' => ?_
    cases z'
    exact ⟨o, rfl, q H4 (k1.trans (k2.trans (.same s))) (h2.same s)⟩⟩⟩
theorem v_I0 {K : PySem.W.Frag} {g : Int → Int → V} {i j : Int} (hg : ∀ B H, Dv K B H (g i j) d) : V2 K C L n (rI0 g) (.int i) (.int j) d := fun x y H Q h hx hy q => by
  cases hx; cases hy
  exact ⟨i, j, rfl, rfl, q _ H (.refl H) (hg _ _)⟩
theorem v_I {K : PySem.W.Frag} {g : Int → Int → V} {i j : Int} {Cc : Int → Int → Prop} (hc : Cc i j) (hg : ∀ B H, Dv K B H (g i j) d) : V2 K C L n (rI Cc g) (.int i) (.int j) d := fun x y H Q h hx hy q => by
  cases hx; cases hy
  exact ⟨i, j, rfl, rfl, hc, q _ H (.refl H) (hg _ _)⟩
section
variable {i j : Int}
theorem e_add (ha : Ed X C L δ a n m (.int i)) (hb : Ed X C L δ b m k (.int j)) : Ed X C L δ (.BinOp a .Add b pos) n k (.int (i + j)) := e_op op_add (v_I0 fun _ _ => .int _) ha hb
theorem e_sub (ha : Ed X C L δ a n m (.int i)) (hb : Ed X C L δ b m k (.int j)) : Ed X C L δ (.BinOp a .Sub b pos) n k (.int (i - j)) := e_op op_sub (v_I0 fun _ _ => .int _) ha hb
theorem e_mul (hc : CMulW i j) (ha : Ed X C L δ a n m (.int i)) (hb : Ed X C L δ b m k (.int j)) : Ed X C L δ (.BinOp a .Mult b pos) n k (.int (i * j)) := e_op op_mulW (v_I hc fun _ _ => .int _) ha hb
theorem e_mod (hc : 0 < j) (ha : Ed X C L δ a n m (.int i)) (hb : Ed X C L δ b m k (.int j)) : Ed X C L δ (.BinOp a .Mod b pos) n k (.int (i % j)) := e_op op_mod (v_I hc fun _ _ => .int _) ha hb
theorem e_div (hc : CDivW i j) (ha : Ed X C L δ a n m (.int i)) (hb : Ed X C L δ b m k (.int j)) : Ed X C L δ (.BinOp a .FloorDiv b pos) n k (.int (i / j)) := e_op op_fdivW (v_I hc fun _ _ => .int _) ha hb
def CPowW (i j : Int) : Prop := 0 ≤ j ∧ (Builtin.Int.intBits i : Int) * j ≤ 2 ^ 27
instance {i j : Int} : Decidable (CPowW i j) := by
  unfold CPowW
  infer_instance
theorem op_powW : OpR X (binaryOp .Pow) (rI CPowW fun i j => .int (i ^ j.toNat)) := opI fun _ _ _ _ _ _ _ hc q => pow_int hc.1 hc.2 q
theorem e_pow (hc : CPowW i j) (ha : Ed X C L δ a n m (.int i)) (hb : Ed X C L δ b m k (.int j)) : Ed X C L δ (.BinOp a .Pow b pos) n k (.int (i ^ j.toNat)) := e_op op_powW (v_I hc fun _ _ => .int _) ha hb
theorem e_lt (ha : Ed X C L δ a n m (.int i)) (hb : Ed X C L δ b m k (.int j)) : Ed X C L δ (.Compare a [.Lt] [b] pos) n k (.bool (decide (i < j))) := e_cmp op_lt (v_I0 fun _ _ => .bl _) (nomark _) ha hb
theorem e_le (ha : Ed X C L δ a n m (.int i)) (hb : Ed X C L δ b m k (.int j)) : Ed X C L δ (.Compare a [.LtE] [b] pos) n k (.bool (decide (i ≤ j))) := e_cmp op_le (v_I0 fun _ _ => .bl _) (nomark _) ha hb
theorem e_gt (ha : Ed X C L δ a n m (.int i)) (hb : Ed X C L δ b m k (.int j)) : Ed X C L δ (.Compare a [.Gt] [b] pos) n k (.bool (decide (j < i))) := e_cmp op_gt (v_I0 fun _ _ => .bl _) (nomark _) ha hb
theorem e_ge (ha : Ed X C L δ a n m (.int i)) (hb : Ed X C L δ b m k (.int j)) : Ed X C L δ (.Compare a [.GtE] [b] pos) n k (.bool (decide (j ≤ i))) := e_cmp op_ge (v_I0 fun _ _ => .bl _) (nomark _) ha hb
theorem t_lt (ha : Ed X C L δ a n m (.int i)) (hb : Ed X C L δ b m k (.int j)) : T X C L δ (.Compare a [.Lt] [b] pos) n k (decide (i < j)) := t_cmp op_lt (v_I0 fun _ _ => .bl _) (nomark _) ha hb
theorem t_le (ha : Ed X C L δ a n m (.int i)) (hb : Ed X C L δ b m k (.int j)) : T X C L δ (.Compare a [.LtE] [b] pos) n k (decide (i ≤ j)) := t_cmp op_le (v_I0 fun _ _ => .bl _) (nomark _) ha hb
theorem t_gt (ha : Ed X C L δ a n m (.int i)) (hb : Ed X C L δ b m k (.int j)) : T X C L δ (.Compare a [.Gt] [b] pos) n k (decide (j < i)) := t_cmp op_gt (v_I0 fun _ _ => .bl _) (nomark _) ha hb
theorem t_ge (ha : Ed X C L δ a n m (.int i)) (hb : Ed X C L δ b m k (.int j)) : T X C L δ (.Compare a [.GtE] [b] pos) n k (decide (j ≤ i)) := t_cmp op_ge (v_I0 fun _ _ => .bl _) (nomark _) ha hb
end
/-! == and != of data -/
theorem v_eqD {K : PySem.W.Frag} (s1 : SeqAt.shaped da = true) (s2 : SeqAt.shaped db = true) : V2 K C L n (rEqD K) da db (.bool (PyData.eqv da db)) := fun x y H Q h hx hy q => ⟨da, db, Dv.dp _ _ (nd_shaped s1) hx, Dv.dp _ _ (nd_shaped s2) hy, s1, s2, q _ H (.refl H) (.bl _)⟩
theorem v_neD {K : PySem.W.Frag} (s1 : SeqAt.shaped da = true) (s2 : SeqAt.shaped db = true) : V2 K C L n (rNeD K) da db (.bool (!PyData.eqv da db)) := fun x y H Q h hx hy q => ⟨da, db, Dv.dp _ _ (nd_shaped s1) hx, Dv.dp _ _ (nd_shaped s2) hy, s1, s2, q _ H (.refl H) (.bl _)⟩
theorem e_eqD {r : Nat} (hr : Room r X.A) (s1 : SeqAt.shaped da = true) (s2 : SeqAt.shaped db = true) (ha : Ed X C L δ a n m da) (hb : Ed X C L δ b m k db) : Ed X C L δ (.Compare a [.Eq] [b] pos) n k (.bool (PyData.eqv da db)) := e_cmp (op_eqD hr.units) (v_eqD s1 s2) (nomark _) ha hb
theorem e_neD {r : Nat} (hr : Room r X.A) (s1 : SeqAt.shaped da = true) (s2 : SeqAt.shaped db = true) (ha : Ed X C L δ a n m da) (hb : Ed X C L δ b m k db) : Ed X C L δ (.Compare a [.NotEq] [b] pos) n k (.bool (!PyData.eqv da db)) := e_cmp (op_neD hr.units) (v_neD s1 s2) (nomark _) ha hb
theorem t_eqD {r : Nat} (hr : Room r X.A) (s1 : SeqAt.shaped da = true) (s2 : SeqAt.shaped db = true) (ha : Ed X C L δ a n m da) (hb : Ed X C L δ b m k db) : T X C L δ (.Compare a [.Eq] [b] pos) n k (PyData.eqv da db) := t_cmp (op_eqD hr.units) (v_eqD s1 s2) (nomark _) ha hb
theorem t_neD {r : Nat} (hr : Room r X.A) (s1 : SeqAt.shaped da = true) (s2 : SeqAt.shaped db = true) (ha : Ed X C L δ a n m da) (hb : Ed X C L δ b m k db) : T X C L δ (.Compare a [.NotEq] [b] pos) n k (!PyData.eqv da db) := t_cmp (op_neD hr.units) (v_neD s1 s2) (nomark _) ha hb
/-! of flat things: ints, bools, texts, None -/
theorem v_eqI {K : PySem.W.Frag} {i j : Int} : V2 K C L n rEq (.int i) (.int j) (.bool (decide (i = j))) := fun x y H Q h hx hy q => by
  cases hx; cases hy
  refine ⟨rfl, q _ H (.refl H) ?_⟩
  rw [show decide (V.int i = V.int j) = decide (i = j) by by_cases e : i = j <;> simp [e]]
  exact .bl _
theorem v_neI {K : PySem.W.Frag} {i j : Int} : V2 K C L n rNe (.int i) (.int j) (.bool (!decide (i = j))) := fun x y H Q h hx hy q => by
  cases hx; cases hy
  refine ⟨rfl, q _ H (.refl H) ?_⟩
  rw [show decide (V.int i = V.int j) = decide (i = j) by by_cases e : i = j <;> simp [e]]
  exact .bl _
theorem v_eqS {K : PySem.W.Frag} {i j : Str} : V2 K C L n rEq (.str i) (.str j) (.bool (decide (i = j))) := fun x y H Q h hx hy q => by
  cases hx; cases hy
  refine ⟨rfl, q _ H (.refl H) ?_⟩
  rw [show decide (V.str i = V.str j) = decide (i = j) by by_cases e : i = j <;> simp [e]]
  exact .bl _
theorem v_neS {K : PySem.W.Frag} {i j : Str} : V2 K C L n rNe (.str i) (.str j) (.bool (!decide (i = j))) := fun x y H Q h hx hy q => by
  cases hx; cases hy
  refine ⟨rfl, q _ H (.refl H) ?_⟩
  rw [show decide (V.str i = V.str j) = decide (i = j) by by_cases e : i = j <;> simp [e]]
  exact .bl _
theorem v_neB {K : PySem.W.Frag} {i j : Bool} : V2 K C L n rNe (.bool i) (.bool j) (.bool (i != j)) := fun x y H Q h hx hy q => by
  cases hx; cases hy
  refine ⟨rfl, q _ H (.refl H) ?_⟩
  rw [show (!decide (V.bl i = V.bl j)) = (i != j) by cases i <;> cases j <;> rfl]
  exact .bl _
section
variable {i j : Int} {s t : Str} {u v : Bool}
theorem e_eqI (ha : Ed X C L δ a n m (.int i)) (hb : Ed X C L δ b m k (.int j)) : Ed X C L δ (.Compare a [.Eq] [b] pos) n k (.bool (decide (i = j))) := e_cmp op_eq v_eqI (nomark _) ha hb
theorem e_neI (ha : Ed X C L δ a n m (.int i)) (hb : Ed X C L δ b m k (.int j)) : Ed X C L δ (.Compare a [.NotEq] [b] pos) n k (.bool (!decide (i = j))) := e_cmp op_ne v_neI (nomark _) ha hb
theorem t_eqI (ha : Ed X C L δ a n m (.int i)) (hb : Ed X C L δ b m k (.int j)) : T X C L δ (.Compare a [.Eq] [b] pos) n k (decide (i = j)) := t_cmp op_eq v_eqI (nomark _) ha hb
theorem t_neI (ha : Ed X C L δ a n m (.int i)) (hb : Ed X C L δ b m k (.int j)) : T X C L δ (.Compare a [.NotEq] [b] pos) n k (!decide (i = j)) := t_cmp op_ne v_neI (nomark _) ha hb
theorem e_eqS (ha : Ed X C L δ a n m (.str s)) (hb : Ed X C L δ b m k (.str t)) : Ed X C L δ (.Compare a [.Eq] [b] pos) n k (.bool (decide (s = t))) := e_cmp op_eq v_eqS (nomark _) ha hb
theorem t_eqS (ha : Ed X C L δ a n m (.str s)) (hb : Ed X C L δ b m k (.str t)) : T X C L δ (.Compare a [.Eq] [b] pos) n k (decide (s = t)) := t_cmp op_eq v_eqS (nomark _) ha hb
theorem e_neS (ha : Ed X C L δ a n m (.str s)) (hb : Ed X C L δ b m k (.str t)) : Ed X C L δ (.Compare a [.NotEq] [b] pos) n k (.bool (!decide (s = t))) := e_cmp op_ne v_neS (nomark _) ha hb
theorem t_neS (ha : Ed X C L δ a n m (.str s)) (hb : Ed X C L δ b m k (.str t)) : T X C L δ (.Compare a [.NotEq] [b] pos) n k (!decide (s = t)) := t_cmp op_ne v_neS (nomark _) ha hb
theorem e_neB (ha : Ed X C L δ a n m (.bool u)) (hb : Ed X C L δ b m k (.bool v)) : Ed X C L δ (.Compare a [.NotEq] [b] pos) n k (.bool (u != v)) := e_cmp op_ne v_neB (nomark _) ha hb
end
/-- a <= b <= c -/
theorem e_chain {op op' : CmpOp} {r r' : R2} {u v : Bool} (ho : OpR X (compareOp op) r) (ho' : OpR X (compareOp op') r') (h1 : V2 X.K C L n r da db (.bool u)) (h2 : V2 X.K C L n r' db dc (.bool v))
    (ha : Ed X C L δ a n n da) (hb : Ed X C L δ b n n db) (hc : u = true → Ed X C L δ c n n dc) (hm : lastMarks [op, op'] [b, c] = false := by with_unfolding_all rfl) : Ed X C L δ (.Compare a [op, op'] [b, c] pos) n n (.bool (u && v)) := by
  cases u with
  | false =>
    have hF : PE X c (fun _ _ _ => False) := ⟨fun _ _ _ _ _ _ h => h.elim⟩
    refine PE.imp (pe_chain ho ho' ha hb hF hm) fun σ H Q ⟨t, q⟩ => ⟨t, fun v1 H2 sv k1 g1 e1 s1 => ⟨t.go k1 g1, fun u1 H3 su k2 g2 e2 s2 => ?_⟩⟩
    subst e1 e2
    refine h1 v1 u1 H3 _ g2 (Dv.keep s1 (k2.wider bs_bd)) s2 fun z H4 s z' => ?_
    cases z'
    exact ⟨false, rfl, iteF (q _ H4 _ (k1.trans (k2.trans (.same s))) (g2.same s) rfl (.bl _))⟩
  | true =>
    refine PE.imp (pe_chain ho ho' ha hb (hc rfl) hm) fun σ H Q ⟨t, q⟩ => ⟨t, fun v1 H2 sv k1 g1 e1 s1 => ⟨t.go k1 g1, fun u1 H3 su k2 g2 e2 s2 => ?_⟩⟩
    subst e1 e2
    refine h1 v1 u1 H3 _ g2 (Dv.keep s1 (k2.wider bs_bd)) s2 fun z H4 s z' => ?_
    cases z'
    refine ⟨true, rfl, iteT ⟨(t.go k1 g1).go (k2.trans (.same s)) (g2.same s), fun w1 H5 sw k3 g3 e3 s3 => ?_⟩⟩
    subst e3
    refine h2 u1 w1 H5 _ g3 (Dv.keep s2 ((Keep.same s).trans (k3.wider bs_bd))) s3 fun z H6 s' z' => ?_
    cases z'
    exact q _ H6 _ (k1.trans (k2.trans ((Keep.same s).trans (k3.trans (.same s'))))) (g3.same s') rfl (.bl _)
end
end Wk
namespace Wk
open PySem PySem.Spec PyProof.Rows L2
section
variable {X : Cx} {C : Ct} {L : Ls} {δ : Dl} {n m k l : Nat} {a b c e f : Expr} {es : List Expr} {pos p : Pos} {da db dc d : PD} {x : Str} {u v : Bool}

/-! ### truth values -/
theorem t_val (h : Ed X C L δ e n m (.bool u)) (he : ∀ whole, isTrue e X.env whole = (do let v ← whole; standAt e.pos; holding [v] (truthy v)) := by intro _; rfl) : T X C L δ e n m u :=
  PT.imp (pt_val h he) fun σ H Q ⟨t, q⟩ => ⟨t, fun v H2 sv k1 h1 e1 s1 => by
    subst e1
    cases s1
    exact ⟨u, rfl, q H2 k1 h1⟩⟩
theorem t_not (h : T X C L δ a n m u) : T X C L δ (.UnaryOp .Not a pos) n m (!u) := PT.imp (pt_not h) fun σ H Q ⟨t, q⟩ => ⟨t, fun H2 k1 h1 => q H2 k1 h1⟩
theorem w_and1 (h : T X C L δ a n m u) : Tw X C L δ (.BoolOp .And [a] pos) n m u := pw_and1 h
theorem w_or1 (h : T X C L δ a n m u) : Tw X C L δ (.BoolOp .Or [a] pos) n m u := pw_or1 h
theorem pw_no {e : Expr} : PW X e (fun _ _ _ => False) := ⟨fun _ _ _ _ _ _ _ h => h.elim⟩
theorem pe_no {e : Expr} : PE X e (fun _ _ _ => False) := ⟨fun _ _ _ _ _ _ h => h.elim⟩
theorem w_and (h : T X C L δ a n n u) (g : u = true → Tw X C L δ (.BoolOp .And (b :: es) pos) n n v) : Tw X C L δ (.BoolOp .And (a :: b :: es) pos) n n (u && v) := by
  cases u with
  | true => exact PW.imp (pw_and h (g rfl)) fun σ H Q ⟨t, q⟩ => ⟨t, fun H2 k1 h1 => iteT ⟨t.go k1 h1, fun H3 k2 h2 => q H3 (k1.trans k2) h2⟩⟩
  | false => exact PW.imp (pw_and h pw_no) fun σ H Q ⟨t, q⟩ => ⟨t, fun H2 k1 h1 => iteF (q H2 k1 h1)⟩
theorem w_or (h : T X C L δ a n n u) (g : u = false → Tw X C L δ (.BoolOp .Or (b :: es) pos) n n v) : Tw X C L δ (.BoolOp .Or (a :: b :: es) pos) n n (u || v) := by
  cases u with
  | false => exact PW.imp (pw_or h (g rfl)) fun σ H Q ⟨t, q⟩ => ⟨t, fun H2 k1 h1 => iteF ⟨t.go k1 h1, fun H3 k2 h2 => q H3 (k1.trans k2) h2⟩⟩
  | true => exact PW.imp (pw_or h pw_no) fun σ H Q ⟨t, q⟩ => ⟨t, fun H2 k1 h1 => iteT (q H2 k1 h1)⟩
theorem t_of (h : Tw X C L δ e n m u) : T X C L δ e n m u := h.pt
theorem e_one {op : BoolOp} (h : Ed X C L δ a n m d) : Ed X C L δ (.BoolOp op [a] pos) n m d := pe_one h
theorem e_and (h : Ed X C L δ a n n (.bool u)) (g : u = true → Ed X C L δ (.BoolOp .And (b :: es) pos) n n (.bool v)) : Ed X C L δ (.BoolOp .And (a :: b :: es) pos) n n (.bool (u && v)) := by
  cases u with
  | true => exact PE.imp (pe_and h (g rfl)) fun σ H Q ⟨t, q⟩ => ⟨t, fun w H2 sv k1 h1 e1 s1 => by
      subst e1
      cases s1
      exact ⟨true, rfl, iteT ⟨t.go k1 h1, fun w H3 sw k2 h2 e2 s2 => q w H3 sw (k1.trans k2) h2 e2 s2⟩⟩⟩
  | false => exact PE.imp (pe_and h pe_no) fun σ H Q ⟨t, q⟩ => ⟨t, fun w H2 sv k1 h1 e1 s1 => by
      subst e1
      cases s1
      exact ⟨false, rfl, iteF (q _ H2 _ k1 h1 rfl (.bl _))⟩⟩
theorem e_or (h : Ed X C L δ a n n (.bool u)) (g : u = false → Ed X C L δ (.BoolOp .Or (b :: es) pos) n n (.bool v)) : Ed X C L δ (.BoolOp .Or (a :: b :: es) pos) n n (.bool (u || v)) := by
  cases u with
  | false => exact PE.imp (pe_or h (g rfl)) fun σ H Q ⟨t, q⟩ => ⟨t, fun w H2 sv k1 h1 e1 s1 => by
      subst e1
      cases s1
      exact ⟨false, rfl, iteF ⟨t.go k1 h1, fun w H3 sw k2 h2 e2 s2 => q w H3 sw (k1.trans k2) h2 e2 s2⟩⟩⟩
  | true => exact PE.imp (pe_or h pe_no) fun σ H Q ⟨t, q⟩ => ⟨t, fun w H2 sv k1 h1 e1 s1 => by
      subst e1
      cases s1
      exact ⟨true, rfl, iteT (q _ H2 _ k1 h1 rfl (.bl _))⟩⟩
theorem e_not (h : Ed X C L δ a n m (.bool u)) : Ed X C L δ (.UnaryOp .Not a pos) n m (.bool (!u)) := PE.imp (pe_not h) fun σ H Q ⟨t, q⟩ => ⟨t, fun w H2 sv k1 h1 e1 s1 => by
  subst e1
  cases s1
  exact ⟨u, rfl, q _ H2 _ k1 h1 rfl (.bl _)⟩⟩
theorem e_if {R : SV → Prop} (h : T X C L δ c n m u) (ha : u = true → E X C L δ a m k R) (hb : u = false → E X C L δ b m k R) : E X C L δ (.IfExp c a b pos) n k R := by
  cases u with
  | true => exact PE.imp (pe_ifExp h (ha rfl) pe_no) fun σ H Q ⟨t, q⟩ => ⟨t, fun H2 k1 h1 => iteT ⟨t.go k1 h1, fun w H3 sw k2 h2 e2 s2 => q w H3 sw (k1.trans k2) h2 e2 s2⟩⟩
  | false => exact PE.imp (pe_ifExp h pe_no (hb rfl)) fun σ H Q ⟨t, q⟩ => ⟨t, fun H2 k1 h1 => iteF ⟨t.go k1 h1, fun w H3 sw k2 h2 e2 s2 => q w H3 sw (k1.trans k2) h2 e2 s2⟩⟩

/-! ### arguments, displays -/
theorem a_nil : Dd X C L δ [] n n [] := PA.imp pa_nil fun σ H Q ⟨t, q⟩ => q [] H [] (.refl _ _) t.hold rfl .nil
theorem a_cons {ds : List PD} (h : Ed X C L δ e n m d) (g : Dd X C L δ es m k ds) (hs : starEach (e :: es) X.env = (false, eval e X.env) :: starEach es X.env := by rfl) : Dd X C L δ (e :: es) n k (d :: ds) :=
  PA.imp (pa_cons h g hs) fun σ H Q ⟨t, q⟩ => ⟨t, fun v H2 sv k1 h1 e1 s1 => ⟨t.go k1 h1, fun vs H3 svs k2 h2 e2 s2 => by
    subst e1 e2
    exact q (v :: vs) H3 _ (k1.trans k2) h2 rfl (.cons (SvOk.keep (sv := .d d) s1 (k2.wider bs_bd)) s2)⟩⟩
/-- with one that is no data ahead -/
theorem a_first {w : V} {ds : List PD} (h : Ev X C L δ e n m w) (g : Dd X C L δ es m k ds) (hs : starEach (e :: es) X.env = (false, eval e X.env) :: starEach es X.env := by rfl) : Ad X C L δ (e :: es) n k (.v w :: ds.map SV.d) :=
  PA.imp (pa_cons h g hs) fun σ H Q ⟨t, q⟩ => ⟨t, fun v H2 sv k1 h1 e1 s1 => ⟨t.go k1 h1, fun vs H3 svs k2 h2 e2 s2 => by
    subst e1 e2
    exact q (v :: vs) H3 _ (k1.trans k2) h2 rfl (.cons s1 s2)⟩⟩
/-- of any kind, by what is known of each -/
theorem ar_nil : Ar X C L δ [] n n (fun svs => svs = []) := PA.imp pa_nil fun σ H Q ⟨t, q⟩ => q [] H [] (.refl _ _) t.hold rfl .nil
theorem ar_cons {R : SV → Prop} {S : List SV → Prop} (h : E X C L δ e n m R) (g : Ar X C L δ es m k S) (hs : starEach (e :: es) X.env = (false, eval e X.env) :: starEach es X.env := by rfl) :
    Ar X C L δ (e :: es) n k (fun svs => ∃ s r, svs = s :: r ∧ R s ∧ S r) :=
  PA.imp (pa_cons h g hs) fun σ H Q ⟨t, q⟩ => ⟨t, fun v H2 sv k1 h1 e1 s1 => ⟨t.go k1 h1, fun vs H3 svs k2 h2 e2 s2 =>
    q (v :: vs) H3 (sv :: svs) (k1.trans k2) h2 ⟨_, _, rfl, e1, e2⟩ (.cons (s1.keep (k2.wider bs_bd)) s2)⟩⟩
theorem DvAll.len {K : PySem.W.Frag} {B : List Addr} {H : Hp} {vs : List V} {ds : List PD} (h : DvAll K B H vs ds) : vs.length = ds.length := DvAll.length h
theorem e_tup {ds : List PD} {j : Nat} (h : Dd X C L δ es n m ds) (hz : ds.length ≤ 1000 := by exact Nat.le_of_ble_eq_true rfl) : Ed X C L δ (.Tuple es j pos) n m (.tuple ds) :=
  PE.imp (pe_tup h) fun σ H Q ⟨t, q⟩ => ⟨t, fun vs H2 svs k1 h1 e1 s1 => by
    subst e1
    have g := s1.data
    refine ⟨?_, fun r nr => ?_⟩
    · rw [g.length]
      exact Nat.le_of_lt (small1000 hz)
    · have sm := same_new (o := .tup vs) nr
      exact q (.ref r) _ _ (k1.trans (.same sm)) (h1.same sm) rfl (Dv.tup (.inl ⟨h1.fresh nr, .inl upd_same⟩) (g.keep (.same sm)))⟩
theorem e_lst {ds : List PD} (h : Dd X C L δ es n m ds) (hz : ds.length ≤ 1000 := by exact Nat.le_of_ble_eq_true rfl) : Ed X C L δ (.List es pos) n m (.list ds) :=
  PE.imp (pe_lst h) fun σ H Q ⟨t, q⟩ => ⟨t, fun vs H2 svs k1 h1 e1 s1 => by
    subst e1
    have g := s1.data
    refine ⟨?_, fun r nr => ?_⟩
    · rw [g.length]
      exact Nat.le_of_lt (small1000 hz)
    · have sm := same_new (o := .lst vs) nr
      exact q (.ref r) _ _ (k1.trans (.same sm)) (h1.same sm) rfl (Dv.lst (.inl ⟨h1.fresh nr, .inl upd_same⟩) (g.keep (.same sm)))⟩
/-- a tuple of drawn things -/
theorem e_tupR {R : List SV → Prop} {j : Nat} (h : Ar X C L δ es n m R) (hR : ∀ svs, R svs → ∃ ds : List PD, svs = ds.map SV.d ∧ ds.length ≤ 1000) : E X C L δ (.Tuple es j pos) n m (fun sv => ∃ ds : List PD, sv = .d (.tuple ds) ∧ R (ds.map SV.d)) :=
  PE.imp (pe_tup h) fun σ H Q ⟨t, q⟩ => ⟨t, fun vs H2 svs k1 h1 e1 s1 => by
    obtain ⟨ds, rfl, hz⟩ := hR svs e1
    have g := s1.data
    refine ⟨?_, fun r nr => ?_⟩
    · rw [g.length]
      exact Nat.le_of_lt (small1000 hz)
    · have sm := same_new (o := .tup vs) nr
      exact q (.ref r) _ _ (k1.trans (.same sm)) (h1.same sm) ⟨ds, rfl, e1⟩ (Dv.tup (.inl ⟨h1.fresh nr, .inl upd_same⟩) (g.keep (.same sm)))⟩

/-! ### items -/
theorem atI_at {K : PySem.W.Frag} {B : List Addr} {H : Hp} {vs : List V} {ds : List PD} {i : Int} {d : PD} (h : DvAll K B H vs ds) (e : atI ds i = some d) : ∃ w, atI vs i = some w ∧ Dv K B H w d := by
  unfold atI at e ⊢
  rw [h.length]
  cases q : ixN ds.length i with
  | none =>
    rw [q] at e
    cases e
  | some j =>
    rw [q] at e
    exact h.get e
theorem e_ixT {ds : List PD} {i : Int} (ha : Ed X C L δ a n m (.tuple ds)) (hb : Ed X C L δ b m k (.int i)) (hi : atI ds i = some d := by rfl) (hs : PlainIx b := by intro _ _; rfl) : Ed X C L δ (.Subscript a b pos) n k d :=
  PE.imp (pe_ix ix_tup ha hb hs) fun σ H Q ⟨t, q⟩ => ⟨t, fun v H2 sv k1 h1 e1 s1 => ⟨t.go k1 h1, fun w H3 sw k2 h2 e2 s2 => by
    subst e1 e2
    cases s2
    have s3 := Dv.keep s1 (k2.wider bs_bd)
    cases s3 with
    | tup r g =>
      obtain ⟨z, hz, hd⟩ := atI_at g hi
      exact ⟨_, _, i, z, rfl, rfl, r.sq, hz, q z H3 _ (k1.trans k2) h2 rfl hd⟩⟩⟩
theorem e_ixL {ds : List PD} {i : Int} (ha : Ed X C L δ a n m (.list ds)) (hb : Ed X C L δ b m k (.int i)) (hi : atI ds i = some d := by rfl) (hs : PlainIx b := by intro _ _; rfl) : Ed X C L δ (.Subscript a b pos) n k d :=
  PE.imp (pe_ix ix_list ha hb hs) fun σ H Q ⟨t, q⟩ => ⟨t, fun v H2 sv k1 h1 e1 s1 => ⟨t.go k1 h1, fun w H3 sw k2 h2 e2 s2 => by
    subst e1 e2
    cases s2
    have s3 := Dv.keep s1 (k2.wider bs_bd)
    cases s3 with
    | lst r g =>
      obtain ⟨z, hz, hd⟩ := atI_at g hi
      exact ⟨_, _, i, z, rfl, rfl, r.sq, hz, q z H3 _ (k1.trans k2) h2 rfl hd⟩⟩⟩
/-- of a list that is being filled -/
theorem e_ixM {ds : List PD} {i : Int} {r : Addr} (hm : (r, Cont.lst (ds)) ∈ L) (ha : Ev X C L δ a n m (.ref r)) (hb : Ed X C L δ b m k (.int i)) (hi : atI ds i = some d := by rfl) (hs : PlainIx b := by intro _ _; rfl) : Ed X C L δ (.Subscript a b pos) n k d :=
  PE.imp (pe_ix ix_list ha hb hs) fun σ H Q ⟨t, q⟩ => ⟨t, fun v H2 sv k1 h1 e1 s1 => ⟨t.go k1 h1, fun w H3 sw k2 h2 e2 s2 => by
    subst e1 e2
    cases s2
    have e3 : v = .ref r := s1
    obtain ⟨xs, hx, g⟩ := h2.ls r ds hm
    obtain ⟨z, hz, hd⟩ := atI_at g hi
    exact ⟨r, xs, i, z, e3, rfl, .inl (.inl hx), hz, q z H3 _ (k1.trans k2) h2 rfl hd⟩⟩⟩

/-! ### calls of built-in functions and types -/
def Vc (K : PySem.W.Frag) (C : Ct) (L : Ls) (n : Nat) (r : List V → Hp → VK → Prop) (R : List SV → Prop) (S : SV → Prop) : Prop := ∀ vs svs H (Q : VK), Hold K C L n H → R svs → SvAll K (Bd C L) H vs svs → (∀ v H2 sv, Same H H2 → S sv → SvOk K (Bd C L) H2 v sv → Q v H2) → r vs H Q
theorem e_callB {r : List V → Hp → VK → Prop} {R : List SV → Prop} {S : SV → Prop} {id : String} (hc : CallR X (.builtin id) r) (hr : Vc X.K C L m r R S) (hm : X.mg x = none) (hv : bootBuiltins x = some (.builtin id)) (ha : Ar X C L δ (e :: es) n m R)
    (hg : Gl X x := by rfl) (hn : x ≠ "__name__" := by decide) (hdb : (x == ("__debug__" : Str)) = false := by decide) (he : starEach (e :: es) X.env = (false, eval e X.env) :: starEach es X.env := by rfl) (hpl : (backTo pos (starEach es X.env)).any (·.1) = false := by rfl) :
    E X C L δ (.Call (.Name x p) (e :: es) [] pos) n m S :=
  PE.imp (pe_callB hc hg hm hv ha hn hdb he hpl) fun σ H Q ⟨t, q⟩ => ⟨t, fun vs H2 svs k1 h1 e1 s1 => hr vs svs H2 Q h1 e1 s1 fun v H3 sv s g g' => q v H3 sv (k1.trans (.same s)) (h1.same s) g g'⟩
theorem e_callTy {r : List V → Hp → VK → Prop} {R : List SV → Prop} {S : SV → Prop} {ty : String} (hc : CallR X (.type ty) r) (hr : Vc X.K C L m r R S) (hm : X.mg x = none) (hv : bootBuiltins x = some (.type ty)) (ha : Ar X C L δ (e :: es) n m R)
    (hg : Gl X x := by rfl) (hn : x ≠ "__name__" := by decide) (hdb : (x == ("__debug__" : Str)) = false := by decide) (he : starEach (e :: es) X.env = (false, eval e X.env) :: starEach es X.env := by rfl) (hpl : (backTo pos (starEach es X.env)).any (·.1) = false := by rfl) :
    E X C L δ (.Call (.Name x p) (e :: es) [] pos) n m S :=
  PE.imp (pe_callTy hc hg hm hv ha hn hdb he hpl) fun σ H Q ⟨t, q⟩ => ⟨t, fun vs H2 svs k1 h1 e1 s1 => hr vs svs H2 Q h1 e1 s1 fun v H3 sv s g g' => q v H3 sv (k1.trans (.same s)) (h1.same s) g g'⟩
theorem DvAll.one {K : PySem.W.Frag} {B : List Addr} {H : Hp} {vs : List V} {d : PD} (h : SvAll K B H vs ([d].map SV.d)) : ∃ v, vs = [v] ∧ Dv K B H v d := by
  cases h with
  | cons x y =>
    cases y
    exact ⟨_, rfl, x⟩
theorem DvAll.two {K : PySem.W.Frag} {B : List Addr} {H : Hp} {vs : List V} {d e : PD} (h : SvAll K B H vs ([d, e].map SV.d)) : ∃ v w, vs = [v, w] ∧ Dv K B H v d ∧ Dv K B H w e := by
  cases h with
  | cons x y =>
    cases y with
    | cons z y =>
      cases y
      exact ⟨_, _, rfl, x, z⟩
section
variable {i j : Int} {ds : List PD}
theorem e_lenT (hm : X.mg "len" = none) (h : Ed X C L δ e n m (.tuple ds)) (hg : Gl X "len" := by rfl) (he : starEach [e] X.env = (false, eval e X.env) :: starEach [] X.env := by rfl) : Ed X C L δ (.Call (.Name "len" p) [e] [] pos) n m (.int ds.length) :=
  e_callB call_len_seq (R := Eq ([.tuple ds].map SV.d)) (fun vs svs H Q h1 e1 s1 q => by
    subst e1
    obtain ⟨v, rfl, g⟩ := DvAll.one s1
    cases g with
    | tup r g =>
      refine ⟨_, _, rfl, .inr r.sq, ?_⟩
      rw [g.length]
      exact q _ H _ (.refl H) rfl (Dv.int _)) hm PySem.boot_len (a_cons h a_nil he) hg (he := he)
theorem e_lenL (hm : X.mg "len" = none) (h : Ed X C L δ e n m (.list ds)) (hg : Gl X "len" := by rfl) (he : starEach [e] X.env = (false, eval e X.env) :: starEach [] X.env := by rfl) : Ed X C L δ (.Call (.Name "len" p) [e] [] pos) n m (.int ds.length) :=
  e_callB call_len_seq (R := Eq ([.list ds].map SV.d)) (fun vs svs H Q h1 e1 s1 q => by
    subst e1
    obtain ⟨v, rfl, g⟩ := DvAll.one s1
    cases g with
    | lst r g =>
      refine ⟨_, _, rfl, .inl r.sq, ?_⟩
      rw [g.length]
      exact q _ H _ (.refl H) rfl (Dv.int _)) hm PySem.boot_len (a_cons h a_nil he) hg (he := he)
theorem e_abs (hm : X.mg "abs" = none) (h : Ed X C L δ e n m (.int i)) (hg : Gl X "abs" := by rfl) (he : starEach [e] X.env = (false, eval e X.env) :: starEach [] X.env := by rfl) : Ed X C L δ (.Call (.Name "abs" p) [e] [] pos) n m (.int (if i < 0 then -i else i)) :=
  e_callB call_abs (R := Eq ([.int i].map SV.d)) (fun vs svs H Q h1 e1 s1 q => by
    subst e1
    obtain ⟨v, rfl, g⟩ := DvAll.one s1
    cases g
    exact ⟨i, rfl, q _ H _ (.refl H) rfl (Dv.int _)⟩) hm (by decide +kernel) (a_cons h a_nil he) hg (he := he)
theorem e_intI (hm : X.mg "int" = none) (h : Ed X C L δ e n m (.int i)) (hg : Gl X "int" := by rfl) (he : starEach [e] X.env = (false, eval e X.env) :: starEach [] X.env := by rfl) : Ed X C L δ (.Call (.Name "int" p) [e] [] pos) n m (.int i) :=
  e_callTy call_int1 (R := Eq ([.int i].map SV.d)) (fun vs svs H Q h1 e1 s1 q => by
    subst e1
    obtain ⟨v, rfl, g⟩ := DvAll.one s1
    cases g
    exact .inl ⟨i, rfl, q _ H _ (.refl H) rfl (Dv.int _)⟩) hm (by decide +kernel) (a_cons h a_nil he) hg (he := he)
theorem e_intB (hm : X.mg "int" = none) (h : Ed X C L δ e n m (.bool u)) (hg : Gl X "int" := by rfl) (he : starEach [e] X.env = (false, eval e X.env) :: starEach [] X.env := by rfl) : Ed X C L δ (.Call (.Name "int" p) [e] [] pos) n m (.int (if u then 1 else 0)) :=
  e_callTy call_int1 (R := Eq ([.bool u].map SV.d)) (fun vs svs H Q h1 e1 s1 q => by
    subst e1
    obtain ⟨v, rfl, g⟩ := DvAll.one s1
    cases g
    exact .inr ⟨u, rfl, q _ H _ (.refl H) rfl (Dv.int _)⟩) hm (by decide +kernel) (a_cons h a_nil he) hg (he := he)
theorem e_all {bs : List Bool} (hc : X.calm = true) (hm : X.mg "all" = none) (h : Ed X C L δ e n m (.list (bs.map PyData.bool))) (hg : Gl X "all" := by rfl) (he : starEach [e] X.env = (false, eval e X.env) :: starEach [] X.env := by rfl) : Ed X C L δ (.Call (.Name "all" p) [e] [] pos) n m (.bool (bs.all id)) :=
  e_callB (cr_all hc) (R := Eq ([.list (bs.map PyData.bool)].map SV.d)) (fun vs svs H Q h1 e1 s1 q => by
    subst e1
    obtain ⟨v, rfl, g⟩ := DvAll.one s1
    cases g with
    | lst r g =>
      have e := g.bools
      subst e
      exact ⟨_, bs, rfl, r.sq, q _ H _ (.refl H) rfl (Dv.bl _)⟩) hm (by decide +kernel) (a_cons h a_nil he) hg (he := he)
theorem e_sum {ns : List Int} (hc : X.calm = true) (hm : X.mg "sum" = none) (h : Ed X C L δ e n m (.list (ns.map PyData.int))) (hg : Gl X "sum" := by rfl) (he : starEach [e] X.env = (false, eval e X.env) :: starEach [] X.env := by rfl) : Ed X C L δ (.Call (.Name "sum" p) [e] [] pos) n m (.int ns.sum) :=
  e_callB (cr_sum hc) (R := Eq ([.list (ns.map PyData.int)].map SV.d)) (fun vs svs H Q h1 e1 s1 q => by
    subst e1
    obtain ⟨v, rfl, g⟩ := DvAll.one s1
    cases g with
    | lst r g =>
      have e := g.ints
      subst e
      exact ⟨_, ns, rfl, r.sq, q _ H _ (.refl H) rfl (Dv.int _)⟩) hm (by decide +kernel) (a_cons h a_nil he) hg (he := he)
theorem e_tupleL (hm : X.mg "tuple" = none) (h : Ed X C L δ e n m (.list ds)) (hg : Gl X "tuple" := by rfl) (he : starEach [e] X.env = (false, eval e X.env) :: starEach [] X.env := by rfl) : Ed X C L δ (.Call (.Name "tuple" p) [e] [] pos) n m (.tuple ds) :=
  e_callTy call_tuple_of (R := Eq ([.list ds].map SV.d)) (fun vs svs H Q h1 e1 s1 q => by
    subst e1
    obtain ⟨v, rfl, g⟩ := DvAll.one s1
    cases g with
    | @lst _ xs _ r g =>
      refine ⟨_, xs, rfl, .inl ⟨r.sq, fun l nl => ?_⟩⟩
      have sm := same_new (o := .tup xs) nl
      exact q _ _ _ sm rfl (Dv.tup (.inl ⟨h1.fresh nl, .inl upd_same⟩) (g.keep (.same sm)))) hm (by decide +kernel) (a_cons h a_nil he) hg (he := he)
/-- tuple(..) of a list of drawn things -/
theorem e_tupleR {R : List PD → Prop} (hm : X.mg "tuple" = none) (h : E X C L δ e n m (fun sv => ∃ ds, sv = .d (.list ds) ∧ R ds)) (hg : Gl X "tuple" := by rfl) (he : starEach [e] X.env = (false, eval e X.env) :: starEach [] X.env := by rfl) : E X C L δ (.Call (.Name "tuple" p) [e] [] pos) n m (fun sv => ∃ ds, sv = .d (.tuple ds) ∧ R ds) :=
  e_callTy call_tuple_of (fun vs svs H Q h1 e1 s1 q => by
    obtain ⟨s, r, rfl, ⟨ds, rfl, hR⟩, rfl⟩ := e1
    obtain ⟨v, rfl, g⟩ := DvAll.one (d := .list ds) s1
    cases g with
    | @lst _ xs _ r g =>
      refine ⟨_, xs, rfl, .inl ⟨r.sq, fun l nl => ?_⟩⟩
      have sm := same_new (o := .tup xs) nl
      exact q _ _ _ sm ⟨ds, rfl, hR⟩ (Dv.tup (.inl ⟨h1.fresh nl, .inl upd_same⟩) (g.keep (.same sm)))) hm (by decide +kernel) (ar_cons h ar_nil he) hg (he := he)
/-- tuple(..) of a list that was filled here -/
theorem e_tupleM {r : Addr} (hl : (r, Cont.lst (ds)) ∈ L) (hm : X.mg "tuple" = none) (h : Ev X C L δ e n m (.ref r)) (hg : Gl X "tuple" := by rfl) (he : starEach [e] X.env = (false, eval e X.env) :: starEach [] X.env := by rfl) : Ed X C L δ (.Call (.Name "tuple" p) [e] [] pos) n m (.tuple ds) :=
  e_callTy call_tuple_of (fun vs svs H Q h1 e1 s1 q => by
    subst e1
    cases s1 with
    | cons a b =>
      cases b
      have e3 := a
      subst e3
      obtain ⟨xs, hx, g⟩ := h1.ls r ds hl
      refine ⟨r, xs, rfl, .inl ⟨.inl (.inl hx), fun l nl => ?_⟩⟩
      have sm := same_new (o := .tup xs) nl
      exact q _ _ _ sm rfl (Dv.tup (.inl ⟨h1.fresh nl, .inl upd_same⟩) (g.keep (.same sm)))) hm (by decide +kernel) (a_first (ds := []) h a_nil he) hg (he := he)
end
end
end Wk
namespace Wk
open PySem PySem.Spec PyProof.Rows L2

/-! ### promises where no repr is under way -/
structure Gd (P : Program) (w : World) (K : PySem.W.Frag) (mg : Str → Option Value) (base : Heap) (Z : CXT) (k : Nat) (f : Addr) (fd : FuncData) (ps : List Str) (sp : Sp) : Prop where
  len : ∀ vs H Q E, sp vs H Q E → vs.length = ps.length
  run : ∀ (A : Around), A.guards = some [] → ∀ (outer : List Env) (s : Shared) (H : Hp) (args : Args) (us : List Value) (vs : List V) (Q : VK) (E : XK), Room k A → Env0 P w K mg base A outer s H →
    BindsTo s fd args (ps.zip us) → Vals vs us → sp vs H Q E → codeAny (model P w) A (.call (.ref f) args) (CR Z outer P w H s Q E) s
theorem Gd.of {P : Program} {w : World} {K : PySem.W.Frag} {mg : Str → Option Value} {base : Heap} {Z : CXT} {k : Nat} {f : Addr} {fd : FuncData} {ps : List Str} {sp : Sp} (F : FnOk P w K mg base Z k f fd ps sp) : Gd P w K mg base Z k f fd ps sp :=
  ⟨F.len, fun A _ outer s H args us vs Q E hr he hb hv hs => F.run A outer s H args us vs Q E hr he hb hv hs⟩
theorem Gd.mono {P : Program} {w : World} {K : PySem.W.Frag} {mg : Str → Option Value} {base : Heap} {Z : CXT} {j k : Nat} {f : Addr} {fd : FuncData} {ps : List Str} {sp : Sp} (F : Gd P w K mg base Z j f fd ps sp) (h : j ≤ k) : Gd P w K mg base Z k f fd ps sp :=
  ⟨F.len, fun A g outer s H args us vs Q E hr he hb hv hs => F.run A g outer s H args us vs Q E (hr.mono h) he hb hv hs⟩

/-- a def of the text, from its body -/
theorem gd_of {Z : CXT} {P : Program} {w : World} {K : PySem.W.Frag} {mg : Str → Option Value} {base : Heap} {k : Nat} {f : Addr} {x qual : Str} {st : Stmt} {fd : FuncData} {N ps : List Str} {sp : Sp}
    (F : Fun K x qual st f fd) (S : FnScope N ps (defScope st)) (len : ∀ vs H Q E, sp vs H Q E → vs.length = ps.length)
    (hb : ∀ (cdv : Value) (A : Around) (outer : List Env) (s : Shared) (H : Hp) (vs : List V) (Q : VK) (E : XK), A.guards = some [] → Room k (A.deeper (envOfC qual (defScope st) s.heap.objs.size f cdv)) → sp vs H Q E →
      ∃ t, PSs (cxOf Z P w K mg base N qual (defScope st) f cdv A outer s H E) (defBody st) t ∧ t { nx := fun _ H' => Q .non H', rt := Q } (start N vs) H) : Gd P w K mg base Z (k + 1) f fd ps sp := by
  obtain ⟨oc, od, kV, doc, pm, an, cdv, ct, osl, rfl, lk, hcd⟩ := F.ex
  constructor
  · exact len
  intro A hgu outer s H args us vs Q E hroom env hbi rel want
  have hlen : vs.length = ps.length := len vs H Q E want
  have inK : K.In s.heap := env.mod.kin.keeps (fun b o he => (env.bs b o he).left)
  have noLim := env.mod.nolimit.keeps (fun b o he => (env.bs b o he).left)
  refine codeAny_call_function hroom.depth (inK f _ lk) rfl S.co S.gen rfl (PySem.W.codeRec_of inK hcd) ?_
  refine hbi _ _ _ _ (wpAny_newFunctionEnv_cells S.kind (fun y hy => ?_) (fun e he s1 hin => ?_))
  · obtain ⟨nm, val⟩ := y
    have hmem := (List.of_mem_zip hy).left
    exact (S.par nm hmem).elim Or.inl (fun q => Or.inr ⟨q, PySem.W.cellsFrom_some _ _ _ (Or.inl q)⟩)
  · subst he
    refine ⟨noLim.keeps hin.toInCall.keep, ?_⟩
    apply codeAny_func
    obtain ⟨t, hps, ht⟩ := hb cdv A outer s H vs Q E hgu (hroom.deeper _) want
    have inv := inv_start (CX := Z) (P := P) (w := w) (E := E) S hroom.hd env hlen rel hin
    have goal := hps.run [] s1 (start N vs) H _ inv ht
    apply wpAny_mono goal
    · intro fl s' hfl
      match fl, hfl with
      | .ret u, ⟨v, σ', H', J, rv, hq⟩ => exact ⟨v, H', J.os, J.bare, J.base, J.hok, rv, hq⟩
      | .next, ⟨σ', H', J, hq⟩ => exact ⟨V.non, H', J.os, J.bare, J.base, J.hok, rfl, hq⟩
      | .brk, ⟨_, _, _, no⟩ => exact no.elim
      | .cont, ⟨_, _, _, no⟩ => exact no.elim
    · intro _ _ h
      exact h

/-- what is known of a def of the module under its name -/
structure Knw (P : Program) (w : World) (K : PySem.W.Frag) (mg : Str → Option Value) (base : Heap) (Z : CXT) (k : Nat) (x : Str) (ps : List Str) (sp : Sp) : Prop where
  ex : ∃ (f : Addr) (fd : FuncData), mg x = some (.ref f) ∧ PySem.W.keepIn K (.ref f) = true ∧ Binds K fd ps [] ∧ Gd P w K mg base Z k f fd ps sp
abbrev Kn (X : Cx) (Z : CXT) (k : Nat) (x : Str) (ps : List Str) (sp : Sp) : Prop := Knw X.prog X.w X.K X.mg X.base Z k x ps sp
theorem knw {P : Program} {w : World} {K : PySem.W.Frag} {mg : Str → Option Value} {base : Heap} {Z : CXT} {k : Nat} {x qual : Str} {st : Stmt} {f : Addr} {fd : FuncData} {ps : List Str} {sp : Sp} (g : mg x = some (.ref f)) (F : Fun K x qual st f fd) (b : Binds K fd ps []) (h : Gd P w K mg base Z k f fd ps sp) : Knw P w K mg base Z k x ps sp :=
  ⟨f, fd, g, F.kp, b, h⟩
theorem run_gd {X : Cx} {Z : CXT} {k : Nat} {f : Addr} {fd : FuncData} {ps : List Str} {sp : Sp} {E : XK} {pins : List (Addr × Obj)} {σ : L2.St} {H : Hp} {s : Shared} {Q : VK} {us : List Value} {vs : List V}
    (F : Gd X.prog X.w X.K X.mg X.base Z k f fd ps sp) (gu : X.A.guards = some []) (hr : Room k X.A) (hb : Binds X.K fd ps []) (hx : Passes Z X E) (I : Inv X pins σ H s) (r : Vals vs us) (want : sp vs H Q E) :
    wpAny (model X.prog X.w) X.A (call (.ref f) us) (EP X pins σ Q) X.xe s := by
  have hl : (us ++ []).length = ps.length := by
    rw [List.append_nil, ← r.length]
    exact F.len vs H Q E want
  have bi := hb s us I.kIn hl
  rw [List.append_nil] at bi
  have run := F.run X.A gu X.stack s H ⟨us, []⟩ us vs Q E hr I.env0 bi r want
  apply wpAny_call
  apply codeAny_mono run
  intro res s' hres
  match res, hres with
  | .error e, h => exact hx pins σ H s e s' I h
  | .ok (.ret u), h => exact I.after h
  | .ok .next, h => exact (show False from h).elim
  | .ok .brk, h => exact (show False from h).elim
  | .ok .cont, h => exact (show False from h).elim
theorem pe_callG {X : Cx} {Z : CXT} {k : Nat} {ps : List Str} {sp : Sp} {x : Str} {p pos : Pos} {e : Expr} {es : List Expr} {t : TA} {E : XK} (F : Kn X Z k x ps sp) (gu : X.A.guards = some []) (hr : Room k X.A) (hg : Gl X x) (hx : Passes Z X E)
    (ha : PA X (e :: es) t) (hdb : (x == ("__debug__" : Str)) = false := by decide) (he : starEach (e :: es) X.env = (false, eval e X.env) :: starEach es X.env := by rfl) (hpl : (backTo pos (starEach es X.env)).any (·.1) = false := by rfl) :
    PE X (.Call (.Name x p) (e :: es) [] pos) (fun σ H Q => t σ H fun vs H1 => sp vs H1 Q E) := by
  obtain ⟨f, fd, hm, hk, hb, G⟩ := F.ex
  constructor
  intro pins s σ H Q I h
  apply wpAny_Call_Name_kw
  refine ld_glob I hg hm ?_ hdb
  have args := ha.run pos pins s σ H (fun vs H1 => sp vs H1 Q E) I h
  refine PySem.W.callWith_K (h₀ := X.base) I.ok.mod.kin hk (thn args ?_) he hpl
  intro us s1 ⟨vs, H1, I1, rv, want⟩
  exact ⟨I1.kIn, run_gd G gu hr hb hx I1 rv want⟩

/-- a call that draws out of the purse and changes nothing else -/
theorem Hold.drawn {K : PySem.W.Frag} {C : Ct} {L : Ls} {m m' : Nat} {H2 H3 : Hp} {w : Addr} (h1 : Hold K C L m H2) (hp : C.P = some w) (kp : Keep [w] H2 H3) (po : PotAt w m' H3) : Hold K C L m' H3 := by
  have hw : w ∈ Bs C L := List.mem_append_right _ (by rw [hp]; simp)
  have kb : Keep (Bs C L) H2 H3 := kp.wider fun b hb => by
    have e : b = w := by simpa using hb
    rw [e]
    exact hw
  have ne : ∀ (a' : Addr) (c' : Cont), (a', c') ∈ L → a' ∉ [w] := fun a' c' hm z => by
    have e' : a' = w := by simpa using z
    subst e'
    have nd := h1.nd
    unfold Bs at nd
    rw [hp] at nd
    have hd := (List.nodup_append.mp nd).2.2
    exact hd a' (List.mem_map.mpr ⟨_, hm, rfl⟩) a' (by simp) rfl
  refine .of (fun p' e' => ?_) (fun a' c' hm => ?_) h1.nd (fun b hb => ?_) h1.dj
  · rw [hp] at e'
    cases e'
    exact po
  · obtain ⟨o', hx, gx⟩ := h1.ct hm
    exact ⟨o', kp _ _ (ne _ _ hm) hx, gx.keep (kb.wider bs_bd)⟩
  · by_cases e' : b = w
    · subst e'
      obtain ⟨_, _, _, z, _⟩ := po
      rw [z]
      simp
    · cases z : H2 b with
      | none => exact absurd z (h1.wk b hb)
      | some o =>
        rw [kp b o (by simpa using e') z]
        simp
/-! ### two kinds of promises -/
/-- nothing is changed: ok ds d: from such data such a one is handed back -/
def SpP (K : PySem.W.Frag) (ok : List PD → SV → Prop) : Sp := fun vs H Q _ => ∃ (B : List Addr) (ds : List PD) (d : SV), (∀ b, b ∈ B → H b ≠ none) ∧ DvAll K B H vs ds ∧ ok ds d ∧ ∀ v H', Same H H' → SvOk K B H' v d → Q v H'
/-- it draws out of a purse at most c ds times, and hands back some d with R d -/
def SpQ (K : PySem.W.Frag) (ok : List PD → Nat → (PD → Prop) → Prop) : Sp := fun vs H Q _ => ∃ (p : Addr) (B : List Addr) (ws : List V) (n c : Nat) (ds : List PD) (R : PD → Prop), vs = .ref p :: ws ∧ p ∈ B ∧ (∀ b, b ∈ B → H b ≠ none) ∧ DvAll K B H ws ds ∧
  PotAt p n H ∧ n + c ≤ 1000000 ∧ ok ds c R ∧ ∀ v H' d, Keep [p] H H' → PotAt p (n + c) H' → R d → Dv K B H' v d → Q v H'
section
variable {X : Cx} {C : Ct} {L : Ls} {δ : Dl} {n m k l : Nat} {a b c e f : Expr} {es : List Expr} {pos p : Pos} {d : PD} {x : Str} {ps : List Str}
theorem e_callP {r : Nat} {ok : List PD → SV → Prop} {ds : List PD} {d : SV} (F : Kn X CX0 k x ps (SpP X.K ok)) (gu : X.A.guards = some []) (hr : Room r X.A) (hk : k ≤ r) (ha : Dd X C L δ (e :: es) n m ds) (h : ok ds d) (hg : Gl X x := by rfl)
    (hdb : (x == ("__debug__" : Str)) = false := by decide) (he : starEach (e :: es) X.env = (false, eval e X.env) :: starEach es X.env := by rfl) (hpl : (backTo pos (starEach es X.env)).any (·.1) = false := by rfl) :
    E X C L δ (.Call (.Name x p) (e :: es) [] pos) n m (Eq d) :=
  PE.imp (pe_callG F gu (hr.mono hk) hg pass0 ha hdb he hpl) fun σ H Q ⟨t, q⟩ => ⟨t, fun vs H2 svs k1 h1 e1 s1 => by
    subst e1
    exact ⟨Bd C L, ds, d, fun b hb => h1.known hb, s1.data, h, fun v H3 sm g => q v H3 _ (k1.trans (.same sm)) (h1.same sm) rfl g⟩⟩
theorem e_callQ {r : Nat} {ok : List PD → Nat → (PD → Prop) → Prop} {ds : List PD} {R : PD → Prop} {w : Addr} {u : Nat} (F : Kn X CX0 k x ps (SpQ X.K ok)) (gu : X.A.guards = some []) (hr : Room r X.A) (hk : k ≤ r) (hp : C.P = some w)
    (h0 : Ev X C L δ e n n (.ref w)) (ha : Dd X C L δ es n m ds) (h : ok ds u R) (hz : m + u ≤ 1000000) (hg : Gl X x := by rfl)
    (hdb : (x == ("__debug__" : Str)) = false := by decide) (he : starEach (e :: es) X.env = (false, eval e X.env) :: starEach es X.env := by rfl) (hpl : (backTo pos (starEach es X.env)).any (·.1) = false := by rfl) :
    E X C L δ (.Call (.Name x p) (e :: es) [] pos) n (m + u) (fun sv => ∃ d, sv = .d d ∧ R d) :=
  PE.imp (pe_callG F gu (hr.mono hk) hg pass0 (a_first h0 ha he) hdb he hpl) fun σ H Q ⟨t, q⟩ => ⟨t, fun vs H2 svs k1 h1 e1 s1 => by
    subst e1
    cases s1 with
    | @cons v0 ws _ _ a b =>
      have e0 : v0 = .ref w := a
      subst e0
      have hw : w ∈ Bs C L := List.mem_append_right _ (by rw [hp]; simp)
      refine ⟨w, Bd C L, ws, m, u, ds, R, rfl, bs_bd _ hw, fun b hb => h1.known hb, b.data, h1.pot w hp, hz, h, fun v H3 d kp po hR g => ?_⟩
      have kb : Keep (Bs C L) H2 H3 := kp.wider fun b hb => by
        have e : b = w := by simpa using hb
        rw [e]
        exact hw
      have ho : Hold X.K C L (m + u) H3 := h1.drawn hp kp po
      exact q v H3 _ (k1.trans kb) ho ⟨d, rfl, hR⟩ g⟩
end
end Wk
namespace Wk
open PySem PySem.Spec PyProof.Rows L2

/-! ### what is walked -/
structure Goes (K : PySem.W.Frag) (B : List Addr) (J : It) (ds : List PD) (H : Hp) : Prop where
  ex : ∃ G : List Addr → Hp → Prop, G B H ∧ (∀ B H p, G B H → H p = none → G (p :: B) H) ∧ (∀ B H H', G B H → Keep B H H' → G B H') ∧
    ∀ B, Walk J ds.length (G B) (fun i H x H' => (∀ b, b ∈ B → H b ≠ none) → Same H H' ∧ ∃ d, ds[i]? = some d ∧ Dv K B H' x d)
theorem goes_list {K : PySem.W.Frag} {B : List Addr} {H : Hp} {a : Addr} {xs : List V} {ds : List PD} (r : RdL K B H a xs) (g : DvAll K B H xs ds) : Goes K B (Itl K a) ds H := by
  refine ⟨fun B H => RdL K B H a xs ∧ DvAll K B H xs ds, ⟨r, g⟩, fun B H p h f => ⟨h.1.grow f, h.2.grow f⟩, fun B H H' h k => ⟨h.1.keep k, h.2.keep k⟩, fun B => ?_⟩
  rw [← g.length]
  exact walk_list.mono (fun H h => h.1.sq) fun i H x H' hi h y kn => by
    obtain ⟨rfl, e⟩ := y
    obtain ⟨d, e2, hd⟩ := h.2.vget e
    exact ⟨.refl _, d, e2, hd⟩
theorem goes_tup {K : PySem.W.Frag} {B : List Addr} {H : Hp} {a : Addr} {xs : List V} {ds : List PD} (r : RdT K B H a xs) (g : DvAll K B H xs ds) : Goes K B (Itt K a) ds H := by
  refine ⟨fun B H => RdT K B H a xs ∧ DvAll K B H xs ds, ⟨r, g⟩, fun B H p h f => ⟨h.1.grow f, h.2.grow f⟩, fun B H H' h k => ⟨h.1.keep k, h.2.keep k⟩, fun B => ?_⟩
  rw [← g.length]
  exact walk_tup.mono (fun H h => h.1.sq) fun i H x H' hi h y kn => by
    obtain ⟨rfl, e⟩ := y
    obtain ⟨d, e2, hd⟩ := h.2.vget e
    exact ⟨.refl _, d, e2, hd⟩
def rangeD (lo : Int) (n : Nat) : List PD := (List.range n).map fun i => .int (lo + (i : Nat))
theorem goes_range {K : PySem.W.Frag} {B : List Addr} {H : Hp} {lo : Int} {n : Nat} : Goes K B (Itr lo n) (rangeD lo n) H := by
  refine ⟨fun _ _ => True, trivial, fun _ _ _ _ _ => trivial, fun _ _ _ _ _ => trivial, fun B => ?_⟩
  rw [show (rangeD lo n).length = n by simp [rangeD]]
  exact walk_range.mono (fun _ h => h) fun i H x H' hi h y kn => by
    obtain ⟨rfl, rfl⟩ := y
    exact ⟨.refl _, .int (lo + (i : Nat)), by simp [rangeD, hi], .int _⟩
def pairsD (ds : List PD) : List PD := ds.mapIdx fun i d => .tuple [.int (i : Nat), d]
theorem goes_enum {K : PySem.W.Frag} {B : List Addr} {H : Hp} {a : Addr} {xs : List V} {ds : List PD} (r : RdL K B H a xs) (g : DvAll K B H xs ds) : Goes K B (Ite K a) (pairsD ds) H := by
  refine ⟨fun B H => RdL K B H a xs ∧ DvAll K B H xs ds, ⟨r, g⟩, fun B H p h f => ⟨h.1.grow f, h.2.grow f⟩, fun B H H' h k => ⟨h.1.keep k, h.2.keep k⟩, fun B => ?_⟩
  rw [show (pairsD ds).length = xs.length by rw [g.length]; simp [pairsD]]
  exact walk_enum.mono (fun H h => h.1.sq) fun i H x H' hi h y kn => by
    obtain ⟨T, y1, y2, rfl, nT, rfl, e1, e2⟩ := y
    cases e1
    obtain ⟨d, e3, hd⟩ := h.2.vget e2
    have sm := same_new (o := .tup [.int (i : Nat), y2]) nT
    refine ⟨sm, .tuple [.int (i : Nat), d], by simp [pairsD, e3], .tup (.inl ⟨fun z => kn _ z nT, .inl upd_same⟩) (.cons (.int _) (.cons (hd.keep (.same sm)) .nil))⟩
def tIt (K : PySem.W.Frag) (C : Ct) (L : Ls) (δ : Dl) (n m : Nat) (ds : List PD) : TI := fun σ H R => At K C L δ n σ H ∧ ∀ J H2, Keep (Bs C L) H H2 → Hold K C L m H2 → Goes K (Bd C L) J ds H2 → R J H2
theorem PI.imp {X : Cx} {tg iter : Expr} {t t' : TI} (h : PI X tg iter t) (f : ∀ σ H R, t' σ H R → t σ H R) : PI X tg iter t' := ⟨fun pins s σ H R I q => h.run pins s σ H R I (f σ H R q)⟩
theorem PG.imp {X : Cx} {tg : Expr} {t t' : TG} (h : PG X tg t) (f : ∀ v σ H Q, t' v σ H Q → t v σ H Q) : PG X tg t' := ⟨fun pins s σ H v u Q I r q => h.run pins s σ H v u Q I r (f v σ H Q q)⟩
abbrev Wi (X : Cx) (C : Ct) (L : Ls) (δ : Dl) (tg iter : Expr) (n m : Nat) (ds : List PD) : Prop := PI X tg iter (tIt X.K C L δ n m ds)
section
variable {X : Cx} {C : Ct} {L : Ls} {δ : Dl} {n m k l : Nat} {a b c e f tg : Expr} {es : List Expr} {pos p : Pos} {d : PD} {ds : List PD}
theorem i_list (h : Ed X C L δ e n m (.list ds)) : Wi X C L δ tg e n m ds := PI.imp (pi_list h) fun σ H R ⟨t, q⟩ => ⟨t, fun v H2 sv k1 h1 e1 s1 => by
  subst e1
  cases s1 with
  | lst r g => exact ⟨_, rfl, ⟨_, r.sq⟩, q _ H2 k1 h1 (goes_list r g)⟩⟩
theorem i_tup (h : Ed X C L δ e n m (.tuple ds)) : Wi X C L δ tg e n m ds := PI.imp (pi_tup h) fun σ H R ⟨t, q⟩ => ⟨t, fun v H2 sv k1 h1 e1 s1 => by
  subst e1
  cases s1 with
  | tup r g => exact ⟨_, rfl, ⟨_, r.sq⟩, q _ H2 k1 h1 (goes_tup r g)⟩⟩
theorem i_range {i : Int} (hm : X.mg "range" = none) (h : Ed X C L δ e n m (.int i)) (hz : -(2 ^ 62) ≤ i ∧ i < 2 ^ 62) (hg : Gl X "range" := by rfl) (hs : starEach [e] X.env = [(false, eval e X.env)] := by rfl) (hs2 : starEach [e] X.env = (false, eval e X.env) :: starEach [] X.env := by rfl) :
    Wi X C L δ tg (.Call (.Name "range" p) [e] [] pos) n m (rangeD 0 i.toNat) := PI.imp (pi_range1 hg hm (a_cons h a_nil hs2) hs) fun σ H R ⟨t, q⟩ => ⟨t, fun vs H2 svs k1 h1 e1 s1 => by
  subst e1
  obtain ⟨v, rfl, g⟩ := DvAll.one s1
  cases g
  exact ⟨i, rfl, hz.1, hz.2, q _ H2 k1 h1 goes_range⟩⟩
theorem i_range2 {i j : Int} (hm : X.mg "range" = none) (h : Ed X C L δ e n m (.int i)) (h' : Ed X C L δ f m k (.int j)) (hz : -(2 ^ 62) ≤ i ∧ i < 2 ^ 62 ∧ -(2 ^ 62) ≤ j ∧ j < 2 ^ 62) (hg : Gl X "range" := by rfl)
    (hs : starEach [e, f] X.env = [(false, eval e X.env), (false, eval f X.env)] := by rfl) (hs2 : starEach [f] X.env = [(false, eval f X.env)] := by rfl) (hs3 : starEach [e, f] X.env = (false, eval e X.env) :: starEach [f] X.env := by rfl) (hs4 : starEach [f] X.env = (false, eval f X.env) :: starEach [] X.env := by rfl) :
    Wi X C L δ tg (.Call (.Name "range" p) [e, f] [] pos) n k (rangeD i (j - i).toNat) := PI.imp (pi_range2 hg hm (a_cons h (a_cons h' a_nil hs4) hs3) hs hs2) fun σ H R ⟨t, q⟩ => ⟨t, fun vs H2 svs k1 h1 e1 s1 => by
  subst e1
  obtain ⟨v, w, rfl, g, g'⟩ := DvAll.two s1
  cases g
  cases g'
  exact ⟨i, j, rfl, hz, q _ H2 k1 h1 goes_range⟩⟩
theorem i_enum {elts : List Expr} {kk : Nat} {tpos : Pos} (hm : X.mg "enumerate" = none) (h : Ed X C L δ e n m (.list ds)) (hg : Gl X "enumerate" := by rfl) (hs : starEach [e] X.env = [(false, eval e X.env)] := by rfl) (hs2 : starEach [e] X.env = (false, eval e X.env) :: starEach [] X.env := by rfl) :
    Wi X C L δ (.Tuple elts kk tpos) (.Call (.Name "enumerate" p) [e] [] pos) n m (pairsD ds) := PI.imp (pi_enum hg hm (a_cons h a_nil hs2) hs) fun σ H R ⟨t, q⟩ => ⟨t, fun vs H2 svs k1 h1 e1 s1 => by
  subst e1
  obtain ⟨v, rfl, g⟩ := DvAll.one s1
  cases g with
  | lst r g => exact ⟨_, _, rfl, r.sq, q _ H2 k1 h1 (goes_enum r g)⟩⟩

/-! ### targets: how a datum is stored -/
def tTg (K : PySem.W.Frag) (C : Ct) (put : Dl → PD → Dl → Prop) : TG := fun v σ H Q => ∃ L δ n d δ', At K C L δ n σ H ∧ Dv K (Bd C L) H v d ∧ put δ d δ' ∧ ∀ σ', At K C L δ' n σ' H → (∀ vs : List Nat, L2.wipe σ' vs = L2.wipe σ' vs) → Q σ' H
end
/-- the slots that a target sets -/
inductive Tg where
  | name (i : Nat)
  | tup (ts : List Tg)
mutual
def Tg.put : Tg → PD → Dl → Option Dl
  | .name i, d, δ => some (δ.set i (some (.d d)))
  | .tup ts, .tuple ds, δ => Tg.puts ts ds δ
  | .tup _, _, _ => none
def Tg.puts : List Tg → List PD → Dl → Option Dl
  | [], [], δ => some δ
  | t :: ts, d :: ds, δ => (Tg.put t d δ).bind fun δ' => Tg.puts ts ds δ'
  | _, _, _ => none
end
mutual
def Tg.ix : Tg → List Nat
  | .name i => [i]
  | .tup ts => Tg.ixs ts
def Tg.ixs : List Tg → List Nat
  | [] => []
  | t :: ts => Tg.ix t ++ Tg.ixs ts
end
theorem wipe_set {σ : L2.St} {i : Nat} {o : Option V} : ∀ {vs : List Nat}, i ∈ vs → L2.wipe (σ.set i o) vs = L2.wipe σ vs
  | v :: vs, h => by
    show (L2.wipe (σ.set i o) vs).set v none = (L2.wipe σ vs).set v none
    by_cases hv : i ∈ vs
    · rw [wipe_set hv]
    · have e : i = v := (List.mem_cons.mp h).resolve_right hv
      subst e
      have com : ∀ (us : List Nat), i ∉ us → L2.wipe (σ.set i o) us = (L2.wipe σ us).set i o := by
        intro us
        induction us with
        | nil => intro _; rfl
        | cons u us ih =>
          intro hu
          show (L2.wipe (σ.set i o) us).set u none = ((L2.wipe σ us).set u none).set i o
          rw [ih fun z => hu (List.mem_cons_of_mem _ z)]
          exact List.set_comm _ _ (fun z => hu (by rw [z]; exact List.mem_cons_self))
      rw [com vs hv, List.set_set]
def gT (K : PySem.W.Frag) (C : Ct) (tg : Tg) : TG := fun v σ H Q => ∃ L δ n d δ', At K C L δ n σ H ∧ Dv K (Bd C L) H v d ∧ tg.put d δ = some δ' ∧ ∀ σ', At K C L δ' n σ' H → (∀ vs : List Nat, (∀ i, i ∈ tg.ix → i ∈ vs) → L2.wipe σ' vs = L2.wipe σ vs) → Q σ' H
def gTs (K : PySem.W.Frag) (C : Ct) (tg : List Tg) : TGs := fun vs σ H Q => ∃ L δ n ds δ', At K C L δ n σ H ∧ DvAll K (Bd C L) H vs ds ∧ Tg.puts tg ds δ = some δ' ∧ ∀ σ', At K C L δ' n σ' H → (∀ vs : List Nat, (∀ i, i ∈ Tg.ixs tg → i ∈ vs) → L2.wipe σ' vs = L2.wipe σ vs) → Q σ' H
theorem PGs.imp {X : Cx} {tg : List Expr} {t t' : TGs} (h : PGs X tg t) (f : ∀ v σ H Q, t' v σ H Q → t v σ H Q) : PGs X tg t' := ⟨fun pins s σ H v u Q I r q => h.run pins s σ H v u Q I r (f v σ H Q q)⟩
section
variable {X : Cx} {C : Ct} {x : Str} {pos : Pos}
theorem g_name (i : Nat) (hN : X.N.Nodup) (hi : X.N[i]? = some x := by rfl) (hx : Loc X.env.scope x := by first | exact Or.inl rfl | exact Or.inr rfl) (hf : X.fn x = true ∨ X.env.scope.names.lookup x = some .local := by first | exact .inl rfl | exact .inr rfl) : PG X (.Name x pos) (gT X.K C (.name i)) :=
  PG.imp (pg_name hN hi hx hf) fun v σ H Q ⟨L, δ, n, d, δ', t, g, hp, q⟩ => by
    cases hp
    exact q _ ⟨t.sl.set (sv := .d d) g, t.hold⟩ fun vs hv => wipe_set (hv i List.mem_cons_self)
theorem gs_nil : PGs X [] (gTs X.K C []) := PGs.imp pgs_nil fun v σ H Q ⟨L, δ, n, ds, δ', t, g, hp, q⟩ => by
  cases ds with
  | nil =>
    cases g
    cases hp
    exact ⟨rfl, q σ t fun _ _ => rfl⟩
  | cons d ds => cases hp
theorem gs_cons {t1 : Tg} {ts : List Tg} {e : Expr} {es : List Expr} (h : PG X e (gT X.K C t1)) (g : PGs X es (gTs X.K C ts)) (hs : ((assignEach (e :: es) X.env).map (·.2)) = assign e X.env :: ((assignEach es X.env).map (·.2)) := by rfl) : PGs X (e :: es) (gTs X.K C (t1 :: ts)) := PGs.imp (pgs_cons h g hs) fun v σ H Q ⟨L, δ, n, ds, δ', t, g, hp, q⟩ => by
  cases ds with
  | nil => cases hp
  | cons d ds =>
    cases g with
    | cons g1 g2 =>
      have hp' : (Tg.put t1 d δ).bind (fun δ' => Tg.puts ts ds δ') = some δ' := hp
      cases e1 : Tg.put t1 d δ with
      | none =>
        rw [e1] at hp'
        cases hp'
      | some δ1 =>
        rw [e1] at hp'
        refine ⟨_, _, rfl, L, δ, n, d, δ1, t, g1, e1, fun σ1 t' w1 => ⟨L, δ1, n, ds, δ', t', g2, hp', fun σ2 t2 w2 => q σ2 t2 fun vs hv => ?_⟩⟩
        rw [w2 vs fun i hi => hv i (List.mem_append_right _ hi), w1 vs fun i hi => hv i (List.mem_append_left _ hi)]
theorem puts_len : ∀ {ts : List Tg} {ds : List PD} {δ δ' : Dl}, Tg.puts ts ds δ = some δ' → ds.length = ts.length
  | [], [], _, _, _ => rfl
  | [], _ :: _, _, _, h => by cases h
  | _ :: _, [], _, _, h => by cases h
  | t :: ts, d :: ds, δ, δ', h => by
    have h' : (Tg.put t d δ).bind (fun δ' => Tg.puts ts ds δ') = some δ' := h
    cases e1 : Tg.put t d δ with
    | none =>
      rw [e1] at h'
      cases h'
    | some δ1 =>
      rw [e1] at h'
      rw [List.length_cons, List.length_cons, puts_len (δ := δ1) h']
theorem g_tup {ts : List Tg} {es : List Expr} {j : Nat} (hc : X.calm = true) (h : PGs X es (gTs X.K C ts)) (hn : (assignEach es X.env).length = ts.length := by rfl) (hst : (assignEach es X.env).findIdx? (·.1) = none := by rfl) : PG X (.Tuple es j pos) (gT X.K C (.tup ts)) :=
  PG.imp (pg_tup hc h hn hst) fun v σ H Q ⟨L, δ, n, d, δ', t, g, hp, q⟩ => by
    cases d with
    | tuple ds =>
      cases g with
      | tup r g => exact ⟨_, _, rfl, r.sq, by rw [g.length]; exact puts_len hp, L, δ, n, ds, δ', t, g, hp, q⟩
    | _ => cases hp
end
end Wk
namespace Wk
open PySem PySem.Spec PyProof.Rows L2
section
variable {K : PySem.W.Frag} {C : Ct} {L : Ls} {n m : Nat} {H H' : Hp}
theorem Hold.pushC {D : Addr} {o : HO} {c : Cont} (h : Hold K C L n H) (f : H D = none) (g : ContOk K (Bd C L) H o c) : Hold K C ((D, c) :: L) n (upd H D o) := by
  have sm := same_new (o := o) f
  refine .of (fun p e => ?_) (fun a es hm => ?_) ?_ (fun b hb => same_some sm (h.wk b hb)) (fun x hx => ?_)
  · obtain ⟨a, b, c, h1, h2⟩ := h.pot p e
    exact ⟨a, b, c, sm _ _ h1, h2⟩
  · rcases List.mem_cons.mp hm with e | hm
    · cases e
      exact ⟨o, upd_same, (g.grow f).keep (.same sm)⟩
    · obtain ⟨ys, h1, h2⟩ := h.ct hm
      exact ⟨ys, sm _ _ h1, (h2.grow f).keep (.same sm)⟩
  · show (D :: Bs C L).Nodup
    exact List.nodup_cons.mpr ⟨fun z => h.fresh f (bs_bd _ z), h.nd⟩
  · rcases List.mem_cons.mp hx with e | e
    · rw [e]
      exact fun z => h.wk _ z f
    · exact h.dj x e
theorem Hold.push {D : Addr} {xs : List V} {ds : List PD} (h : Hold K C L n H) (f : H D = none) (g : DvAll K (Bd C L) H xs ds) : Hold K C ((D, ds) :: L) n (upd H D (.lst xs)) := h.pushC f ⟨xs, rfl, g⟩
theorem Hold.pop {D : Addr} {ds : Cont} (h : Hold K C ((D, ds) :: L) n H) : Hold K C L n H :=
  .of h.pot (fun a es hm => let ⟨xs, h1, h2⟩ := h.ct (List.mem_cons_of_mem _ hm); ⟨xs, h1, h2.less fun _ z => List.mem_cons_of_mem _ z⟩) (List.nodup_cons.mp (show (D :: Bs C L).Nodup from h.nd)).2 h.wk fun x hx => h.dj x (List.mem_cons_of_mem _ hx)
/-- the first of the things that change gets other contents -/
theorem Hold.putC {D : Addr} {o : HO} {c c' : Cont} (h : Hold K C ((D, c) :: L) n H) (g : ContOk K (Bd C ((D, c) :: L)) H o c') : Hold K C ((D, c') :: L) n (upd H D o) := by
  have nd : (D :: Bs C L).Nodup := h.nd
  have hD := (List.nodup_cons.mp nd).1
  have kp : Keep (Bd C ((D, c) :: L)) H (upd H D o) := fun b o' nb e => by
    rw [upd_ne fun z => nb (by rw [z]; exact List.mem_cons_self)]
    exact e
  refine .of (fun p e => ?_) (fun a ys hm => ?_) nd (fun b hb => ?_) (fun x hx => ?_)
  · obtain ⟨a, b, c, h1, h2⟩ := h.pot p e
    refine ⟨a, b, c, ?_, h2⟩
    rw [upd_ne fun z => hD (by rw [← z]; exact List.mem_append_right _ (by rw [e]; simp))]
    exact h1
  · rcases List.mem_cons.mp hm with e | hm
    · cases e
      exact ⟨o, upd_same, g.keep kp⟩
    · obtain ⟨zs, h1, h2⟩ := h.ct (List.mem_cons_of_mem _ hm)
      refine ⟨zs, ?_, h2.keep kp⟩
      rw [upd_ne fun z => hD (by rw [← z]; exact List.mem_append_left _ (List.mem_map.mpr ⟨_, hm, rfl⟩))]
      exact h1
  · by_cases z : b = D
    · rw [z, upd_same]
      simp
    · rw [upd_ne z]
      exact h.wk b hb
  · rcases List.mem_cons.mp hx with e | e
    · rw [e]
      exact h.dj (D, c) List.mem_cons_self
    · exact h.dj x (List.mem_cons_of_mem _ e)
theorem Hold.put {D : Addr} {xs : List V} {ds es : List PD} (h : Hold K C ((D, ds) :: L) n H) (g : DvAll K (Bd C ((D, ds) :: L)) H xs es) : Hold K C ((D, es) :: L) n (upd H D (.lst xs)) := h.putC ⟨xs, rfl, g⟩
theorem keep_over {B : List Addr} {H H1 H2 : Hp} {D : Addr} (k : Keep B H H1) (g : Keep (D :: B) H1 H2) (f : H D = none) : Keep B H H2 := fun b o nb e => g b o (fun z => (List.mem_cons.mp z).elim (fun z => by rw [z, f] at e; cases e) nb) (k b o nb e)
theorem keep_upd {B : List Addr} {H : Hp} {D : Addr} {o : HO} (h : D ∈ B) : Keep B H (upd H D o) := fun b u nb e => by
  rw [upd_ne fun z => nb (by rw [z]; exact h)]
  exact e
theorem wipe_wipe {σ : L2.St} {vs : List Nat} : ∀ {us : List Nat}, (∀ u, u ∈ us → u ∈ vs) → L2.wipe (L2.wipe σ us) vs = L2.wipe σ vs
  | [], _ => rfl
  | u :: us, h => by
    show L2.wipe ((L2.wipe σ us).set u none) vs = _
    rw [wipe_set (h u List.mem_cons_self), wipe_wipe fun z hz => h z (List.mem_cons_of_mem _ hz)]
end
section
variable {X : Cx} {C : Ct} {L : Ls} {δ : Dl} {n m : Nat}
theorem tyes_if {A B : Hp → Prop} {σ : L2.St} {H : Hp} (h : A H) : tYes σ H (fun b H3 => if b = true then A H3 else B H3) := by
  show if true = true then A H else B H
  rw [if_pos rfl]
  exact h
def teL (K : PySem.W.Frag) (C : Ct) (L : Ls) (δ0 : Dl) (ds : List PD) (tgd : Tg) (m w : Nat) (R : Nat → PD → PD → Prop) : TE := fun σ H Q => ∃ (D : Addr) (acc : List PD) (j : Nat) (d : PD) (δ' : Dl), ds[j]? = some d ∧ acc.length = j ∧ tgd.put d δ0 = some δ' ∧
  tOf K C ((D, acc) :: L) δ' (m + j * w) (m + (j + 1) * w) (fun sv => ∃ e, sv = .d e ∧ R j d e) σ H Q
theorem lc_imp {own : List (Str × Nat)} {tgd : Tg} {ds : List PD} {w : Nat} {R : Nat → PD → PD → Prop} (hix : ∀ i, i ∈ tgd.ix → i ∈ own.map (·.2))
    (hp : ∀ (j : Nat) (d : PD), ds[j]? = some d → ∃ δ', tgd.put d (wipeD δ (own.map (·.2))) = some δ') (hz : ds.length ≤ 100000) (σ : L2.St) (H : Hp) (Q : VK)
    (hq : tOf X.K C L δ n (m + ds.length * w) (fun sv => ∃ es, sv = .d (.list es) ∧ es.length = ds.length ∧ ∀ (j : Nat) (d e : PD), ds[j]? = some d → es[j]? = some e → R j d e) σ H Q) :
    tLc (tIt X.K C L δ n m ds) (gT X.K C tgd) tYes (teL X.K C L (wipeD δ (own.map (·.2))) ds tgd m w R) (own.map (·.2)) σ H Q := by
  obtain ⟨t, q⟩ := hq
  refine ⟨t, fun J H1 k1 h1 goes => ?_⟩
  intro D hD
  obtain ⟨G, g0, gGrow, gKeep, wk⟩ := goes.ex
  have t1 : At X.K C L δ m σ H1 := t.go k1 h1
  have smD := same_new (o := .lst []) hD
  refine lc_it (g := gT X.K C tgd) (tt := tYes) (te := teL X.K C L (wipeD δ (own.map (·.2))) ds tgd m w R) (vs := own.map (·.2)) (σ := σ) (H1 := H1) (D := D) (Qd := Q (.ref D)) (wk (D :: Bd C L)) (fun i H2 => ∃ es : List PD, es.length = i ∧ (∀ (j : Nat) (d e : PD), ds[j]? = some d → es[j]? = some e → R j d e) ∧ At X.K C ((D, es) :: L) (wipeD δ (own.map (·.2))) (m + i * w) (L2.wipe σ (own.map (·.2))) H2 ∧ Keep (Bs C L) H1 H2 ∧ G (D :: Bd C L) H2)
    ?_ (fun i H2 _ ⟨es, _, _, _, _, g⟩ => g) ?_ ?_
  · refine ⟨[], rfl, fun j d e _ z => by simp at z, ⟨?_, ?_⟩, .same smD, ?_⟩
    · exact ((t1.sl.grow hD).keep (.same smD)).wipe _
    · rw [Nat.zero_mul, Nat.add_zero]
      exact h1.push hD .nil
    · exact gKeep _ _ _ (gGrow _ _ _ g0 hD) (.same smD)
  · rintro i x H2 H3 hlt ⟨es, hl, hR, t2, k2, g2⟩ y
    obtain ⟨sm, d, hd, dv⟩ := y fun b hb => t2.hold.known hb
    obtain ⟨δ', hput⟩ := hp i d hd
    refine ⟨(D, es) :: L, wipeD δ (own.map (·.2)), m + i * w, d, δ', t2.same sm, dv, hput, fun σ' t3 w3 => ⟨?_, ?_⟩⟩
    · rw [w3 _ hix]
      exact wipe_wipe fun u hu => hu
    · refine tyes_if ?_
      refine ⟨D, es, i, d, δ', hd, hl, hput, t3, fun v H4 sv k4 h4 r4 s4 => ?_⟩
      obtain ⟨e, rfl, re⟩ := r4
      obtain ⟨xs, hx, gx⟩ := h4.ls D es List.mem_cons_self
      have gx' := gx.app (.cons s4 .nil)
      have kD : Keep (D :: Bs C L) H4 (upd H4 D (.lst (xs ++ [v]))) := keep_upd List.mem_cons_self
      have kA : Keep (D :: Bs C L) H2 (upd H4 D (.lst (xs ++ [v]))) := (Keep.same sm).trans (k4.trans kD)
      have wid : ∀ b, b ∈ D :: Bs C L → b ∈ D :: Bd C L := fun b hb => (List.mem_cons.mp hb).elim (fun z => by rw [z]; exact List.mem_cons_self) fun z => List.mem_cons_of_mem _ (bs_bd _ z)
      refine ⟨xs, hx, ?_, es ++ [e], by rw [List.length_append, hl]; rfl, fun j d' e' h1' h2' => ?_, ⟨?_, ?_⟩, keep_over k2 kA hD, gKeep _ _ _ g2 (kA.wider wid)⟩
      · rw [gx.length, hl]
        exact Nat.lt_of_lt_of_le (Nat.lt_of_lt_of_le hlt hz) (by decide)
      · by_cases hj : j < es.length
        · rw [List.getElem?_append_left hj] at h2'
          exact hR j d' e' h1' h2'
        · have hj2 : j < (es ++ [e]).length := (List.getElem?_eq_some_iff.mp h2').1
          rw [List.length_append, List.length_singleton] at hj2
          have e1 : j = es.length := by omega
          subst e1
          rw [List.getElem?_append_right (Nat.le_refl _), Nat.sub_self] at h2'
          cases h2'
          rw [hl] at h1'
          rw [hd] at h1'
          cases h1'
          rw [hl]
          exact re
      · exact t2.sl.keep (kA.wider wid)
      · exact h4.put gx'
  · rintro H2 ⟨es, hl, hR, t2, k2, g2⟩
    obtain ⟨xs, hx, gx⟩ := t2.hold.ls D es List.mem_cons_self
    exact q _ H2 _ (k1.trans k2) t2.hold.pop ⟨es, rfl, hl, hR⟩ (Dv.lst (.inl ⟨fun z => h1.fresh hD z, .inl hx⟩) (gx.less fun b hb => List.mem_cons_of_mem _ hb))
theorem e_lcR {elt tg iter : Expr} {scope : Scope} {own : List (Str × Nat)} {pos : Pos} {tgd : Tg} {ds : List PD} {w : Nat} {R : Nat → PD → PD → Prop} (hc : X.calm = true) (hN : X.N.Nodup) (hi : Wi X C L δ tg iter n m ds) (ok : BlkOk X.N X.env.scope scope own)
    (hg : ∀ (s : Shared) (H : Hp) (Cc : Addr) (cl : List (Str × Addr)) (fp : List Addr), PG (X.blk s H scope (compEnvC scope cl Cc X.env) fp) tg (gT X.K C tgd)) (hix : ∀ i, i ∈ tgd.ix → i ∈ own.map (·.2))
    (hp : ∀ (j : Nat) (d : PD), ds[j]? = some d → ∃ δ', tgd.put d (wipeD δ (own.map (·.2))) = some δ')
    (he : ∀ (s : Shared) (H : Hp) (Cc : Addr) (cl : List (Str × Addr)) (fp : List Addr) (D : Addr) (acc : List PD) (j : Nat) (d : PD) (δ' : Dl), ds[j]? = some d → acc.length = j → tgd.put d (wipeD δ (own.map (·.2))) = some δ' →
      PE (X.blk s H scope (compEnvC scope cl Cc X.env) fp) elt (tOf X.K C ((D, acc) :: L) δ' (m + j * w) (m + (j + 1) * w) (fun sv => ∃ e, sv = .d e ∧ R j d e)))
    (hz : ds.length ≤ 100000) (hs : ∀ x, foldedSetIterable iter X.env x = pure x := by intro _; rfl) :
    E X C L δ (.ListComp elt [⟨tg, iter, [], 0⟩] scope pos) n (m + ds.length * w) (fun sv => ∃ es, sv = .d (.list es) ∧ es.length = ds.length ∧ ∀ (j : Nat) (d e : PD), ds[j]? = some d → es[j]? = some e → R j d e) := by
  have he' : ∀ (s : Shared) (H : Hp) (Cc : Addr) (cl : List (Str × Addr)) (fp : List Addr), PE (X.blk s H scope (compEnvC scope cl Cc X.env) fp) elt (teL X.K C L (wipeD δ (own.map (·.2))) ds tgd m w R) := fun s H Cc cl fp =>
    ⟨fun pins s1 σ H1 Q I ⟨D, acc, j, d, δ', h1, h2, h3, q⟩ => (he s H Cc cl fp D acc j d δ' h1 h2 h3).run pins s1 σ H1 Q I q⟩
  exact PE.imp (pe_lc (own := own) hc hN hi ok hg (fun _ _ _ _ _ => pts_nil) he' hs) (lc_imp hix hp hz)
/-- y = [..] -/
theorem p_setLc {y : Str} {py spos : Pos} (k : Nat) {elt tg iter : Expr} {scope : Scope} {own : List (Str × Nat)} {pos : Pos} {tgd : Tg} {ds : List PD} {w : Nat} {R : Nat → PD → PD → Prop} (hc : X.calm = true) (hN : X.N.Nodup) (hi : Wi X C L δ tg iter n m ds) (ok : BlkOk X.N X.env.scope scope own)
    (hg : ∀ (s : Shared) (H : Hp) (Cc : Addr) (cl : List (Str × Addr)) (fp : List Addr), PG (X.blk s H scope (compEnvC scope cl Cc X.env) fp) tg (gT X.K C tgd)) (hix : ∀ i, i ∈ tgd.ix → i ∈ own.map (·.2))
    (hp : ∀ (j : Nat) (d : PD), ds[j]? = some d → ∃ δ', tgd.put d (wipeD δ (own.map (·.2))) = some δ')
    (he : ∀ (s : Shared) (H : Hp) (Cc : Addr) (cl : List (Str × Addr)) (fp : List Addr) (D : Addr) (acc : List PD) (j : Nat) (d : PD) (δ' : Dl), ds[j]? = some d → acc.length = j → tgd.put d (wipeD δ (own.map (·.2))) = some δ' →
      PE (X.blk s H scope (compEnvC scope cl Cc X.env) fp) elt (tOf X.K C ((D, acc) :: L) δ' (m + j * w) (m + (j + 1) * w) (fun sv => ∃ e, sv = .d e ∧ R j d e)))
    (hz : ds.length ≤ 100000) (hy : X.N[k]? = some y := by rfl) (hyl : X.env.scope.names.lookup y = some .local := by rfl) (hsw : swapsWith (.ListComp elt [⟨tg, iter, [], 0⟩] scope pos) (some (.Name y py)) spos.line X.env = pure true := by exact sw_true rfl rfl rfl (by decide +kernel)) (hs : ∀ x, foldedSetIterable iter X.env x = pure x := by intro _; rfl) :
    PS X (.Assign [.Name y py] (.ListComp elt [⟨tg, iter, [], 0⟩] scope pos) spos) (tAsg (tOf X.K C L δ n (m + ds.length * w) (fun sv => ∃ es, sv = .d (.list es) ∧ es.length = ds.length ∧ ∀ (j : Nat) (d e : PD), ds[j]? = some d → es[j]? = some e → R j d e)) (gName k)) := by
  have he' : ∀ (s : Shared) (H : Hp) (Cc : Addr) (cl : List (Str × Addr)) (fp : List Addr), PE (X.blk s H scope (compEnvC scope cl Cc X.env) fp) elt (teL X.K C L (wipeD δ (own.map (·.2))) ds tgd m w R) := fun s H Cc cl fp =>
    ⟨fun pins s1 σ H1 Q I ⟨D, acc, j, d, δ', h1, h2, h3, q⟩ => (he s H Cc cl fp D acc j d δ' h1 h2 h3).run pins s1 σ H1 Q I q⟩
  exact PS.imp (ps_setLc (own := own) hc hN hy hyl hsw hi ok hg (fun _ _ _ _ _ => pts_nil) he' hs) fun D σ H q => lc_imp hix hp hz σ H _ q
/-- nothing drawn -/
theorem e_lc {elt tg iter : Expr} {scope : Scope} {own : List (Str × Nat)} {pos : Pos} {tgd : Tg} {ds : List PD} {f : PD → PD} (hc : X.calm = true) (hN : X.N.Nodup) (hi : Wi X C L δ tg iter n m ds) (ok : BlkOk X.N X.env.scope scope own)
    (hg : ∀ (s : Shared) (H : Hp) (Cc : Addr) (cl : List (Str × Addr)) (fp : List Addr), PG (X.blk s H scope (compEnvC scope cl Cc X.env) fp) tg (gT X.K C tgd)) (hix : ∀ i, i ∈ tgd.ix → i ∈ own.map (·.2))
    (hp : ∀ (j : Nat) (d : PD), ds[j]? = some d → ∃ δ', tgd.put d (wipeD δ (own.map (·.2))) = some δ')
    (he : ∀ (s : Shared) (H : Hp) (Cc : Addr) (cl : List (Str × Addr)) (fp : List Addr) (D : Addr) (acc : List PD) (d : PD) (δ' : Dl), d ∈ ds → tgd.put d (wipeD δ (own.map (·.2))) = some δ' →
      PE (X.blk s H scope (compEnvC scope cl Cc X.env) fp) elt (tOf X.K C ((D, acc) :: L) δ' m m (Eq (SV.d (f d)))))
    (hz : ds.length ≤ 100000) (hs : ∀ x, foldedSetIterable iter X.env x = pure x := by intro _; rfl) :
    Ed X C L δ (.ListComp elt [⟨tg, iter, [], 0⟩] scope pos) n m (.list (ds.map f)) := by
  refine e_imp (e_lcR (w := 0) (R := fun _ d e => e = f d) hc hN hi ok hg hix hp (fun s H Cc cl fp D acc j d δ' h1 h2 h3 => ?_) hz hs) fun sv ⟨es, e1, e2, e3⟩ => ?_
  · exact PE.imp (he s H Cc cl fp D acc d δ' (List.mem_of_getElem? h1) h3) fun σ H1 Q ⟨t, q⟩ => ⟨t, fun v H2 sv k h r s => q v H2 sv k h ⟨f d, r.symm, rfl⟩ s⟩
  · subst e1
    have e : es = ds.map f := by
      apply List.ext_getElem?
      intro j
      rw [List.getElem?_map]
      cases h1 : ds[j]? with
      | none =>
        have : es.length ≤ j := by rw [e2]; exact List.getElem?_eq_none_iff.mp h1
        rw [List.getElem?_eq_none this]
        rfl
      | some d =>
        have hj : j < es.length := by rw [e2]; exact (List.getElem?_eq_some_iff.mp h1).1
        have h2 := List.getElem?_eq_getElem hj
        rw [h2, e3 j d _ h1 h2]
        rfl
    rw [e]
theorem put_name_eq {i : Nat} {d : PD} {δ δ' : Dl} (h : Tg.put (.name i) d δ = some δ') : δ' = δ.set i (some (.d d)) := (Option.some.inj h).symm
theorem e_lcN {elt iter : Expr} {scope : Scope} {x : Str} {i : Nat} {pos tp : Pos} {ds : List PD} (f : PD → PD) (hc : X.calm = true) (hN : X.N.Nodup) (hi : Wi X C L δ (.Name x tp) iter n m ds) (ok : BlkOk X.N X.env.scope scope [(x, i)])
    (hg : ∀ (s : Shared) (H : Hp) (Cc : Addr) (cl : List (Str × Addr)) (fp : List Addr), PG (X.blk s H scope (compEnvC scope cl Cc X.env) fp) (.Name x tp) (gT X.K C (.name i)))
    (he : ∀ (s : Shared) (H : Hp) (Cc : Addr) (cl : List (Str × Addr)) (fp : List Addr) (D : Addr) (acc : List PD) (d : PD), d ∈ ds →
      PE (X.blk s H scope (compEnvC scope cl Cc X.env) fp) elt (tOf X.K C ((D, acc) :: L) ((δ.set i none).set i (some (.d d))) m m (Eq (SV.d (f d)))))
    (hz : ds.length ≤ 100000) (hs : ∀ x, foldedSetIterable iter X.env x = pure x := by intro _; rfl) :
    Ed X C L δ (.ListComp elt [⟨.Name x tp, iter, [], 0⟩] scope pos) n m (.list (ds.map f)) :=
  e_lc (own := [(x, i)]) (tgd := .name i) hc hN hi ok hg (fun j hj => hj) (fun j d _ => ⟨_, rfl⟩) (fun s H Cc cl fp D acc d δ' hd hp => by
    obtain rfl := put_name_eq hp
    exact he s H Cc cl fp D acc d hd) hz hs
theorem e_lcNR {elt iter : Expr} {scope : Scope} {x : Str} {i : Nat} {pos tp : Pos} {ds : List PD} (w : Nat) (R : Nat → PD → PD → Prop) (hc : X.calm = true) (hN : X.N.Nodup) (hi : Wi X C L δ (.Name x tp) iter n m ds) (ok : BlkOk X.N X.env.scope scope [(x, i)])
    (hg : ∀ (s : Shared) (H : Hp) (Cc : Addr) (cl : List (Str × Addr)) (fp : List Addr), PG (X.blk s H scope (compEnvC scope cl Cc X.env) fp) (.Name x tp) (gT X.K C (.name i)))
    (he : ∀ (s : Shared) (H : Hp) (Cc : Addr) (cl : List (Str × Addr)) (fp : List Addr) (D : Addr) (acc : List PD) (j : Nat) (d : PD), ds[j]? = some d →
      PE (X.blk s H scope (compEnvC scope cl Cc X.env) fp) elt (tOf X.K C ((D, acc) :: L) ((δ.set i none).set i (some (.d d))) (m + j * w) (m + (j + 1) * w) (fun sv => ∃ e, sv = .d e ∧ R j d e)))
    (hz : ds.length ≤ 100000) (hs : ∀ x, foldedSetIterable iter X.env x = pure x := by intro _; rfl) :
    E X C L δ (.ListComp elt [⟨.Name x tp, iter, [], 0⟩] scope pos) n (m + ds.length * w) (fun sv => ∃ es, sv = .d (.list es) ∧ es.length = ds.length ∧ ∀ (j : Nat) (d e : PD), ds[j]? = some d → es[j]? = some e → R j d e) :=
  e_lcR (own := [(x, i)]) (tgd := .name i) hc hN hi ok hg (fun j hj => hj) (fun j d _ => ⟨_, rfl⟩) (fun s H Cc cl fp D acc j d δ' hd _ hp => by
    obtain rfl := put_name_eq hp
    exact he s H Cc cl fp D acc j d hd) hz hs
theorem map_ext {α : Type} {l : List α} {g f : α → PD} {es : List PD} (h1 : es.length = (l.map g).length) (h2 : ∀ (j : Nat) (d e : PD), (l.map g)[j]? = some d → es[j]? = some e → ∃ x, l[j]? = some x ∧ e = f x) : es = l.map f := by
  apply List.ext_getElem?
  intro j
  rw [List.getElem?_map]
  rw [List.length_map] at h1
  cases h3 : l[j]? with
  | none =>
    have : es.length ≤ j := by rw [h1]; exact List.getElem?_eq_none_iff.mp h3
    rw [List.getElem?_eq_none this]
    rfl
  | some x =>
    have hj : j < es.length := by rw [h1]; exact (List.getElem?_eq_some_iff.mp h3).1
    have h4 := List.getElem?_eq_getElem hj
    obtain ⟨y, hy, e⟩ := h2 j (g x) _ (by rw [List.getElem?_map, h3]; rfl) h4
    rw [h3] at hy
    cases hy
    rw [h4, e]
    rfl
/-- over l.map g, by name -/
theorem e_lcM {α : Type} {elt iter : Expr} {scope : Scope} {x : Str} {i : Nat} {pos tp : Pos} {l : List α} {g : α → PD} (f : α → PD) (hc : X.calm = true) (hN : X.N.Nodup) (hi : Wi X C L δ (.Name x tp) iter n m (l.map g)) (ok : BlkOk X.N X.env.scope scope [(x, i)])
    (hg : ∀ (s : Shared) (H : Hp) (Cc : Addr) (cl : List (Str × Addr)) (fp : List Addr), PG (X.blk s H scope (compEnvC scope cl Cc X.env) fp) (.Name x tp) (gT X.K C (.name i)))
    (he : ∀ (s : Shared) (H : Hp) (Cc : Addr) (cl : List (Str × Addr)) (fp : List Addr) (D : Addr) (acc : List PD) (a : α), a ∈ l →
      PE (X.blk s H scope (compEnvC scope cl Cc X.env) fp) elt (tOf X.K C ((D, acc) :: L) ((δ.set i none).set i (some (.d (g a)))) m m (Eq (SV.d (f a)))))
    (hz : l.length ≤ 100000) (hs : ∀ x, foldedSetIterable iter X.env x = pure x := by intro _; rfl) :
    Ed X C L δ (.ListComp elt [⟨.Name x tp, iter, [], 0⟩] scope pos) n m (.list (l.map f)) := by
  refine e_imp (e_lcNR 0 (fun j d e => ∃ a, l[j]? = some a ∧ e = f a) hc hN hi ok hg (fun s H Cc cl fp D acc j d hd => ?_) (by rw [List.length_map]; exact hz) hs) fun sv ⟨es, e1, e2, e3⟩ => ?_
  · rw [List.getElem?_map] at hd
    cases h3 : l[j]? with
    | none =>
      rw [h3] at hd
      cases hd
    | some a =>
      rw [h3] at hd
      cases hd
      exact PE.imp (he s H Cc cl fp D acc a (List.mem_of_getElem? h3)) fun σ H1 Q ⟨t, q⟩ => ⟨t, fun v H2 sv k h r s => q v H2 sv k h ⟨f a, r.symm, a, rfl, rfl⟩ s⟩
  · subst e1
    rw [map_ext e2 e3]
/-- y = [..], drawn things -/
theorem p_lcNR {elt iter : Expr} {scope : Scope} {x y : Str} {i : Nat} {pos tp py spos : Pos} {ds : List PD} (k : Nat) (w : Nat) (R : Nat → PD → PD → Prop) (hc : X.calm = true) (hN : X.N.Nodup) (hi : Wi X C L δ (.Name x tp) iter n m ds) (ok : BlkOk X.N X.env.scope scope [(x, i)])
    (hg : ∀ (s : Shared) (H : Hp) (Cc : Addr) (cl : List (Str × Addr)) (fp : List Addr), PG (X.blk s H scope (compEnvC scope cl Cc X.env) fp) (.Name x tp) (gT X.K C (.name i)))
    (he : ∀ (s : Shared) (H : Hp) (Cc : Addr) (cl : List (Str × Addr)) (fp : List Addr) (D : Addr) (acc : List PD) (j : Nat) (d : PD), ds[j]? = some d →
      PE (X.blk s H scope (compEnvC scope cl Cc X.env) fp) elt (tOf X.K C ((D, acc) :: L) ((δ.set i none).set i (some (.d d))) (m + j * w) (m + (j + 1) * w) (fun sv => ∃ e, sv = .d e ∧ R j d e)))
    (hz : ds.length ≤ 100000) (hy : X.N[k]? = some y := by rfl) (hyl : X.env.scope.names.lookup y = some .local := by rfl) (hsw : swapsWith (.ListComp elt [⟨.Name x tp, iter, [], 0⟩] scope pos) (some (.Name y py)) spos.line X.env = pure true := by exact sw_true rfl rfl rfl (by decide +kernel)) (hs : ∀ x, foldedSetIterable iter X.env x = pure x := by intro _; rfl) :
    PS X (.Assign [.Name y py] (.ListComp elt [⟨.Name x tp, iter, [], 0⟩] scope pos) spos) (tAsg (tOf X.K C L δ n (m + ds.length * w) (fun sv => ∃ es, sv = .d (.list es) ∧ es.length = ds.length ∧ ∀ (j : Nat) (d e : PD), ds[j]? = some d → es[j]? = some e → R j d e)) (gName k)) :=
  p_setLc k (own := [(x, i)]) (tgd := .name i) hc hN hi ok hg (fun j hj => hj) (fun j d _ => ⟨_, rfl⟩) (fun s H Cc cl fp D acc j d δ' hd _ hp => by
    obtain rfl := put_name_eq hp
    exact he s H Cc cl fp D acc j d hd) hz hy hyl hsw hs
end
end Wk
namespace Wk
open PySem PySem.Spec PyProof.Rows L2

/-! ### blocks -/
structure Fm where
  C : Ct
  A : List (List Addr × Hp)
structure Cf where
  L : Ls
  δ : Dl
  n : Nat
structure In (K : PySem.W.Frag) (F : Fm) (c : Cf) (σ : L2.St) (H : Hp) : Prop where
  an : ∀ a, a ∈ F.A → Keep a.1 a.2 H
  fr : ∀ a, a ∈ F.A → ∀ b, b ∈ Bs F.C c.L → b ∈ a.1 ∨ a.2 b = none
  at_ : At K F.C c.L c.δ c.n σ H
def Fm.add (F : Fm) (B : List Addr) (H : Hp) : Fm := ⟨F.C, (B, H) :: F.A⟩
theorem keep_anchor {a : List Addr × Hp} {B : List Addr} {H H' : Hp} (k : Keep a.1 a.2 H) (f : ∀ b, b ∈ B → b ∈ a.1 ∨ a.2 b = none) (g : Keep B H H') : Keep a.1 a.2 H' := fun b o nb e => g b o (fun z => (f b z).elim nb fun q => by rw [q] at e; cases e) (k b o nb e)
section
variable {K : PySem.W.Frag} {F : Fm} {c : Cf} {σ σ' : L2.St} {H H' : Hp} {m : Nat}
theorem In.go (h : In K F c σ H) (k : Keep (Bs F.C c.L) H H') (g : Hold K F.C c.L m H') : In K F ⟨c.L, c.δ, m⟩ σ H' := ⟨fun a ha => keep_anchor (h.an a ha) (h.fr a ha) k, h.fr, h.at_.go k g⟩
theorem In.slots {δ' : Dl} (h : In K F c σ H) (t : At K F.C c.L δ' c.n σ' H) : In K F ⟨c.L, δ', c.n⟩ σ' H := ⟨h.an, h.fr, t⟩
theorem In.same (h : In K F c σ H) (s : Same H H') : In K F c σ H' := ⟨fun a ha => (h.an a ha).trans (.same s), h.fr, h.at_.same s⟩
theorem In.less {B : List Addr} {H0 : Hp} (h : In K (F.add B H0) c σ H) : In K F c σ H := ⟨fun a ha => h.an a (List.mem_cons_of_mem _ ha), fun a ha => h.fr a (List.mem_cons_of_mem _ ha), h.at_⟩
end
structure LeE (D D' : Ends) : Prop where
  nx : ∀ σ H, D.nx σ H → D'.nx σ H
  rt : ∀ v H, D.rt v H → D'.rt v H
  bk : ∀ σ H, D.bk σ H → D'.bk σ H
  ct : ∀ σ H, D.ct σ H → D'.ct σ H
theorem LeE.refl (D : Ends) : LeE D D := ⟨fun _ _ h => h, fun _ _ h => h, fun _ _ h => h, fun _ _ h => h⟩
def Post (K : PySem.W.Frag) (F : Fm) (J : Cf → Prop) : L2.St → Hp → Prop := fun σ H => ∃ c, J c ∧ In K F c σ H
def tB (K : PySem.W.Frag) (F : Fm) (c : Cf) (D0 : Ends) : TS := fun D σ H => LeE D0 D ∧ In K F c σ H
abbrev Bk (X : Cx) (F : Fm) (c : Cf) (D0 : Ends) (sts : List Stmt) : Prop := PSs X sts (tB X.K F c D0)
abbrev Sk (X : Cx) (F : Fm) (c : Cf) (D0 : Ends) (st : Stmt) : Prop := PS X st (tB X.K F c D0)
/-- what is wanted of what is handed back -/
def Wt (K : PySem.W.Frag) (F : Fm) (rt : VK) (R : Nat → SV → Prop) : Prop := ∀ v H sv m, (∀ a, a ∈ F.A → Keep a.1 a.2 H) → Hold K F.C [] m H → R m sv → SvOk K (Bd F.C []) H v sv → rt v H
theorem Wt.add {K : PySem.W.Frag} {F : Fm} {rt : VK} {R : Nat → SV → Prop} {B : List Addr} {H0 : Hp} (h : Wt K F rt R) : Wt K (F.add B H0) rt R := fun v H sv m a b c d => h v H sv m (fun x hx => a x (List.mem_cons_of_mem _ hx)) b c d
section
variable {X : Cx} {F : Fm} {L : Ls} {δ : Dl} {n m k l : Nat} {D0 : Ends} {c : Cf} {rest : List Stmt} {st : Stmt} {e : Expr} {pos p q : Pos} {x : Str}
theorem r_cons (J : Cf → Prop) (h : Sk X F c { D0 with nx := Post X.K F J } st) (g : ∀ c', J c' → Bk X F c' D0 rest) : Bk X F c D0 (st :: rest) := by
  have hu : PSs X rest (fun D σ H => LeE D0 D ∧ Post X.K F J σ H) := ⟨fun pins s σ H D I ⟨le, c', hj, i⟩ => (g c' hj).run pins s σ H D I ⟨le, i⟩⟩
  exact PSs.imp (pss_cons h hu) fun D σ H ⟨le, i⟩ => ⟨⟨fun σ H p => ⟨le, p⟩, le.rt, le.bk, le.ct⟩, i⟩
theorem r_nil (h : ∀ σ H, In X.K F c σ H → D0.nx σ H) : Bk X F c D0 [] := PSs.imp pss_nil fun D σ H ⟨le, i⟩ => le.nx σ H (h σ H i)
theorem r_end {J : Cf → Prop} {rt : VK} {bk ct : L2.St → Hp → Prop} (h : J c) : Bk X F c ⟨Post X.K F J, rt, bk, ct⟩ [] := r_nil fun σ H i => ⟨c, h, i⟩
theorem Bd_nil {C : Ct} {L : Ls} : ∀ b, b ∈ Bd C [] → b ∈ Bd C L := fun b hb => by
  rcases List.mem_append.mp hb with q | q
  · exact List.mem_append_left _ (List.mem_append_right _ q)
  · exact List.mem_append_right _ q
theorem Hold.nil {K : PySem.W.Frag} {C : Ct} {H : Hp} (h : Hold K C L n H) : Hold K C [] n H :=
  ⟨h.pot, fun _ _ z => absurd z List.not_mem_nil, fun _ _ z => absurd z List.not_mem_nil, (List.nodup_append.mp h.nd).2.1, h.wk, fun _ z => absurd z List.not_mem_nil⟩
theorem s_set {R : SV → Prop} (i : Nat) (he : E X F.C L δ e n m R) (h : ∀ sv σ H, R sv → In X.K F ⟨L, δ.set i (some sv), m⟩ σ H → D0.nx σ H) (hN : X.N.Nodup) (hi : X.N[i]? = some x := by rfl) (hx : Loc X.env.scope x := by first | exact Or.inl rfl | exact Or.inr rfl)
    (hs : swapsWith e (some (.Name x q)) pos.line X.env = pure false := by rfl) (hf : X.fn x = true ∨ X.env.scope.names.lookup x = some .local := by first | exact .inl rfl | exact .inr rfl) : Sk X F ⟨L, δ, n⟩ D0 (.Assign [.Name x q] e pos) :=
  PS.imp (ps_set hN hi hx he hs hf) fun D σ H ⟨le, i⟩ => ⟨i.at_, fun v H2 sv k1 h1 r1 s1 => by
    have i2 := i.go k1 h1
    exact le.nx _ _ (h sv _ H2 r1 ⟨i2.an, i2.fr, i2.at_.sl.set s1, h1⟩)⟩
theorem r_setR {R : SV → Prop} (i : Nat) (he : E X F.C L δ e n m R) (g : ∀ sv, R sv → Bk X F ⟨L, δ.set i (some sv), m⟩ D0 rest) (hN : X.N.Nodup) (hi : X.N[i]? = some x := by rfl) (hx : Loc X.env.scope x := by first | exact Or.inl rfl | exact Or.inr rfl)
    (hs : swapsWith e (some (.Name x q)) pos.line X.env = pure false := by rfl) (hf : X.fn x = true ∨ X.env.scope.names.lookup x = some .local := by first | exact .inl rfl | exact .inr rfl) : Bk X F ⟨L, δ, n⟩ D0 (.Assign [.Name x q] e pos :: rest) :=
  r_cons (fun c' => ∃ sv, R sv ∧ c' = ⟨L, δ.set i (some sv), m⟩) (s_set i he (fun sv σ H r j => ⟨_, ⟨sv, r, rfl⟩, j⟩) hN hi hx hs hf) fun c' ⟨sv, r, ec⟩ => by
    subst ec
    exact g sv r
theorem r_set {sv : SV} (i : Nat) (he : E X F.C L δ e n m (Eq sv)) (g : Bk X F ⟨L, δ.set i (some sv), m⟩ D0 rest) (hN : X.N.Nodup) (hi : X.N[i]? = some x := by rfl) (hx : Loc X.env.scope x := by first | exact Or.inl rfl | exact Or.inr rfl)
    (hs : swapsWith e (some (.Name x q)) pos.line X.env = pure false := by rfl) (hf : X.fn x = true ∨ X.env.scope.names.lookup x = some .local := by first | exact .inl rfl | exact .inr rfl) : Bk X F ⟨L, δ, n⟩ D0 (.Assign [.Name x q] e pos :: rest) :=
  r_setR i he (fun _ r => by subst r; exact g) hN hi hx hs hf
/-- a, b = e -/
theorem r_tup {R : SV → Prop} {es : List Expr} {ts : List Tg} {j : Nat} (hc : X.calm = true) (hg : PG X (.Tuple es j p) (gT X.K F.C (.tup ts))) (he : E X F.C L δ e n m R) (g : ∀ sv, R sv → ∃ d δ', sv = .d d ∧ Tg.put (.tup ts) d δ = some δ' ∧ Bk X F ⟨L, δ', m⟩ D0 rest)
    (hs : swapsWithSole [.Tuple es j p] e pos.line X.env = pure false := by rfl) (hw : swappedStores [.Tuple es j p] e X.env = pure none := by rfl) (h1 : (assignEach [.Tuple es j p] X.env).map (·.2) = [assign (.Tuple es j p) X.env] := by rfl) :
    Bk X F ⟨L, δ, n⟩ D0 (.Assign [.Tuple es j p] e pos :: rest) :=
  r_cons (fun c' => Bk X F c' D0 rest) (PS.imp (ps_asg he hg hs hw h1) fun D σ H ⟨le, i⟩ => ⟨i.at_, fun v H2 sv k1 h1 r1 s1 => by
    obtain ⟨d, δ', rfl, hp, hb⟩ := g sv r1
    have i2 := i.go k1 h1
    exact ⟨L, δ, m, d, δ', i2.at_, s1, hp, fun σ' t' _ => le.nx _ _ ⟨_, hb, i2.an, i2.fr, t'⟩⟩⟩) fun c' h => h
/-- a, b = x, y (no pair is made) -/
theorem r_par {R : List SV → Prop} {y : Str} {px py pt pt2 : Pos} {kt k2 : Nat} {a b : Expr} (i j : Nat) (hc : X.calm = true) (hN : X.N.Nodup) (hij : i ≠ j) (ha : Ar X F.C L δ [a, b] n m R) (g : ∀ svs, R svs → ∃ u v, svs = [u, v] ∧ Bk X F ⟨L, (δ.set i (some u)).set j (some v), m⟩ D0 rest)
    (hi : X.N[i]? = some x := by rfl) (hj : X.N[j]? = some y := by rfl) (hx : X.env.scope.names.lookup x = some .local := by rfl) (hy : X.env.scope.names.lookup y = some .local := by rfl)
    (hw : swappedStores [.Tuple [.Name x px, .Name y py] kt pt] (.Tuple [a, b] k2 pt2) X.env = pure (some [x, y]) := by rfl) (hs : swapsWithSole [.Tuple [.Name x px, .Name y py] kt pt] (.Tuple [a, b] k2 pt2) pos.line X.env = pure false := by rfl) :
    Bk X F ⟨L, δ, n⟩ D0 (.Assign [.Tuple [.Name x px, .Name y py] kt pt] (.Tuple [a, b] k2 pt2) pos :: rest) :=
  r_cons (fun c' => Bk X F c' D0 rest) (PS.imp (ps_par hc hN hi hj hij hx hy ha hw hs) fun D σ H ⟨le, ii⟩ => ⟨ii.at_, fun vs H2 svs k1 h1 r1 s1 => by
    obtain ⟨u, v, rfl, hb⟩ := g svs r1
    cases s1 with
    | cons s2 s1 =>
      cases s1 with
      | cons s3 s1 =>
        cases s1
        have i2 := ii.go k1 h1
        exact ⟨_, _, rfl, le.nx _ _ ⟨_, hb, i2.an, i2.fr, (i2.at_.sl.set s2).set s3, h1⟩⟩⟩) fun c' h => h
/-- return -/
theorem r_ret {R : Nat → SV → Prop} {S : SV → Prop} (hw : Wt X.K F D0.rt R) (he : E X F.C L δ e n m S) (h : ∀ sv, S sv → R m sv) : Bk X F ⟨L, δ, n⟩ D0 (.Return (some e) pos :: rest) := by
  refine r_cons (fun _ => False) (PS.imp (ps_ret he) fun D σ H ⟨le, i⟩ => ⟨i.at_, fun v H2 sv k1 h1 r1 s1 => ?_⟩) fun _ z => z.elim
  have i2 := i.go k1 h1
  exact le.rt v H2 (hw v H2 sv m i2.an h1.nil (h sv r1) (s1.less Bd_nil))
theorem r_retD {d d' : PD} (hw : Wt X.K F D0.rt (fun _ z => z = .d d')) (he : Ed X F.C L δ e n m d) (h : d = d') : Bk X F ⟨L, δ, n⟩ D0 (.Return (some e) pos :: rest) := r_ret hw he fun sv q => by
  subst q h
  rfl
/-- return of a list that was filled here -/
theorem r_retM {R : Nat → SV → Prop} {D : Addr} {ds : List PD} (hw : Wt X.K F D0.rt R) (he : Ev X F.C L δ e n m (.ref D)) (hm : (D, Cont.lst (ds)) ∈ L) (h : R m (.d (.list ds))) : Bk X F ⟨L, δ, n⟩ D0 (.Return (some e) pos :: rest) := by
  refine r_cons (fun _ => False) (PS.imp (ps_ret he) fun DD σ H ⟨le, i⟩ => ⟨i.at_, fun v H2 sv k1 h1 r1 s1 => ?_⟩) fun _ z => z.elim
  subst r1
  have e0 : v = .ref D := s1
  subst e0
  have i2 := i.go k1 h1
  obtain ⟨xs, hx, gx⟩ := h1.ls D ds hm
  refine le.rt _ H2 (hw _ H2 (.d (.list ds)) m i2.an h1.nil h (Dv.lst (.inl ⟨fun z => ?_, .inl hx⟩) (gx.less Bd_nil)))
  rcases List.mem_append.mp z with z | z
  · have nd := (List.nodup_append.mp h1.nd).2.2
    exact nd D (List.mem_map.mpr ⟨_, hm, rfl⟩) D (by simpa [Bs] using z) rfl
  · exact h1.dj _ hm z
/-- a statement that is dropped -/
theorem r_drop {S : SV → Prop} (he : E X F.C L δ e n m S) (g : Bk X F ⟨L, δ, m⟩ D0 rest) (hs : swapsWith e none pos.line X.env = pure false := by rfl) : Bk X F ⟨L, δ, n⟩ D0 (.Expr e pos :: rest) :=
  r_cons (fun c' => c' = ⟨L, δ, m⟩) (PS.imp (ps_expr he hs) fun D σ H ⟨le, i⟩ => ⟨i.at_, fun v H2 sv k1 h1 r1 s1 => le.nx _ _ ⟨_, rfl, i.go k1 h1⟩⟩) fun c' h => by subst h; exact g
/-- if -/
theorem s_if {u : Bool} {t : Expr} {a b : List Stmt} (hc : T X F.C L δ t n m u) (ha : u = true → Bk X F ⟨L, δ, m⟩ D0 a) (hb : u = false → Bk X F ⟨L, δ, m⟩ D0 b) : Sk X F ⟨L, δ, n⟩ D0 (.If t a b pos) := by
  have no : ∀ {s : List Stmt}, PSs X s (fun _ _ _ => False) := ⟨fun _ _ _ _ _ _ z => z.elim⟩
  cases u with
  | true => exact PS.imp (ps_if hc (ha rfl) no) fun D σ H ⟨le, i⟩ => ⟨i.at_, fun H2 k1 h1 => iteT ⟨le, i.go k1 h1⟩⟩
  | false => exact PS.imp (ps_if hc no (hb rfl)) fun D σ H ⟨le, i⟩ => ⟨i.at_, fun H2 k1 h1 => iteF ⟨le, i.go k1 h1⟩⟩
theorem r_if {u : Bool} {t : Expr} {a b : List Stmt} (J : Cf → Prop) (hc : T X F.C L δ t n m u) (ha : u = true → Bk X F ⟨L, δ, m⟩ { D0 with nx := Post X.K F J } a) (hb : u = false → Bk X F ⟨L, δ, m⟩ { D0 with nx := Post X.K F J } b) (g : ∀ c', J c' → Bk X F c' D0 rest) :
    Bk X F ⟨L, δ, n⟩ D0 (.If t a b pos :: rest) := r_cons J (s_if hc ha hb) g
/-- if with no else, whose suite leaves -/
theorem r_ifR {u : Bool} {t : Expr} {a : List Stmt} (hc : T X F.C L δ t n m u) (ha : u = true → Bk X F ⟨L, δ, m⟩ { D0 with nx := Post X.K F (fun _ => False) } a) (g : u = false → Bk X F ⟨L, δ, m⟩ D0 rest) : Bk X F ⟨L, δ, n⟩ D0 (.If t a [] pos :: rest) := by
  cases u with
  | true =>
    refine r_if (fun _ => False) hc (fun _ => ha rfl) (fun z => by cases z) fun _ z => z.elim
  | false => exact r_if (fun c' => c' = ⟨L, δ, m⟩) hc (fun z => by cases z) (fun _ => r_end rfl) fun c' z => by subst z; exact g rfl
theorem r_ifF {u : Bool} {t : Expr} {a : List Stmt} (hc : T X F.C L δ t n m u) (hu : u = false) (g : Bk X F ⟨L, δ, m⟩ D0 rest) : Bk X F ⟨L, δ, n⟩ D0 (.If t a [] pos :: rest) := r_ifR hc (fun h => by rw [hu] at h; cases h) fun _ => g
theorem r_ifT {u : Bool} {t : Expr} {a b : List Stmt} (hc : T X F.C L δ t n m u) (hu : u = true) (g : Bk X F ⟨L, δ, m⟩ { D0 with nx := Post X.K F (fun _ => False) } a) : Bk X F ⟨L, δ, n⟩ D0 (.If t a b pos :: rest) := r_if (fun _ => False) hc (fun _ => g) (fun h => by rw [hu] at h; cases h) fun _ z => z.elim
/-- x = [] -/
theorem r_new (i : Nat) (g : ∀ D, Bk X F ⟨(D, Cont.lst []) :: L, δ.set i (some (.v (.ref D))), n⟩ D0 rest) (hN : X.N.Nodup) (hi : X.N[i]? = some x := by rfl) (hx : Loc X.env.scope x := by first | exact Or.inl rfl | exact Or.inr rfl)
    (hs : swapsWith (.List [] p) (some (.Name x q)) pos.line X.env = pure false := by rfl) (hf : X.fn x = true ∨ X.env.scope.names.lookup x = some .local := by first | exact .inl rfl | exact .inr rfl) : Bk X F ⟨L, δ, n⟩ D0 (.Assign [.Name x q] (.List [] p) pos :: rest) :=
  r_cons (fun c' => ∃ D, c' = ⟨(D, Cont.lst []) :: L, δ.set i (some (.v (.ref D))), n⟩) (PS.imp (ps_set hN hi hx (pe_lst pa_nil) hs hf) fun D σ H ⟨le, ii⟩ => ⟨Nat.zero_le _, fun r nr => by
    have sm := same_new (o := .lst []) nr
    refine le.nx _ _ ⟨_, ⟨r, rfl⟩, fun a ha => (ii.an a ha).trans (.same sm), fun a ha b hb => ?_, ((ii.at_.sl.grow nr).keep (.same sm)).set (sv := .v (.ref r)) rfl, ii.at_.hold.push nr .nil⟩
    rcases List.mem_cons.mp (show b ∈ r :: Bs F.C L from hb) with z | z
    · rw [z]
      by_cases w : r ∈ a.1
      · exact .inl w
      · refine .inr ?_
        cases y : a.2 r with
        | none => rfl
        | some o =>
          have := ii.an a ha r o w y
          rw [nr] at this
          cases this
    · exact ii.fr a ha b z⟩) fun c' ⟨D, ec⟩ => by subst ec; exact g D
/-- x = [e] * n -/
theorem r_rep {a b : Expr} {d : PD} {z : Int} {lp : Pos} (i : Nat) (ha : Ed X F.C L δ a n n d) (hb : Ed X F.C L δ b n n (.int z)) (hz : 0 ≤ z ∧ z ≤ 1000) (g : ∀ D, Bk X F ⟨(D, List.replicate z.toNat d) :: L, δ.set i (some (.v (.ref D))), n⟩ D0 rest) (hN : X.N.Nodup) (hi : X.N[i]? = some x := by rfl)
    (hst : starEach [a] X.env = (false, eval a X.env) :: starEach [] X.env := by rfl) (hx : Loc X.env.scope x := by first | exact Or.inl rfl | exact Or.inr rfl) (hs : swapsWith (.BinOp (.List [a] lp) .Mult b p) (some (.Name x q)) pos.line X.env = pure false := by rfl) (hf : X.fn x = true ∨ X.env.scope.names.lookup x = some .local := by first | exact .inl rfl | exact .inr rfl) :
    Bk X F ⟨L, δ, n⟩ D0 (.Assign [.Name x q] (.BinOp (.List [a] lp) .Mult b p) pos :: rest) := by
  have hE : PE X (.BinOp (.List [a] lp) .Mult b p) _ := pe_op op_rep (pe_lst (pa_cons ha pa_nil hst)) hb
  refine r_cons (fun c' => ∃ D, c' = ⟨(D, List.replicate z.toNat d) :: L, δ.set i (some (.v (.ref D))), n⟩) (PS.imp (ps_set hN hi hx hE hs hf) fun D σ H ⟨le, ii⟩ => ⟨ii.at_, fun v H2 sv k1 h1 r1 s1 => ⟨(by show 1 ≤ sizeLine; decide), fun l nl => ?_⟩⟩) fun c' ⟨D, ec⟩ => by subst ec; exact g D
  subst r1
  have sl := same_new (o := .lst [v]) nl
  have i1 := (ii.go k1 h1).same sl
  refine ⟨i1.at_, fun w H3 sw k2 h2 r2 s2 => ?_⟩
  subst r2
  cases s2
  have nlB : l ∉ Bs F.C L := fun q => h1.fresh nl (bs_bd _ q)
  refine ⟨l, z, [v], rfl, rfl, k2 l _ nlB upd_same, by omega, by omega, ?_, fun r nr => ?_⟩
  · show 1 * z.toNat ≤ sizeLine
    exact Nat.le_trans (by omega : 1 * z.toNat ≤ 1000) (by decide)
  · have i3 := i1.go k2 h2
    have sm := same_new (o := .lst (List.replicate z.toNat [v]).flatten) nr
    have dv : Dv X.K (Bd F.C L) H3 v d := Dv.keep (Dv.keep s1 (.same sl)) (k2.wider bs_bd)
    have all : ∀ j : Nat, DvAll X.K (Bd F.C L) H3 (List.replicate j [v]).flatten (List.replicate j d) := fun j => by
      induction j with
      | zero => exact .nil
      | succ j ih => exact .cons dv ih
    refine le.nx _ _ ⟨_, ⟨r, rfl⟩, fun a ha => (i3.an a ha).trans (.same sm), fun a ha b hb => ?_, ((i3.at_.sl.grow nr).keep (.same sm)).set (sv := .v (.ref r)) rfl, h2.push nr (all _)⟩
    rcases List.mem_cons.mp (show b ∈ r :: Bs F.C L from hb) with y | y
    · rw [y]
      by_cases w : r ∈ a.1
      · exact .inl w
      · refine .inr ?_
        cases y : a.2 r with
        | none => rfl
        | some o =>
          have := i3.an a ha r o w y
          rw [nr] at this
          cases this
    · exact i3.fr a ha b y
/-- xs.append(e) -/
theorem r_append {D : Addr} {ds : List PD} {o a : Expr} {d : PD} {apos cpos : Pos} (ho : Ev X F.C ((D, ds) :: L) δ o n n (.ref D)) (ha : Ed X F.C ((D, ds) :: L) δ a n m d) (hz : ds.length ≤ 100000) (g : Bk X F ⟨(D, ds ++ [d]) :: L, δ, m⟩ D0 rest)
    (hbase : attributeBase o "append" X.env (eval o X.env) = eval o X.env := by rfl)
    (hfew : ((backTo cpos (starEach [a] X.env)).all (fun x => !x.1) && (backToKw cpos (keywordEach [] X.env)).all (fun x => x.1.isSome)
      && decide ([a].length + ([] : List Keyword).length + (if ([] : List Keyword).isEmpty then 0 else 1) < 30)) = true := by rfl)
    (hline : (apos.endLine == cpos.line) = true := by rfl) (hst : starEach [a] X.env = (false, eval a X.env) :: starEach [] X.env := by rfl) (hplain : (backTo cpos (starEach [] X.env)).any (·.1) = false := by rfl)
    (hs : swapsWith (.Call (.Attribute o "append" apos) [a] [] cpos) none pos.line X.env = pure false := by rfl) : Bk X F ⟨(D, ds) :: L, δ, n⟩ D0 (.Expr (.Call (.Attribute o "append" apos) [a] [] cpos) pos :: rest) :=
  r_cons (fun c' => c' = ⟨(D, ds ++ [d]) :: L, δ, m⟩) (PS.imp (ps_expr (pe_bm PySem.F.plainAttrs_list PySem.F.slot_list_append PySem.F.type_list_append mt_append ho (a_cons ha a_nil hst) hbase hfew hline hst hplain) hs) fun DD σ H ⟨le, ii⟩ => ⟨ii.at_, fun v H2 sv k1 h1 r1 s1 => by
    subst r1
    have e0 : v = .ref D := s1
    subst e0
    obtain ⟨xs, hx, gx⟩ := h1.ls D ds List.mem_cons_self
    refine ⟨.inl ⟨rfl, _, .inl (.inl hx)⟩, (ii.go k1 h1).at_, fun vs H3 svs k2 h2 r2 s2 => ?_⟩
    subst r2
    obtain ⟨w, rfl, gw⟩ := DvAll.one s2
    obtain ⟨ys, hy, gy⟩ := h2.ls D ds List.mem_cons_self
    refine ⟨D, ys, w, rfl, rfl, hy, ?_, le.nx _ _ ⟨_, rfl, ?_⟩⟩
    · rw [gy.length]
      exact Nat.lt_of_le_of_lt hz (by decide)
    · have i3 := (ii.go k1 h1).go k2 h2
      have kD : Keep (Bs F.C ((D, ds) :: L)) H3 (upd H3 D (.lst (ys ++ [w]))) := keep_upd List.mem_cons_self
      refine ⟨fun a ha => keep_anchor (i3.an a ha) (i3.fr a ha) kD, i3.fr, i3.at_.sl.keep (kD.wider bs_bd), h2.put (gy.app (.cons gw .nil))⟩⟩) fun c' h => by subst h; exact g
/-- xs[i] = e -/
theorem r_item {D : Addr} {ds : List PD} {o i a : Expr} {d : PD} {z : Int} {j : Nat} {sp : Pos} (ha : Ed X F.C ((D, ds) :: L) δ a n m d) (ho : Ev X F.C ((D, ds) :: L) δ o m m (.ref D)) (hi : Ed X F.C ((D, ds) :: L) δ i m m (.int z)) (hj : ixN ds.length z = some j) (g : Bk X F ⟨(D, ds.set j d) :: L, δ, m⟩ D0 rest)
    (hg : ∀ v, assign (.Subscript o i sp) X.env v = (do
      let ov ← holding [v] (eval o X.env)
      let iv ← holding [v, ov] (eval i X.env)
      standAt sp
      holding [v, ov, iv] (setItem ov iv v)
      release [v, ov, iv] []) := by intro _; rfl)
    (hs : swapsWithSole [.Subscript o i sp] a pos.line X.env = pure false := by rfl) (hw : swappedStores [.Subscript o i sp] a X.env = pure none := by rfl) (h1 : (assignEach [.Subscript o i sp] X.env).map (·.2) = [assign (.Subscript o i sp) X.env] := by rfl) :
    Bk X F ⟨(D, ds) :: L, δ, n⟩ D0 (.Assign [.Subscript o i sp] a pos :: rest) :=
  r_cons (fun c' => c' = ⟨(D, ds.set j d) :: L, δ, m⟩) (PS.imp (ps_asg ha (pg_sub ho hi set_list hg) hs hw h1) fun DD σ H ⟨le, ii⟩ => ⟨ii.at_, fun v H2 sv k1 h1 r1 s1 => by
    subst r1
    have i1 := ii.go k1 h1
    refine ⟨i1.at_, fun w H3 sw k2 h2 r2 s2 => ⟨(i1.go k2 h2).at_, fun y H4 sy k3 h3 r3 s3 => ?_⟩⟩
    subst r2 r3
    have e0 : w = .ref D := s2
    subst e0
    cases s3
    obtain ⟨ys, hy, gy⟩ := h3.ls D ds List.mem_cons_self
    have i3 := (i1.go k2 h2).go k3 h3
    have kD : Keep (Bs F.C ((D, ds) :: L)) H4 (upd H4 D (.lst (ys.set j v))) := keep_upd List.mem_cons_self
    refine ⟨D, ys, z, j, rfl, rfl, hy, by rw [gy.length]; exact hj, le.nx _ _ ⟨_, rfl, fun a ha => keep_anchor (i3.an a ha) (i3.fr a ha) kD, i3.fr, i3.at_.sl.keep (kD.wider bs_bd), h3.put (gy.set j (Dv.keep s1 ((k2.trans k3).wider bs_bd)))⟩⟩⟩) fun c' h => by subst h; exact g
/-- while -/
theorem r_while {t : Expr} {body : List Stmt} (Iv : Nat → Cf → Prop) (u : Cf → Bool) (hp : PassesOwn (model X.prog X.w) X.A X.env X.xe) (h0 : ∃ k, Iv k ⟨L, δ, n⟩) (ht : ∀ k c', Iv k c' → T X F.C c'.L c'.δ t c'.n c'.n (u c'))
    (hb : ∀ k c', Iv k c' → u c' = true → Bk X F c' { D0 with nx := Post X.K F (fun c'' => ∃ k', k' < k ∧ Iv k' c''), ct := Post X.K F (fun c'' => ∃ k', k' < k ∧ Iv k' c''), bk := fun _ _ => False } body) (g : ∀ k c', Iv k c' → u c' = false → Bk X F c' D0 rest) :
    Bk X F ⟨L, δ, n⟩ D0 (.While t body [] pos :: rest) := by
  have hT : PT X t (fun σ H Q => ∃ k c', Iv k c' ∧ tTs X.K F.C c'.L c'.δ c'.n c'.n (u c') σ H Q) := ⟨fun pins s σ H Q I ⟨k, c', hi, q⟩ => (ht k c' hi).run pins s σ H Q I q⟩
  have hB : PSs X body (fun D σ H => ∃ k c', Iv k c' ∧ u c' = true ∧ tB X.K F c' { D0 with nx := Post X.K F (fun c'' => ∃ k', k' < k ∧ Iv k' c''), ct := Post X.K F (fun c'' => ∃ k', k' < k ∧ Iv k' c''), bk := fun _ _ => False } D σ H) :=
    ⟨fun pins s σ H D I ⟨k, c', hi, hu, q⟩ => (hb k c' hi hu).run pins s σ H D I q⟩
  refine r_cons (fun c' => ∃ k, Iv k c' ∧ u c' = false) (PS.imp (ps_while hp hT hB) fun D σ H ⟨le, i⟩ => ?_) fun c' ⟨k, hi, hu⟩ => g k c' hi hu
  obtain ⟨k0, i0⟩ := h0
  refine ⟨fun k σ H => ∃ c', Iv k c' ∧ In X.K F c' σ H, ⟨k0, _, i0, i⟩, fun k σ1 H1 ⟨c', hi, i1⟩ => ⟨k, c', hi, i1.at_, fun H2 k2 h2 => ?_⟩⟩
  have i2 := i1.go k2 h2
  cases hu : u c' with
  | true => exact iteT ⟨fun σ H => ∃ k', k' < k ∧ ∃ c'', Iv k' c'' ∧ In X.K F c'' σ H, fun σ' H' h => h, k, c', hi, hu, ⟨fun σ3 H3 ⟨c'', ⟨k', h1, h2⟩, i3⟩ => ⟨k', h1, c'', h2, i3⟩, le.rt, fun _ _ z => z.elim, fun σ3 H3 ⟨c'', ⟨k', h1, h2⟩, i3⟩ => ⟨k', h1, c'', h2, i3⟩⟩, i2⟩
  | false => exact iteF (le.nx _ _ ⟨c', ⟨k, hi, hu⟩, i2⟩)
def tFo (K : PySem.W.Frag) (F : Fm) (L : Ls) (ds : List PD) (Iv : Nat → Cf → Prop) (tgd : Tg) (D0 : Ends) : TS := fun D σ H => ∃ i d c' H1 δ', ds[i]? = some d ∧ Iv i c' ∧ tgd.put d c'.δ = some δ' ∧
  tB K (F.add (Bs F.C L) H1) ⟨c'.L, δ', c'.n⟩ { D0 with nx := Post K (F.add (Bs F.C L) H1) (Iv (i + 1)), ct := Post K (F.add (Bs F.C L) H1) (Iv (i + 1)), bk := fun _ _ => False } D σ H
/-- for -/
theorem r_for {tg iter : Expr} {body : List Stmt} {tgd : Tg} {ds : List PD} (Iv : Nat → Cf → Prop) (hc : X.calm = true) (hp : PassesOwn (model X.prog X.w) X.A X.env X.xe) (hi : Wi X F.C L δ tg iter n m ds) (hg : PG X tg (gT X.K F.C tgd)) (h0 : Iv 0 ⟨L, δ, m⟩)
    (hL : ∀ i c', Iv i c' → c'.L.map (·.1) = L.map (·.1))
    (hb : ∀ i d c' H1, ds[i]? = some d → Iv i c' → ∃ δ', tgd.put d c'.δ = some δ' ∧ Bk X (F.add (Bs F.C L) H1) ⟨c'.L, δ', c'.n⟩ { D0 with nx := Post X.K (F.add (Bs F.C L) H1) (Iv (i + 1)), ct := Post X.K (F.add (Bs F.C L) H1) (Iv (i + 1)), bk := fun _ _ => False } body)
    (g : ∀ c', Iv ds.length c' → Bk X F c' D0 rest) (hs : ∀ x, foldedSetIterable iter X.env x = pure x := by intro _; rfl) : Bk X F ⟨L, δ, n⟩ D0 (.For tg iter body [] pos :: rest) := by
  have hB : PSs X body (tFo X.K F L ds Iv tgd D0) :=
    ⟨fun pins s σ H D I ⟨i, d, c', H1, δ', h1, h2, h3, q⟩ => by
      obtain ⟨δ2, h4, bk⟩ := hb i d c' H1 h1 h2
      rw [h3] at h4
      cases h4
      exact bk.run pins s σ H D I q⟩
  refine r_cons (Iv ds.length) (PS.imp (ps_for hp hc hi hg hB hs) fun D σ H ⟨le, ii⟩ => ⟨ii.at_, fun J H1 k1 h1 goes => ?_⟩) g
  obtain ⟨G, g0, gGrow, gKeep, wk⟩ := goes.ex
  have i1 := ii.go k1 h1
  have bsE : ∀ i c', Iv i c' → Bs F.C c'.L = Bs F.C L := fun i c' h => by unfold Bs; rw [hL i c' h]
  have bdE : ∀ i c', Iv i c' → Bd F.C c'.L = Bd F.C L := fun i c' h => by unfold Bd; rw [bsE i c' h]
  have gAt : ∀ {i c' σ H}, Iv i c' → In X.K (F.add (Bs F.C L) H1) c' σ H → G (Bd F.C L) H := fun {i c' σ H} h j => gKeep _ _ _ g0 ((j.an (Bs F.C L, H1) List.mem_cons_self).wider bs_bd)
  refine for_it (g := gT X.K F.C tgd) (tb := tFo X.K F L ds Iv tgd D0) (D := D) (σ := σ) (H := H1) (wk (Bd F.C L)) (fun i σ H => Post X.K (F.add (Bs F.C L) H1) (Iv i) σ H) ⟨_, h0, ?_⟩ (fun i σ H _ ⟨c', hi, j⟩ => gAt hi j) ?_ fun σ2 H2 ⟨c', hi, j⟩ => le.nx _ _ ⟨c', hi, j.less⟩
  · refine ⟨fun a ha => ?_, fun a ha => ?_, i1.at_⟩
    · rcases List.mem_cons.mp ha with e | ha
      · rw [e]
        exact .refl _ _
      · exact i1.an a ha
    · rcases List.mem_cons.mp ha with e | ha
      · rw [e]
        exact fun b hb => .inl hb
      · exact i1.fr a ha
  · rintro i x σ2 H2 H3 hlt ⟨c', hiv, j⟩ y
    obtain ⟨sm, d, hd, dv⟩ := y fun b hb => j.at_.hold.known (by show b ∈ Bd F.C c'.L; rw [bdE i c' hiv]; exact hb)
    obtain ⟨δ', hput, _⟩ := hb i d c' H1 hd hiv
    have j3 := j.same sm
    refine ⟨c'.L, c'.δ, c'.n, d, δ', j3.at_, (by show Dv _ (Bd F.C c'.L) _ _ _; rw [bdE i c' hiv]; exact dv), hput, fun σ' t' _ => ⟨i, d, c', H1, δ', hd, hiv, hput, ⟨fun _ _ z => z, le.rt, fun _ _ z => z.elim, fun _ _ z => z⟩, j3.slots t'⟩⟩
end
end Wk
namespace Wk
open PySem PySem.Spec PyProof.Rows L2

/-- the built-in names are the built-in ones -/
structure Bt (mg : Str → Option Value) : Prop where
  len : mg "len" = none
  abs : mg "abs" = none
  int : mg "int" = none
  sum : mg "sum" = none
  tuple : mg "tuple" = none
  list : mg "list" = none
  range : mg "range" = none
  enumerate : mg "enumerate" = none
  all : mg "all" = none
  isinstance : mg "isinstance" = none
  repr : mg "repr" = none
  max : mg "max" = none
  min : mg "min" = none
  str : mg "str" = none
  bool : mg "bool" = none
  dict : mg "dict" = none

/-! ### isinstance -/
def tyN : PD → String
  | .none => "NoneType"
  | .bool _ => "bool"
  | .int _ => "int"
  | .str _ => "str"
  | .list _ => "list"
  | .tuple _ => "tuple"
  | .dict _ => "dict"
theorem Dv.ty {K : PySem.W.Frag} {B : List Addr} {H : Hp} {v : V} {d : PD} (h : Dv K B H v d) : TyX K H v (.type (tyN d)) := by
  cases h with
  | non => exact .base .non
  | bl b => exact .base (.bl b)
  | int i => exact .base (.int i)
  | str x => exact .base (.str x)
  | lst r g =>
    rcases r with ⟨_, r | ⟨o, r⟩⟩ | r
    · exact .base (.lst r)
    · exact .base (.frz r)
    · obtain ⟨its, n, hk, _⟩ := r
      exact .kList hk rfl
  | tup r g =>
    rcases r with ⟨_, r | ⟨o, r⟩⟩ | r
    · exact .base (.tup r)
    · exact .fTuple r
    · rcases r with r | ⟨o, its, n, hk, hc, _⟩
      · exact (rd_no r).elim
      · exact .kTuple hk hc
  | dic o n e =>
    rcases o with rfl | ⟨kv, rfl, _⟩
    · exact .base (.dT e)
    · exact .base (.dK e)
def isI : PD → Bool
  | .int _ => true
  | .bool _ => true
  | _ => false
def isB : PD → Bool
  | .bool _ => true
  | _ => false
def isT : PD → Bool
  | .tuple _ => true
  | _ => false
def isS : PD → Bool
  | .str _ => true
  | _ => false
theorem kit_int : ∀ d : PD, kitB (tyN d) "int" = some (isI d)
  | .none => show kitB "NoneType" "int" = some false by decide +kernel
  | .bool _ => show kitB "bool" "int" = some true by decide +kernel
  | .int _ => show kitB "int" "int" = some true by decide +kernel
  | .str _ => show kitB "str" "int" = some false by decide +kernel
  | .list _ => show kitB "list" "int" = some false by decide +kernel
  | .tuple _ => show kitB "tuple" "int" = some false by decide +kernel
  | .dict _ => show kitB "dict" "int" = some false by decide +kernel
theorem kit_bool : ∀ d : PD, kitB (tyN d) "bool" = some (isB d)
  | .none => show kitB "NoneType" "bool" = some false by decide +kernel
  | .bool _ => show kitB "bool" "bool" = some true by decide +kernel
  | .int _ => show kitB "int" "bool" = some false by decide +kernel
  | .str _ => show kitB "str" "bool" = some false by decide +kernel
  | .list _ => show kitB "list" "bool" = some false by decide +kernel
  | .tuple _ => show kitB "tuple" "bool" = some false by decide +kernel
  | .dict _ => show kitB "dict" "bool" = some false by decide +kernel
theorem kit_tuple : ∀ d : PD, kitB (tyN d) "tuple" = some (isT d)
  | .none => show kitB "NoneType" "tuple" = some false by decide +kernel
  | .bool _ => show kitB "bool" "tuple" = some false by decide +kernel
  | .int _ => show kitB "int" "tuple" = some false by decide +kernel
  | .str _ => show kitB "str" "tuple" = some false by decide +kernel
  | .list _ => show kitB "list" "tuple" = some false by decide +kernel
  | .tuple _ => show kitB "tuple" "tuple" = some true by decide +kernel
  | .dict _ => show kitB "dict" "tuple" = some false by decide +kernel
theorem kit_str : ∀ d : PD, kitB (tyN d) "str" = some (isS d)
  | .none => show kitB "NoneType" "str" = some false by decide +kernel
  | .bool _ => show kitB "bool" "str" = some false by decide +kernel
  | .int _ => show kitB "int" "str" = some false by decide +kernel
  | .str _ => show kitB "str" "str" = some true by decide +kernel
  | .list _ => show kitB "list" "str" = some false by decide +kernel
  | .tuple _ => show kitB "tuple" "str" = some false by decide +kernel
  | .dict _ => show kitB "dict" "str" = some false by decide +kernel
section
variable {X : Cx} {C : Ct} {L : Ls} {δ : Dl} {n m k l : Nat} {a b c e f : Expr} {es : List Expr} {pos p q : Pos} {d : PD} {ds : List PD} {x : Str}
theorem e_isi {ty : Str} {tn : String} {u : Bool} (hm : X.mg "isinstance" = none) (hm2 : X.mg ty = none) (hv : bootBuiltins ty = some (.type tn)) (hk : kitB (tyN d) tn = some u) (h : Ed X C L δ e n m d) (hn : ty ≠ "__name__" := by decide) (hdb : (ty == ("__debug__" : Str)) = false := by decide)
    (hg : Gl X "isinstance" := by rfl) (hg2 : Gl X ty := by rfl) (he : starEach [e, .Name ty q] X.env = (false, eval e X.env) :: starEach [.Name ty q] X.env := by rfl) (he2 : starEach [.Name ty q] X.env = (false, eval (.Name ty q) X.env) :: starEach [] X.env := by rfl)
    (hpl : (backTo pos (starEach [.Name ty q] X.env)).any (·.1) = false := by rfl) : Ed X C L δ (.Call (.Name "isinstance" p) [e, .Name ty q] [] pos) n m (.bool u) :=
  PE.imp (pe_callB call_isi hg hm (by decide +kernel) (pa_cons h (pa_cons (pe_bltn hg2 hm2 hv (v := .ty tn) rfl hn hdb) pa_nil he2) he) (he := he) (hpl := hpl)) fun σ H Q ⟨t, q⟩ => ⟨t, fun v H2 sv k1 h1 r1 s1 => by
    subst r1
    exact ⟨v, .ty tn, _, _, u, rfl, .ty tn, Dv.ty s1, kit_ty hk, q _ H2 _ k1 h1 rfl (Dv.bl u)⟩⟩
theorem boot_ty_int : bootBuiltins "int" = some (.type "int") := by decide +kernel
theorem boot_ty_bool : bootBuiltins "bool" = some (.type "bool") := by decide +kernel
theorem boot_ty_tuple : bootBuiltins "tuple" = some (.type "tuple") := by decide +kernel
theorem boot_ty_str : bootBuiltins "str" = some (.type "str") := by decide +kernel
theorem e_isInt (z : Bt X.mg) (h : Ed X C L δ e n m d) (hg : Gl X "isinstance" := by rfl) (hg2 : Gl X "int" := by rfl) (he : starEach [e, .Name "int" q] X.env = (false, eval e X.env) :: starEach [.Name "int" q] X.env := by rfl) (he2 : starEach [.Name "int" q] X.env = (false, eval (.Name "int" q) X.env) :: starEach [] X.env := by rfl)
    (hpl : (backTo pos (starEach [.Name "int" q] X.env)).any (·.1) = false := by rfl) : Ed X C L δ (.Call (.Name "isinstance" p) [e, .Name "int" q] [] pos) n m (.bool (isI d)) := e_isi z.isinstance z.int boot_ty_int (kit_int d) h (hg := hg) (hg2 := hg2) (he := he) (he2 := he2) (hpl := hpl)
theorem e_isBool (z : Bt X.mg) (h : Ed X C L δ e n m d) (hg : Gl X "isinstance" := by rfl) (hg2 : Gl X "bool" := by rfl) (he : starEach [e, .Name "bool" q] X.env = (false, eval e X.env) :: starEach [.Name "bool" q] X.env := by rfl) (he2 : starEach [.Name "bool" q] X.env = (false, eval (.Name "bool" q) X.env) :: starEach [] X.env := by rfl)
    (hpl : (backTo pos (starEach [.Name "bool" q] X.env)).any (·.1) = false := by rfl) : Ed X C L δ (.Call (.Name "isinstance" p) [e, .Name "bool" q] [] pos) n m (.bool (isB d)) := e_isi z.isinstance z.bool boot_ty_bool (kit_bool d) h (hg := hg) (hg2 := hg2) (he := he) (he2 := he2) (hpl := hpl)
theorem e_isTup (z : Bt X.mg) (h : Ed X C L δ e n m d) (hg : Gl X "isinstance" := by rfl) (hg2 : Gl X "tuple" := by rfl) (he : starEach [e, .Name "tuple" q] X.env = (false, eval e X.env) :: starEach [.Name "tuple" q] X.env := by rfl) (he2 : starEach [.Name "tuple" q] X.env = (false, eval (.Name "tuple" q) X.env) :: starEach [] X.env := by rfl)
    (hpl : (backTo pos (starEach [.Name "tuple" q] X.env)).any (·.1) = false := by rfl) : Ed X C L δ (.Call (.Name "isinstance" p) [e, .Name "tuple" q] [] pos) n m (.bool (isT d)) := e_isi z.isinstance z.tuple boot_ty_tuple (kit_tuple d) h (hg := hg) (hg2 := hg2) (he := he) (he2 := he2) (hpl := hpl)
theorem e_isStr (z : Bt X.mg) (h : Ed X C L δ e n m d) (hg : Gl X "isinstance" := by rfl) (hg2 : Gl X "str" := by rfl) (he : starEach [e, .Name "str" q] X.env = (false, eval e X.env) :: starEach [.Name "str" q] X.env := by rfl) (he2 : starEach [.Name "str" q] X.env = (false, eval (.Name "str" q) X.env) :: starEach [] X.env := by rfl)
    (hpl : (backTo pos (starEach [.Name "str" q] X.env)).any (·.1) = false := by rfl) : Ed X C L δ (.Call (.Name "isinstance" p) [e, .Name "str" q] [] pos) n m (.bool (isS d)) := e_isi z.isinstance z.str boot_ty_str (kit_str d) h (hg := hg) (hg2 := hg2) (he := he) (he2 := he2) (hpl := hpl)

/-! ### repr -/
theorem cr_reprD (gu : X.A.guards = some []) (hu : X.A.units + 64 < cLine) : CallR X (.builtin "repr") (fun xs H Q => ∃ v d, xs = [v] ∧ Dp X.K H v d ∧ PyData.showable d = true ∧ PyData.hasDict d = false ∧ d.shown.length ≤ sizeLine ∧ d.depth ≤ 62 ∧ Q (.str d.shown) H) := by
  intro pins s σ H xs us Q I r h
  obtain ⟨v, d, rfl, dp, hs, hd, hz, hdep, hq⟩ := h
  obtain ⟨u, rfl, rv⟩ := vals1 r
  have fin : ∀ h' tk t, (∀ b o, s.heap.get? b = some o → h'.get? b = some o) → EP X pins σ Q (.str d.shown t) { s with heap := h', toks := tk } := fun h' tk t hk => ⟨.str d.shown, H, I.kept hk, ⟨_, rfl⟩, hq⟩
  have rd := Dp.reads I d v u dp rv
  cases d with
  | none =>
    cases dp
    cases rv
    exact PySem.P.repr_of_none (fin _ _ _ fun _ _ e => e)
  | bool b =>
    cases dp
    cases rv
    exact PySem.P.repr_of_bool (fin _ _ _ fun _ _ e => e)
  | int i =>
    cases dp
    obtain ⟨t, rfl⟩ := rv
    exact PySem.P.repr_of_int (by simpa [PyData.showable] using hs) (fin _ _ _ fun _ _ e => e)
  | str x =>
    cases dp
    obtain ⟨t, rfl⟩ := rv
    exact PySem.P.repr_of_str (fin _ _ _ fun _ _ e => e) hz
  | list ds =>
    cases dp
    cases rv
    obtain ⟨as, rd⟩ := rd
    exact PySem.repr_of_reads' rd hs (PyData.noDict_hsm hd) gu (by omega) (fun _ _ e => e) (fun h' t tk hk => fin h' tk t hk) hz
  | tuple ds =>
    cases dp
    cases rv
    obtain ⟨as, rd⟩ := rd
    exact PySem.repr_of_reads' rd hs (PyData.noDict_hsm hd) gu (by omega) (fun _ _ e => e) (fun h' t tk hk => fin h' tk t hk) hz
  | dict _ => cases hd
/-- what can be written out -/
def Showy (d : PD) : Prop := PyData.showable d = true ∧ PyData.hasDict d = false ∧ d.shown.length ≤ sizeLine ∧ d.depth ≤ 62
theorem e_repr {r : Nat} (z : Bt X.mg) (gu : X.A.guards = some []) (hr : Room r X.A) (hs : Showy d) (h : Ed X C L δ e n m d) (hg : Gl X "repr" := by rfl) (he : starEach [e] X.env = (false, eval e X.env) :: starEach [] X.env := by rfl) : Ed X C L δ (.Call (.Name "repr" p) [e] [] pos) n m (.str d.shown) :=
  e_callB (cr_reprD gu hr.units) (R := Eq ([d].map SV.d)) (fun vs svs H Q h1 e1 s1 q => by
    subst e1
    obtain ⟨v, rfl, g⟩ := DvAll.one s1
    obtain ⟨a, b, c, d'⟩ := hs
    exact ⟨v, d, rfl, Dv.dp _ _ b g, a, b, c, d', q _ H _ (.refl H) rfl (Dv.str _)⟩) z.repr (by decide +kernel) (a_cons h a_nil he) hg (he := he)
/-- repr of what may be several things -/
theorem e_reprR {r : Nat} {R : PD → Prop} (z : Bt X.mg) (gu : X.A.guards = some []) (hr : Room r X.A) (hs : ∀ d, R d → Showy d) (h : E X C L δ e n m (fun sv => ∃ d, sv = .d d ∧ R d)) (hg : Gl X "repr" := by rfl) (he : starEach [e] X.env = (false, eval e X.env) :: starEach [] X.env := by rfl) :
    E X C L δ (.Call (.Name "repr" p) [e] [] pos) n m (fun sv => ∃ d, sv = .d (.str d.shown) ∧ R d) :=
  e_callB (cr_reprD gu hr.units) (fun vs svs H Q h1 e1 s1 q => by
    obtain ⟨s, r, rfl, ⟨d, rfl, hR⟩, rfl⟩ := e1
    obtain ⟨v, rfl, g⟩ := DvAll.one (d := d) s1
    obtain ⟨a, b, c, d'⟩ := hs d hR
    exact ⟨v, d, rfl, Dv.dp _ _ b g, a, b, c, d', q _ H (.d (.str d.shown)) (.refl H) ⟨d, rfl, hR⟩ (Dv.str _)⟩) z.repr (by decide +kernel) (ar_cons h ar_nil he) hg (he := he)

/-! ### more built-in functions -/
theorem e_gcd {i j : Int} (hm : X.mg "gcd" = some (.builtin "math.gcd")) (ha : Ed X C L δ a n m (.int i)) (hb : Ed X C L δ b m k (.int j)) (hg : Gl X "gcd" := by rfl) (he : starEach [a, b] X.env = (false, eval a X.env) :: starEach [b] X.env := by rfl) (he2 : starEach [b] X.env = (false, eval b X.env) :: starEach [] X.env := by rfl)
    (hpl : (backTo pos (starEach [b] X.env)).any (·.1) = false := by rfl) : Ed X C L δ (.Call (.Name "gcd" p) [a, b] [] pos) n k (.int ((Nat.gcd i.natAbs j.natAbs : Nat) : Int)) :=
  PE.imp (pe_callBfun cr_gcd hg hm (a_cons ha (a_cons hb a_nil he2) he) (he := he) (hpl := hpl)) fun σ H Q ⟨t, q⟩ => ⟨t, fun vs H2 svs k1 h1 e1 s1 => by
    subst e1
    obtain ⟨v, w, rfl, g, g'⟩ := DvAll.two s1
    cases g
    cases g'
    exact ⟨i, j, rfl, q _ H2 _ k1 h1 rfl (Dv.int _)⟩⟩
theorem e_max {i j : Int} (z : Bt X.mg) (hc : X.calm = true) (ha : Ed X C L δ a n m (.int i)) (hb : Ed X C L δ b m k (.int j)) (hg : Gl X "max" := by rfl) (he : starEach [a, b] X.env = (false, eval a X.env) :: starEach [b] X.env := by rfl) (he2 : starEach [b] X.env = (false, eval b X.env) :: starEach [] X.env := by rfl)
    (hpl : (backTo pos (starEach [b] X.env)).any (·.1) = false := by rfl) : Ed X C L δ (.Call (.Name "max" p) [a, b] [] pos) n k (.int (if j > i then j else i)) :=
  e_callB (call_max2 hc) (R := Eq ([.int i, .int j].map SV.d)) (fun vs svs H Q h1 e1 s1 q => by
    subst e1
    obtain ⟨v, w, rfl, g, g'⟩ := DvAll.two s1
    cases g
    cases g'
    exact ⟨i, j, rfl, q _ H _ (.refl H) rfl (Dv.int _)⟩) z.max (by decide +kernel) (a_cons ha (a_cons hb a_nil he2) he) hg (he := he) (hpl := hpl)
theorem e_min {i j : Int} (z : Bt X.mg) (hc : X.calm = true) (ha : Ed X C L δ a n m (.int i)) (hb : Ed X C L δ b m k (.int j)) (hg : Gl X "min" := by rfl) (he : starEach [a, b] X.env = (false, eval a X.env) :: starEach [b] X.env := by rfl) (he2 : starEach [b] X.env = (false, eval b X.env) :: starEach [] X.env := by rfl)
    (hpl : (backTo pos (starEach [b] X.env)).any (·.1) = false := by rfl) : Ed X C L δ (.Call (.Name "min" p) [a, b] [] pos) n k (.int (if j < i then j else i)) :=
  e_callB (call_min2 hc) (R := Eq ([.int i, .int j].map SV.d)) (fun vs svs H Q h1 e1 s1 q => by
    subst e1
    obtain ⟨v, w, rfl, g, g'⟩ := DvAll.two s1
    cases g
    cases g'
    exact ⟨i, j, rfl, q _ H _ (.refl H) rfl (Dv.int _)⟩) z.min (by decide +kernel) (a_cons ha (a_cons hb a_nil he2) he) hg (he := he) (hpl := hpl)
theorem rgV_data {K : PySem.W.Frag} {B : List Addr} {H : Hp} (lo hi : Int) : DvAll K B H (rgV lo hi) (rangeD lo (hi - lo).toNat) := by
  unfold rgV rangeD
  generalize List.range (hi - lo).toNat = l
  induction l with
  | nil => exact .nil
  | cons x l ih => exact .cons (.int _) ih
/-- list(range(e)) -/
theorem e_listRg {i : Int} {rp ra : Pos} (z : Bt X.mg) (hc : X.calm = true) (hz : 0 ≤ i ∧ i ≤ 16777216) (h : Ed X C L δ e n m (.int i)) (hg : Gl X "list" := by rfl) (hg2 : Gl X "range" := by rfl) (he : starEach [e] X.env = (false, eval e X.env) :: starEach [] X.env := by rfl)
    (he2 : starEach [.Call (.Name "range" rp) [e] [] ra] X.env = (false, eval (.Call (.Name "range" rp) [e] [] ra) X.env) :: starEach [] X.env := by rfl) : Ed X C L δ (.Call (.Name "list" p) [.Call (.Name "range" rp) [e] [] ra] [] pos) n m (.list (rangeD 0 i.toNat)) :=
  PE.imp (pe_listRg hc hg z.list (prg_1 hg2 z.range h he) he2) fun σ H Q ⟨t, q⟩ => ⟨t, fun v H2 sv k1 h1 r1 s1 => by
    subst r1
    cases s1
    refine ⟨i, rfl, .of_le (by omega) hz.2 (by omega) hz.1, fun r nr => ?_⟩
    have sm := same_new (o := .lst (rgV 0 i)) nr
    have g : DvAll X.K (Bd C L) H2 (rgV 0 i) (rangeD 0 i.toNat) := by
      have g := rgV_data (K := X.K) (B := Bd C L) (H := H2) 0 i
      rw [Int.sub_zero] at g
      exact g
    exact q _ _ _ (k1.trans (.same sm)) (h1.same sm) rfl (Dv.lst (.inl ⟨h1.fresh nr, .inl upd_same⟩) (g.keep (.same sm)))⟩
/-- xs[:k] -/
theorem cut_data {K : PySem.W.Frag} {B : List Addr} {H : Hp} : ∀ {ds : List PD} {vs : List V} (a b : Nat), DvAll K B H vs ds → DvAll K B H ((vs.drop a).take b) ((ds.drop a).take b)
  | [], _, a, b, h => by cases h; simp; exact .nil
  | d :: ds, _, 0, 0, h => by simp; exact .nil
  | d :: ds, _, 0, b + 1, h => by
    cases h with
    | cons x y => exact .cons x (by have := cut_data 0 b y; simpa using this)
  | d :: ds, _, a + 1, b, h => by
    cases h with
    | cons x y => simpa using cut_data a b y
theorem e_upTo {j : Nat} {p2 : Pos} (ha : Ed X C L δ a n m (.list ds)) (hb : Ed X C L δ b m k (.int (j : Nat))) : Ed X C L δ (.Subscript a (.Slice none (some b) none p2) pos) n k (.list (ds.take j)) :=
  PE.imp (pe_slice sl_list ha po_none (po_some hb)) fun σ H Q ⟨t, q⟩ => ⟨t, fun v H2 sv k1 h1 r1 s1 => ⟨t.go k1 h1, fun w H3 sw k2 h2 r2 s2 => by
    subst r1 r2
    cases s2
    have s3 := Dv.keep s1 (k2.wider bs_bd)
    cases s3 with
    | @lst r xs _ r' g =>
      refine ⟨_, rfl, r, xs, rfl, r'.sq, fun y ny => ?_⟩
      have sm := same_new (o := .lst (cutV xs none (some (j : Int)))) ny
      refine q _ _ _ (k1.trans (k2.trans (.same sm))) (h2.same sm) rfl (Dv.lst (.inl ⟨h2.fresh ny, .inl upd_same⟩) (DvAll.keep ?_ (.same sm)))
      unfold cutV
      rw [show HT.sIx xs.length xs.length (some (j : Int)) = min j xs.length from HT.sIx_nat _ _ _, HT.sIx_none, Nat.sub_zero]
      have g2 := cut_data 0 (min j xs.length) g
      rw [List.drop_zero] at g2 ⊢
      rw [List.drop_zero] at g2
      have e1 : ds.take (min j xs.length) = ds.take j := by
        rw [g.length]
        by_cases q : j ≤ ds.length
        · rw [Nat.min_eq_left q]
        · rw [Nat.min_eq_right (by omega), List.take_of_length_le (Nat.le_refl _), List.take_of_length_le (by omega)]
      rw [e1] at g2
      exact g2⟩⟩
/-- all(..) of a list of things that are True -/
theorem e_allT (z : Bt X.mg) (hc : X.calm = true) (h : E X C L δ e n m (fun sv => ∃ es, sv = .d (.list es) ∧ ∀ d, d ∈ es → d = .bool true)) (hg : Gl X "all" := by rfl) (he : starEach [e] X.env = (false, eval e X.env) :: starEach [] X.env := by rfl) : Ed X C L δ (.Call (.Name "all" p) [e] [] pos) n m (.bool true) :=
  e_callB (cr_all hc) (fun vs svs H Q h1 e1 s1 q => by
    obtain ⟨s, r, rfl, ⟨es, rfl, hR⟩, rfl⟩ := e1
    obtain ⟨v, rfl, g⟩ := DvAll.one (d := .list es) s1
    have e2 : es = (List.replicate es.length true).map PyData.bool := by
      rw [List.map_replicate]
      exact List.eq_replicate_iff.mpr ⟨rfl, hR⟩
    cases g with
    | lst r g =>
      rw [e2] at g
      have e3 := g.bools
      subst e3
      refine ⟨_, List.replicate es.length true, rfl, r.sq, ?_⟩
      rw [show (List.replicate es.length true).all id = true by simp]
      exact q _ H (.d (.bool true)) (.refl H) rfl (Dv.bl _)) z.all (by decide +kernel) (ar_cons h ar_nil he) hg (he := he)

/-! ### t.index(x), t a tuple of the text -/
structure KT (K : PySem.W.Frag) (a : Addr) (ds : List PD) : Prop where
  at_ : ∃ o, K.lookup a = some o ∧ o.cls = .type "tuple" ∧ o.dict = none
  dv : ∀ B H, Dv K B H (.ref a) (.tuple ds)
theorem e_kt {r : Addr} (h : KT X.K r ds) (ha : Ev X C L δ e n m (.ref r)) : Ed X C L δ e n m (.tuple ds) := PE.imp ha fun σ H Q ⟨t, q⟩ => ⟨t, fun v H2 sv k1 h1 r1 s1 => by
  subst r1
  have e0 : v = .ref r := s1
  subst e0
  exact q _ H2 _ k1 h1 rfl (h.dv _ _)⟩
theorem mt_tindexD (hu : X.A.units + 66 < cLine) : MtR X "tuple.index" (fun x xs H Q => ∃ (r : Addr) (y : V) (d : PD) (ds : List PD), x = .ref r ∧ xs = [y] ∧ Dp X.K H (.ref r) (.tuple ds) ∧ Dp X.K H y d ∧ SeqAt.shaped d = true ∧ SeqAt.shaped (.tuple ds) = true ∧
    true ∈ ds.map (fun z => PyData.eqv z d) ∧ Q (.int (((ds.map (fun z => PyData.eqv z d)).idxOf true : Nat) : Int)) H) := by
  intro pins s σ H x xs v us Q I rx rxs h
  obtain ⟨r, y, d, ds, rfl, rfl, h1, h2, s1, s2, hm, hq⟩ := h
  cases rx
  obtain ⟨u, rfl, ry⟩ := vals1 rxs
  cases h1 with
  | tup hs ha =>
    obtain ⟨its, rv, pl, hz⟩ := I.tuple hs
    obtain ⟨as, ra⟩ := Dp.readsAll I ds _ its ha rv
    obtain ⟨bs, rb⟩ := Dp.reads I d y u h2 ry
    have cl2 : PyData.canLayAll0 ds = true := SeqAt.canLay_of_shaped s2
    have len : its.length = ds.length := by
      have e1 := rv.length
      have e2 : ∀ {vs : List V} {es : List PD}, DpAll X.K H vs es → vs.length = es.length := by
        intro vs es g
        induction es generalizing vs with
        | nil => cases g; rfl
        | cons e es ih =>
          cases g with
          | cons _ g => rw [List.length_cons, List.length_cons, ih g]
      rw [← e1, e2 ha]
    have items : ∀ {vs : List Value} {es : List PD} {cs : List Addr}, ReadsAll s.heap vs es cs → PyData.canLayAll0 es = true → ∀ j (g1 : j < vs.length) (g2 : j < es.length), SeqAt.EqAt X.A.in1 s vs[j] u (PyData.eqv es[j] d) := by
      intro vs es cs g
      induction es generalizing vs cs with
      | nil => intro _ j _ g2; exact absurd g2 (Nat.not_lt_zero _)
      | cons e es ih =>
        cases g with
        | cons q1 q2 =>
          intro hc j g1 g2
          have hc2 : (PyData.canLay0 e && PyData.canLayAll0 es) = true := hc
          rw [Bool.and_eq_true] at hc2
          cases j with
          | zero =>
            refine SeqAt.eqAt_reads e d X.A.in1 s _ u _ bs q1 rb hc2.1 (SeqAt.canLay_of_shaped s1) ?_
            have := SeqAt.depth_of_shaped s1
            have h3 : min e.depth d.depth ≤ d.depth := Nat.min_le_right _ _
            show X.A.units + 1 + min e.depth d.depth < cLine
            omega
          | succ j => exact ih q2 hc2.2 j (Nat.lt_of_succ_lt_succ g1) (Nat.lt_of_succ_lt_succ g2)
    refine SeqAt.call_tuple_index (ks := ds.map (fun z => PyData.eqv z d)) (k := true) pl ⟨by rw [List.length_map]; exact len, fun j g1 g2 => ?_⟩ hm ⟨.int _, H, I.tok _, ⟨_, rfl⟩, hq⟩
    rw [List.length_map] at g2
    rw [List.getElem_map]
    exact (items ra cl2 j g1 g2).cast (by cases PyData.eqv ds[j] d <;> rfl)
theorem e_tindex {r : Nat} {w : Addr} {o : Expr} {apos cpos : Pos} (hr : Room r X.A) (kt : KT X.K w ds) (s2 : SeqAt.shaped (.tuple ds) = true) (ho : Ev X C L δ o n m (.ref w)) (ha : Ed X C L δ a m k d) (s1 : SeqAt.shaped d = true) (hm : true ∈ ds.map (fun z => PyData.eqv z d))
    (hbase : attributeBase o "index" X.env (eval o X.env) = eval o X.env := by rfl)
    (hfew : ((backTo cpos (starEach [a] X.env)).all (fun x => !x.1) && (backToKw cpos (keywordEach [] X.env)).all (fun x => x.1.isSome)
      && decide ([a].length + ([] : List Keyword).length + (if ([] : List Keyword).isEmpty then 0 else 1) < 30)) = true := by rfl)
    (hline : (apos.endLine == cpos.line) = true := by rfl) (hst : starEach [a] X.env = (false, eval a X.env) :: starEach [] X.env := by rfl) (hplain : (backTo cpos (starEach [] X.env)).any (·.1) = false := by rfl) :
    Ed X C L δ (.Call (.Attribute o "index" apos) [a] [] cpos) n k (.int (((ds.map (fun z => PyData.eqv z d)).idxOf true : Nat) : Int)) :=
  PE.imp (pe_bm PySem.F.plainAttrs_tuple PySem.F.slot_tuple_index PySem.F.type_tuple_index (mt_tindexD (by have := hr.un; omega)) ho (a_cons ha a_nil hst) hbase hfew hline hst hplain) fun σ H Q ⟨t, q⟩ => ⟨t, fun v H2 sv k1 h1 r1 sv1 => by
    subst r1
    have e0 : v = .ref w := sv1
    subst e0
    refine ⟨.inr (.inl ⟨rfl, kt.at_⟩), t.go k1 h1, fun vs H3 svs k2 h2 r2 sv2 => ?_⟩
    subst r2
    obtain ⟨y, rfl, gy⟩ := DvAll.one sv2
    exact ⟨w, y, d, ds, rfl, rfl, Dv.dp _ _ (nd_shaped s2) (kt.dv (Bd C L) H3), Dv.dp _ _ (nd_shaped s1) gy, s1, s2, hm, q _ H3 _ (k1.trans k2) h2 rfl (Dv.int _)⟩⟩
end

/-! ### defs -/
theorem okP {P : Program} {w : World} {K : PySem.W.Frag} {mg : Str → Option Value} {base : Heap} {k : Nat} {f : Addr} {x qual : Str} {st : Stmt} {fd : FuncData} {N ps : List Str} {ok : List PD → SV → Prop} (F : Fun K x qual st f fd) (S : FnScope N ps (defScope st))
    (hl : ∀ ds sv, ok ds sv → ds.length = ps.length)
    (hb : ∀ (cdv : Value) (A : Around) (outer : List Env) (s : Shared) (H : Hp) (E : XK) (B : List Addr) (ds : List PD) (sv : SV) (fm : Fm) (D0 : Ends), ok ds sv → (cxOf CX0 P w K mg base N qual (defScope st) f cdv A outer s H E).nox.A.guards = some [] →
      Room k (cxOf CX0 P w K mg base N qual (defScope st) f cdv A outer s H E).nox.A → fm.C = ⟨none, B⟩ → Wt K fm D0.rt (fun _ z => z = sv) → (sv = .d .none → ∀ c σ H', In K fm c σ H' → D0.nx σ H') →
      Bk (cxOf CX0 P w K mg base N qual (defScope st) f cdv A outer s H E).nox fm ⟨[], ds.map (fun d => some (SV.d d)) ++ List.replicate (N.length - ps.length) none, 0⟩ D0 (defBody st)) : Gd P w K mg base CX0 (k + 1) f fd ps (SpP K ok) := by
  have slots : ∀ {B : List Addr} {H : Hp} {vs : List V} {ds : List PD} {j : Nat}, DvAll K B H vs ds → Sl K B H (vs.map some ++ List.replicate j none) (ds.map (fun d => some (SV.d d)) ++ List.replicate j none) := by
    intro B H vs ds j g
    have e := g.length
    refine ⟨by simp [e], fun i sv h => ?_⟩
    by_cases hi : i < ds.length
    · rw [List.getElem?_append_left (by simpa using hi), List.getElem?_map] at h
      cases q : ds[i]? with
      | none =>
        rw [q] at h
        cases h
      | some d =>
        rw [q] at h
        cases h
        obtain ⟨v, h1, h2⟩ := g.get q
        exact ⟨v, by rw [List.getElem?_append_left (by simpa [e] using hi), List.getElem?_map, h1]; rfl, h2⟩
    · rw [List.getElem?_append_right (by simpa using hi), List.getElem?_replicate] at h
      split at h <;> cases h
  refine gd_of F S (fun vs H Q E ⟨B, ds, d, _, g, o, _⟩ => by rw [g.length]; exact hl ds d o) fun cdv A outer s H vs Q E gu hr ⟨B, ds, sv, kn, g, o, q⟩ => ?_
  refine ⟨_, (hb cdv A outer s H E B ds sv ⟨⟨none, B⟩, [([], H)]⟩ { nx := fun _ H' => Q .non H', rt := Q } o gu hr rfl ?_ ?_).nox, ?_⟩
  · intro v H' z m a _ e s1
    subst e
    exact q v H' (fun b u eb => a ([], H) List.mem_cons_self b u List.not_mem_nil eb) s1
  · intro e c σ H' i
    subst e
    exact q .non H' (fun b u eb => i.an ([], H) List.mem_cons_self b u List.not_mem_nil eb) Dv.non
  · refine ⟨.refl _, fun a ha => ?_, fun a ha b hb => ?_, ?_, ?_⟩
    · rw [List.mem_singleton.mp ha]
      exact .refl _ _
    · exact absurd hb List.not_mem_nil
    · unfold L2.start
      rw [g.length, hl ds sv o]
      exact slots g
    · exact ⟨fun p e => (by cases e), fun _ _ z => absurd z List.not_mem_nil, fun _ _ z => absurd z List.not_mem_nil, List.nodup_nil, kn, fun _ z => absurd z List.not_mem_nil⟩
end Wk
namespace Wk
open PySem PySem.Spec PyProof.Rows L2
section
variable {X : Cx} {F : Fm} {L : Ls} {δ : Dl} {n m k l : Nat} {D0 : Ends} {rest : List Stmt} {e : Expr} {es : List Expr} {pos p q : Pos} {x : Str} {d : PD} {ds : List PD}
theorem r_retG {S : SV → Prop} (he : E X F.C L δ e n m S) (h : ∀ σ v H sv, In X.K F ⟨L, δ, m⟩ σ H → S sv → SvOk X.K (Bd F.C L) H v sv → D0.rt v H) : Bk X F ⟨L, δ, n⟩ D0 (.Return (some e) pos :: rest) :=
  r_cons (fun _ => False) (PS.imp (ps_ret he) fun D σ H ⟨le, i⟩ => ⟨i.at_, fun v H2 sv k1 h1 r1 s1 => le.rt v H2 (h σ v H2 sv (i.go k1 h1) r1 s1)⟩) fun _ z => z.elim
/-- return of a new list of written items -/
theorem r_retLst (he : Dd X F.C L δ es n m ds) (hz : ds.length ≤ 1000) (h : ∀ σ H r vs, In X.K F ⟨L, δ, m⟩ σ H → DvAll X.K (Bd F.C L) H vs ds → H r = none → D0.rt (.ref r) (upd H r (.lst vs))) : Bk X F ⟨L, δ, n⟩ D0 (.Return (some (.List es p)) pos :: rest) :=
  r_cons (fun _ => False) (PS.imp (ps_ret (pe_lst he)) fun D σ H ⟨le, i⟩ => ⟨i.at_, fun vs H2 svs k1 h1 r1 s1 => by
    subst r1
    have g := s1.data
    refine ⟨?_, fun r nr => le.rt _ _ (h σ H2 r vs (i.go k1 h1) g nr)⟩
    rw [g.length]
    exact Nat.le_of_lt (small1000 hz)⟩) fun _ z => z.elim
end
section
variable {X : Cx} {C : Ct} {L : Ls} {δ : Dl} {n m k : Nat} {a b : Expr} {pos : Pos} {ds : List PD}
/-- an item at a drawn place -/
theorem e_ixLR (ha : Ed X C L δ a n m (.list ds)) (hb : E X C L δ b m k (fun sv => ∃ d, sv = .d d ∧ ∃ i : Int, d = .int i ∧ 0 ≤ i ∧ i < (ds.length : Nat))) (hs : PlainIx b := by intro _ _; rfl) : E X C L δ (.Subscript a b pos) n k (fun sv => ∃ d, sv = .d d ∧ d ∈ ds) :=
  PE.imp (pe_ix ix_list ha hb hs) fun σ H Q ⟨t, q⟩ => ⟨t, fun v H2 sv k1 h1 e1 s1 => ⟨t.go k1 h1, fun w H3 sw k2 h2 e2 s2 => by
    subst e1
    obtain ⟨_, rfl, i, rfl, h0, hlt⟩ := e2
    cases s2
    have s3 := Dv.keep s1 (k2.wider bs_bd)
    obtain ⟨j, rfl⟩ : ∃ j : Nat, i = (j : Nat) := ⟨i.toNat, by omega⟩
    have hj : j < ds.length := by omega
    cases s3 with
    | lst r g =>
      obtain ⟨z, hz, hd⟩ := atI_at g (atI_nat (List.getElem?_eq_getElem hj))
      exact ⟨_, _, _, z, rfl, rfl, r.sq, hz, q z H3 _ (k1.trans k2) h2 ⟨_, rfl, List.getElem_mem hj⟩ hd⟩⟩⟩
end
theorem slots_of {K : PySem.W.Frag} {B : List Addr} {H : Hp} {vs : List V} {ds : List PD} {j : Nat} (g : DvAll K B H vs ds) : Sl K B H (vs.map some ++ List.replicate j none) (ds.map (fun d => some (SV.d d)) ++ List.replicate j none) := by
  have e := g.length
  refine ⟨by simp [e], fun i sv h => ?_⟩
  by_cases hi : i < ds.length
  · rw [List.getElem?_append_left (by simpa using hi), List.getElem?_map] at h
    cases q : ds[i]? with
    | none =>
      rw [q] at h
      cases h
    | some d =>
      rw [q] at h
      cases h
      obtain ⟨v, h1, h2⟩ := g.get q
      exact ⟨v, by rw [List.getElem?_append_left (by simpa [e] using hi), List.getElem?_map, h1]; rfl, h2⟩
  · rw [List.getElem?_append_right (by simpa using hi), List.getElem?_replicate] at h
    split at h <;> cases h
theorem Sl.first {K : PySem.W.Frag} {B : List Addr} {H : Hp} {σ : L2.St} {δ : Dl} {v : V} {sv : SV} (h : Sl K B H σ δ) (g : SvOk K B H v sv) : Sl K B H (some v :: σ) (some sv :: δ) := by
  refine ⟨by rw [List.length_cons, List.length_cons, h.1], fun i w e => ?_⟩
  cases i with
  | zero =>
    cases e
    exact ⟨v, rfl, g⟩
  | succ i => exact h.2 i w e
/-- a def that draws -/
theorem okQ {P : Program} {w : World} {K : PySem.W.Frag} {mg : Str → Option Value} {base : Heap} {k : Nat} {f : Addr} {x qual : Str} {st : Stmt} {fd : FuncData} {N ps : List Str} {ok : List PD → Nat → (PD → Prop) → Prop} (F : Fun K x qual st f fd) (S : FnScope N ps (defScope st))
    (hl : ∀ ds c R, ok ds c R → ds.length + 1 = ps.length)
    (hb : ∀ (cdv : Value) (A : Around) (outer : List Env) (s : Shared) (H : Hp) (E : XK) (p : Addr) (B : List Addr) (ds : List PD) (c : Nat) (R : PD → Prop) (n : Nat) (fm : Fm) (D0 : Ends), ok ds c R → n + c ≤ 1000000 → (cxOf CX0 P w K mg base N qual (defScope st) f cdv A outer s H E).nox.A.guards = some [] →
      Room k (cxOf CX0 P w K mg base N qual (defScope st) f cdv A outer s H E).nox.A → fm.C = ⟨some p, B⟩ → Wt K fm D0.rt (fun m z => m ≤ n + c ∧ ∃ d, z = .d d ∧ R d) →
      Bk (cxOf CX0 P w K mg base N qual (defScope st) f cdv A outer s H E).nox fm ⟨[], some (.v (.ref p)) :: (ds.map (fun d => some (SV.d d)) ++ List.replicate (N.length - ps.length) none), n⟩ D0 (defBody st)) : Gd P w K mg base CX0 (k + 1) f fd ps (SpQ K ok) := by
  refine gd_of F S (fun vs H Q E ⟨p, B, ws, n, c, ds, R, e, _, _, g, _, _, o, _⟩ => by rw [e, List.length_cons, g.length]; exact hl ds c R o) fun cdv A outer s H vs Q E gu hr ⟨p, B, ws, n, c, ds, R, ev, hp, kn, g, po, hz, o, q⟩ => ?_
  subst ev
  have inB : ∀ b, b ∈ Bd ⟨some p, B⟩ [] → b ∈ B := fun b hb => by
    rcases List.mem_append.mp hb with z | z
    · have e : b = p := by simpa [Bs] using z
      rw [e]
      exact hp
    · exact z
  refine ⟨_, (hb cdv A outer s H E p B ds c R n ⟨⟨some p, B⟩, [([p], H)]⟩ { nx := fun _ H' => Q .non H', rt := Q } o hz gu hr rfl ?_).nox, ?_⟩
  · intro v H' z m a ho e s1
    obtain ⟨hm, d, rfl, hR⟩ := e
    exact q v H' d (a ([p], H) List.mem_cons_self) ((ho.pot p rfl).mono hm) hR (Dv.less s1 fun b hb => List.mem_append_right _ hb)
  · refine ⟨.refl _, fun a ha => ?_, fun a ha b hb => ?_, ?_, ?_⟩
    · rw [List.mem_singleton.mp ha]
      exact .refl _ _
    · rw [List.mem_singleton.mp ha]
      exact .inl (by simpa [Bs] using hb)
    · unfold L2.start
      have e1 : (V.ref p :: ws).length = ps.length := by rw [List.length_cons, g.length]; exact hl ds c R o
      rw [e1]
      exact (slots_of (g.less inB)).first (v := .ref p) (sv := .v (.ref p)) rfl
    · refine ⟨fun p' e => ?_, fun _ _ z => absurd z List.not_mem_nil, fun _ _ z => absurd z List.not_mem_nil, by simp [Bs], kn, fun _ z => absurd z List.not_mem_nil⟩
      cases e
      exact po

/-! ### the purse: made, drawn from -/
/-- a new purse -/
def SpPot (K : PySem.W.Frag) : Sp := fun vs H Q _ => ∃ (B : List Addr) (ns : List Int) (k : Int), (∀ b, b ∈ B → H b ≠ none) ∧ DvAll K B H vs [.list (ns.map PyData.int), .int k] ∧ (0 ≤ k ∧ k < 100) ∧ ∀ p H', H p = none → Same H H' → PotAt p 0 H' → Q (.ref p) H'
theorem okPot {P : Program} {w : World} {K : PySem.W.Frag} {mg : Str → Option Value} {base : Heap} {k : Nat} {f : Addr} {x qual : Str} {st : Stmt} {fd : FuncData} {N : List Str} (F : Fun K x qual st f fd) (S : FnScope N ["script", "place"] (defScope st))
    (hb : ∀ (cdv : Value) (A : Around) (outer : List Env) (s : Shared) (H : Hp) (E : XK) (B : List Addr) (ns : List Int) (y : Int) (fm : Fm) (D0 : Ends), 0 ≤ y ∧ y < 100 → (cxOf CX0 P w K mg base N qual (defScope st) f cdv A outer s H E).nox.A.guards = some [] →
      Room k (cxOf CX0 P w K mg base N qual (defScope st) f cdv A outer s H E).nox.A → fm.C = ⟨none, B⟩ →
      (∀ c σ H r a b, In K fm c σ H → H r = none → (0 ≤ a ∧ a.natAbs < 2 ^ 1000) → (0 ≤ b ∧ b < 2305843009213693951) → D0.rt (.ref r) (upd H r (.lst [.int a, .int b, .int 0]))) →
      Bk (cxOf CX0 P w K mg base N qual (defScope st) f cdv A outer s H E).nox fm ⟨[], some (.d (.list (ns.map PyData.int))) :: some (.d (.int y)) :: List.replicate (N.length - 2) none, 0⟩ D0 (defBody st)) : Gd P w K mg base CX0 (k + 1) f fd ["script", "place"] (SpPot K) := by
  refine gd_of F S (fun vs H Q E ⟨B, ns, y, _, g, _⟩ => g.length) fun cdv A outer s H vs Q E gu hr ⟨B, ns, y, kn, g, hy, q⟩ => ?_
  refine ⟨_, (hb cdv A outer s H E B ns y ⟨⟨none, B⟩, [([], H)]⟩ { nx := fun _ H' => Q .non H', rt := Q } hy gu hr rfl ?_).nox, ?_⟩
  · intro c σ H' r a b i nr ha hb
    have sm : Same H H' := fun b' o e => i.an ([], H) List.mem_cons_self b' o List.not_mem_nil e
    have sm2 := same_new (o := .lst [.int a, .int b, .int 0]) nr
    exact q r _ (sm.free nr) (sm.trans sm2) ⟨a, b, 0, upd_same, ha, hb, by decide, by decide⟩
  · refine ⟨.refl _, fun a ha => ?_, fun a ha b hb => ?_, ?_, ?_⟩
    · rw [List.mem_singleton.mp ha]
      exact .refl _ _
    · exact absurd hb List.not_mem_nil
    · unfold L2.start
      rw [g.length]
      exact slots_of g
    · exact ⟨fun p e => (by cases e), fun _ _ z => absurd z List.not_mem_nil, fun _ _ z => absurd z List.not_mem_nil, List.nodup_nil, kn, fun _ z => absurd z List.not_mem_nil⟩
/-- g(pot(script, place)): a purse is made and handed on -/
theorem e_callFresh {X : Cx} {C : Ct} {L : Ls} {δ : Dl} {n : Nat} {k1 k2 r : Nat} {g y : Str} {p1 p2 pos1 pos2 : Pos} {e1 e2 : Expr} {ps1 ps2 : List Str} {ok : List PD → Nat → (PD → Prop) → Prop} {c : Nat} {R : PD → Prop} {ns : List Int} {i : Int}
    (G : Kn X CX0 k1 g ps1 (SpQ X.K ok)) (Y : Kn X CX0 k2 y ps2 (SpPot X.K)) (gu : X.A.guards = some []) (hr : Room r X.A) (hk1 : k1 ≤ r) (hk2 : k2 ≤ r) (ha : Dd X C L δ [e1, e2] n n [.list (ns.map PyData.int), .int i]) (hi : 0 ≤ i ∧ i < 100) (ho : ok [] c R) (hc : c ≤ 1000000)
    (hg : Gl X g := by rfl) (hy : Gl X y := by rfl) (hdb : (g == ("__debug__" : Str)) = false := by decide) (hdb2 : (y == ("__debug__" : Str)) = false := by decide)
    (he : starEach [.Call (.Name y p2) [e1, e2] [] pos2] X.env = (false, eval (.Call (.Name y p2) [e1, e2] [] pos2) X.env) :: starEach [] X.env := by rfl) (hpl : (backTo pos1 (starEach [] X.env)).any (·.1) = false := by rfl)
    (he2 : starEach [e1, e2] X.env = (false, eval e1 X.env) :: starEach [e2] X.env := by rfl) (hpl2 : (backTo pos2 (starEach [e2] X.env)).any (·.1) = false := by rfl) :
    E X C L δ (.Call (.Name g p1) [.Call (.Name y p2) [e1, e2] [] pos2] [] pos1) n n (fun sv => ∃ d, sv = .d d ∧ R d) :=
  PE.imp (pe_callG G gu (hr.mono hk1) hg pass0 (pa_cons (pe_callG Y gu (hr.mono hk2) hy pass0 ha hdb2 he2 hpl2) pa_nil he) hdb he hpl) fun σ H Q ⟨t, q⟩ => ⟨t, fun vs H2 svs k3 h3 r3 s3 => by
    subst r3
    refine ⟨Bd C L, ns, i, fun b hb => h3.known hb, s3.data, hi, fun p H4 np sm po => ?_⟩
    refine ⟨p, p :: Bd C L, [], 0, c, [], R, rfl, List.mem_cons_self, fun b hb => ?_, .nil, po, by omega, ho, fun v H5 d kp po2 hR g5 => ?_⟩
    · rcases List.mem_cons.mp hb with z | z
      · obtain ⟨_, _, _, e, _⟩ := po
        rw [z, e]
        simp
      · exact same_some sm (h3.known z)
    · have kk : Same H2 H5 := fun b o e => kp b o (fun z => by
        have e' : b = p := by simpa using z
        rw [e', np] at e
        cases e) (sm b o e)
      exact q v H5 _ (k3.trans (.same kk)) (h3.same kk) ⟨d, rfl, hR⟩ (Dv.less g5 fun b hb => List.mem_cons_of_mem _ hb)⟩
/-- the draw -/
def okTake : List PD → Nat → (PD → Prop) → Prop := fun ds c R => ∃ u : Int, ds = [.int u] ∧ 0 < u ∧ u.natAbs < 2 ^ 1000 ∧ c = 1 ∧ R = fun d => ∃ i : Int, d = .int i ∧ 0 ≤ i ∧ i < u
theorem okTk {P : Program} {w : World} {K : PySem.W.Frag} {mg : Str → Option Value} {base : Heap} {k : Nat} {f : Addr} {x qual : Str} {st : Stmt} {fd : FuncData} {N : List Str} (F : Fun K x qual st f fd) (S : FnScope N ["pot", "upto"] (defScope st))
    (hb : ∀ (cdv : Value) (A : Around) (outer : List Env) (s : Shared) (H : Hp) (E : XK) (p : Addr) (u a b c : Int) (fm : Fm) (D0 : Ends), 0 < u → u.natAbs < 2 ^ 1000 → (0 ≤ a ∧ a.natAbs < 2 ^ 1000) → (0 ≤ b ∧ b < 2305843009213693951) → (0 ≤ c ∧ c < 1000000) → (cxOf CX0 P w K mg base N qual (defScope st) f cdv A outer s H E).nox.A.guards = some [] →
      Room k (cxOf CX0 P w K mg base N qual (defScope st) f cdv A outer s H E).nox.A → fm.C = ⟨none, []⟩ →
      (∀ δ n σ H v i a' c', In K fm ⟨[(p, Cont.lst [.int a', .int b, .int c'])], δ, n⟩ σ H → (0 ≤ a' ∧ a' ≤ a) → (0 ≤ c' ∧ c' ≤ c + 1) → 0 ≤ i → i < u → Dv K (Bd fm.C [(p, Cont.lst [.int a', .int b, .int c'])]) H v (.int i) → D0.rt v H) →
      Bk (cxOf CX0 P w K mg base N qual (defScope st) f cdv A outer s H E).nox fm ⟨[(p, Cont.lst [.int a, .int b, .int c])], some (.v (.ref p)) :: some (.d (.int u)) :: List.replicate (N.length - 2) none, 0⟩ D0 (defBody st)) : Gd P w K mg base CX0 (k + 1) f fd ["pot", "upto"] (SpQ K okTake) := by
  refine gd_of F S (fun vs H Q E ⟨p, B, ws, n, c, ds, R, e, _, _, g, _, _, ⟨u, e2, _⟩, _⟩ => by rw [e, List.length_cons, g.length, e2]; rfl) fun cdv A outer s H vs Q E gu hr ⟨p, B, ws, n, c1, ds, R, ev, hp, kn, g, po, hz, ⟨u, e2, hu, hu2, e3, e4⟩, q⟩ => ?_
  subst ev e2 e3 e4
  obtain ⟨a, b, c, h1, h2, h3, h4, h5⟩ := po
  refine ⟨_, (hb cdv A outer s H E p u a b c ⟨⟨none, []⟩, [([p], H)]⟩ { nx := fun _ H' => Q .non H', rt := Q } hu hu2 h2 h3 ⟨h4, by omega⟩ gu hr rfl ?_).nox, ?_⟩
  · intro δ m σ H' v i a' c' iin ha hc h0 hlt dv
    cases dv
    obtain ⟨xs, hx, gx⟩ := iin.at_.hold.ls p _ List.mem_cons_self
    have exs : xs = [.int a', .int b, .int c'] := by
      have := DvAll.ints (ns := [a', b, c']) gx
      rw [this]
      rfl
    subst exs
    exact q _ H' (.int i) (iin.an ([p], H) List.mem_cons_self) ⟨a', b, c', hx, ⟨ha.1, Nat.lt_of_le_of_lt (by omega) h2.2⟩, h3, hc.1, by omega⟩ ⟨i, rfl, h0, hlt⟩ (.int i)
  · refine ⟨.refl _, fun a ha => ?_, fun a ha b hb => ?_, ?_, ?_⟩
    · rw [List.mem_singleton.mp ha]
      exact .refl _ _
    · rw [List.mem_singleton.mp ha]
      exact .inl (by simpa [Bs] using hb)
    · unfold L2.start
      cases g with
      | cons g1 g2 =>
        cases g1
        cases g2
        exact (slots_of (ds := [.int u]) (.cons (.int u) .nil)).first (v := .ref p) (sv := .v (.ref p)) rfl
    · refine ⟨fun p' e => (by cases e), fun a' ds' z => ?_, fun a' x' z => (by rw [List.mem_singleton] at z; cases z), by simp [Bs], fun _ z => absurd z List.not_mem_nil, fun _ _ => List.not_mem_nil⟩
      rw [List.mem_singleton] at z
      cases z
      exact ⟨_, h1, .cons (.int _) (.cons (.int _) (.cons (.int _) .nil))⟩
/-! bounds -/
theorem cm64 {i j : Int} (hi : 0 ≤ i ∧ i < 18446744073709551616) (hj : 0 ≤ j ∧ j < 18446744073709551616) : CMulW i j :=
  wide_mul (a := 64) (b := 64) (by have : (2 : Nat) ^ 64 = 18446744073709551616 := by decide
                                   omega) (by have : (2 : Nat) ^ 64 = 18446744073709551616 := by decide
                                              omega) (by decide) (by decide) (by decide)
theorem mulb {x y a b : Int} (hx : 0 ≤ x ∧ x ≤ a) (hy : 0 ≤ y ∧ y ≤ b) : 0 ≤ x * y ∧ x * y ≤ a * b :=
  ⟨Int.mul_nonneg hx.1 hy.1, Int.mul_le_mul hx.2 hy.2 hy.1 (by omega)⟩
theorem bits_lt {i : Int} {a : Nat} (h : i.natAbs < 2 ^ a) (ha : 0 < a) : Builtin.Int.intBits i ≤ a + 1 := by
  have x := PySem.Flt.log2_lt_of ha h
  unfold Builtin.Int.intBits
  split <;> omega
theorem cp64 {i j : Int} (hi : 0 ≤ i ∧ i < 18446744073709551616) (hj : 0 ≤ j ∧ j ≤ 1000) : CPowW i j := by
  have h := bits_lt (i := i) (a := 64) (by have : (2 : Nat) ^ 64 = 18446744073709551616 := by decide
                                           omega) (by decide)
  have h2 := mulb (x := (Builtin.Int.intBits i : Nat)) (y := j) (a := 65) (b := 1000) ⟨by omega, by omega⟩ hj
  exact ⟨hj.1, by omega⟩
theorem at_in {l : List Int} {i : Int} (h : 0 ≤ i ∧ i < (l.length : Nat)) : ∃ q, q ∈ l ∧ atI (l.map PyData.int) i = some (.int q) := by
  obtain ⟨j, rfl⟩ : ∃ j : Nat, i = (j : Nat) := ⟨i.toNat, by omega⟩
  have hi : j < l.length := by omega
  refine ⟨l[j], List.getElem_mem hi, ?_⟩
  apply atI_nat
  rw [List.getElem?_map, List.getElem?_eq_getElem hi]
  rfl
theorem big_pow : ((10 : Int) ^ (60 : Int).toNat) ^ (5 : Int).toNat = 10 ^ 300 := by decide +kernel
theorem big_pos : (0 : Int) < ((10 : Int) ^ (60 : Int).toNat) ^ (5 : Int).toNat := by decide +kernel
theorem own_ok (x : Int) (u : Bool) : CMulW (x % ((10 : Int) ^ (60 : Int).toNat) ^ (5 : Int).toNat) (if u = true then 1 else 0) ∧ 0 ≤ x % ((10 : Int) ^ (60 : Int).toNat) ^ (5 : Int).toNat * (if u = true then 1 else 0) ∧
    (x % ((10 : Int) ^ (60 : Int).toNat) ^ (5 : Int).toNat * (if u = true then 1 else 0)).natAbs < 2 ^ 1000 := by
  have h0 := Int.emod_nonneg x (Int.ne_of_gt big_pos)
  have h1 := Int.emod_lt_of_pos x big_pos
  generalize x % ((10 : Int) ^ (60 : Int).toNat) ^ (5 : Int).toNat = y at h0 h1 ⊢
  rw [big_pow] at h1
  have hl : (10 : Int) ^ 300 < 2 ^ 999 := by decide +kernel
  have e2 : ((2 ^ 999 : Nat) : Int) = (2 : Int) ^ 999 := by norm_cast
  have hn : y.natAbs < 2 ^ 999 := by omega
  have hn2 : (2 : Nat) ^ 999 < 2 ^ 1000 := by decide +kernel
  cases u with
  | true =>
    refine ⟨wide_mul (a := 999) (b := 1) hn (by decide) (by decide) (by decide) (by decide), ?_, ?_⟩
    · show 0 ≤ y * 1
      omega
    · show (y * 1).natAbs < _
      rw [Int.mul_one]
      exact Nat.lt_trans hn hn2
  | false =>
    refine ⟨wide_mul (a := 999) (b := 1) hn (by decide) (by decide) (by decide) (by decide), ?_, ?_⟩
    · show 0 ≤ y * 0
      omega
    · show (y * 0).natAbs < _
      rw [Int.mul_zero]
      decide +kernel
end Wk
namespace Wk
open PySem PySem.Spec PyProof.Rows L2
/-! ### enumerate(t), t a tuple -/
theorem enumT_new (t : Addr) (its : Array Value) (n : Nat) (dd : Option Addr) (ss : Array (Option Value)) : Meets (Builtin.«enumerate.__new__» ⟨[.type "enumerate", .ref t], []⟩) (fun _ R s =>
    s.heap.get? t = some ⟨.type "tuple", dd, .seq its n, ss⟩ ∧
    R (.ok (.ret (.ref (s.heap.push { cls := .type "tuple_iterator", data := .fields #[.ref t, .int 0 0] }).objs.size)))
      { s with heap := Heap.push (s.heap.push { cls := .type "tuple_iterator", data := .fields #[.ref t, .int 0 0] }) { cls := .type "enumerate", data := .fields #[.none, .bool false, .ref s.heap.objs.size, rawInt 0, .none, .none] } }) := by
  apply Meets.of_wp
  rintro prog w A R ⟨hp, g, d, tk, os⟩ ⟨ht, hR⟩
  have subE := sub_enumerate
  have isT : Heap.IsTuple (Shared.heap ⟨hp, g, d, tk, os⟩) t its := ⟨_, ht, rfl, n, rfl⟩
  wp_walk using AutoSeq1.wpAny_loadPart' ht
  apply wpAny_stack_any
  intro st
  apply wpAny_pure
  split
  · rename_i c _ _ _ _ _
    cases (c == Value.type "enumerate") <;> (wp_walk using AutoSeq1.wpAny_loadPart' ht, wpAny_pyIter_tuple isT) <;> exact ⟨_, rfl, hR⟩
  · wp_walk using AutoSeq1.wpAny_loadPart' ht, wpAny_pyIter_tuple isT
    exact ⟨_, rfl, hR⟩
theorem call_enumT {prog : Program} {w : World} {A : Around} {E : Value → Shared → Prop} {s : Shared} {t : Addr} {its : Array Value} {Q : Value → Shared → Prop} (hT : s.heap.IsTuple t its)
    (h : ∀ h', IsEnum h' (s.heap.objs.size + 1) s.heap.objs.size 0 .none → h'.IsTupleIter s.heap.objs.size t 0 → (∀ b o, s.heap.get? b = some o → h'.get? b = some o) → Q (.ref (s.heap.objs.size + 1)) { s with heap := h' }) :
    wpAny (model prog w) A (call (.type "enumerate") [.ref t]) Q E s := by
  obtain ⟨⟨cl, dd, dt, ss⟩, ho, hc, n, hd⟩ := hT
  simp only at hc hd
  subst hc hd
  have size1 : (s.heap.push { cls := .type "tuple_iterator", data := .fields #[.ref t, .int 0 0] }).objs.size = s.heap.objs.size + 1 := Heap.size_push ..
  refine callType_new F.called_enumerate (by decide) (F.typeCall_enumerate_1 _) (F.newCall_enumerate_1 _)
    (fun obj => F.args_object_init_2 obj _) F.entry_enumerate_new (enumT_new t its n dd ss) ⟨ho, ?_⟩
  have en := Heap.get?_push_size (s.heap.push { cls := .type "tuple_iterator", data := .fields #[.ref t, .int 0 0] })
    (o := { cls := .type "enumerate", data := .fields #[.none, .bool false, .ref s.heap.objs.size, rawInt 0, .none, .none] }) rfl
  show _ ∧ _
  rw [size1] at en ⊢
  exact ⟨⟨_, en, rfl⟩, h _ en ⟨_, Heap.get?_push_of_some _ (Heap.get?_push_size _ rfl), rfl, rfl⟩ fun b o q => Heap.get?_push_of_some _ (Heap.get?_push_of_some _ q)⟩
/-- a new pair at each turn -/
def ItT (K : PySem.W.Frag) (a : Addr) : It where
  go := fun i H => ∃ (xs : List V) (x : V), SqT K H a xs ∧ xs[i]? = some x
  yld := fun i H v H' => ∃ T x, v = .ref T ∧ H T = none ∧ H' = upd H T (.tup [.int (i : Nat), x]) ∧ ∀ xs, SqT K H a xs → xs[i]? = some x
  stop := fun i H => ∃ xs : List V, SqT K H a xs ∧ xs.length ≤ i
theorem turn_T {P : Program} {w : World} {K : PySem.W.Frag} {elts : List Expr} {kk : Nat} {tpos : Pos} (a e it : Addr) :
    Turn P w K (.Tuple elts kk tpos) (ItT K a) [e, it] e (fun i h => (∃ old, IsEnum h e it ((i : Nat) : Int) old) ∧ h.IsTupleIter it a i ∧ e ≠ it) := by
  constructor
  · simp
  · rintro i h ⟨⟨old, he⟩, ⟨o, ho, hc, hd⟩, _⟩ b hb
    have two : b = e ∨ b = it := by simpa using hb
    rcases two with rfl | rfl
    · exact ⟨_, he, fun v q => nomatch q⟩
    · exact ⟨o, ho, fun v q => by rw [hd] at q; cases q⟩
  · rintro i h h' ⟨⟨old, he⟩, hi, ne⟩ k
    exact ⟨⟨old, k e (by simp) _ he⟩, hi.at (fun o q => k it (by simp) o q), ne⟩
  · rintro X rfl rfl rfl hc i pins s σ H E I hf ⟨⟨old, he⟩, hit, ne⟩ ⟨xs, x, hq, hx⟩
    obtain ⟨its, rv, p, hz⟩ := I.tuple hq
    obtain ⟨u, hu, ru⟩ := rv.get hx
    have hel : e < s.heap.objs.size := Heap.lt_size he
    have hil : it < s.heap.objs.size := by
      obtain ⟨_, q, _⟩ := hit
      exact Heap.lt_size q
    have hpT : s.heap.IsTuple a its.toArray := p
    have ha : a ≠ it := by
      rintro rfl
      obtain ⟨o1, q1, c1, _⟩ := hpT
      obtain ⟨o2, q2, c2, _⟩ := hit
      rw [q1] at q2
      cases q2
      rw [c1] at c2
      injection c2 with c3
      exact absurd c3 (by decide)
    have hae : a ≠ e := by
      rintro rfl
      obtain ⟨o1, q1, c1, _⟩ := hpT
      have q2 : s.heap.get? a = some _ := he
      rw [q1] at q2
      cases q2
      injection c1 with c3
      exact absurd c3 (by decide)
    have hlt : i < its.toArray.size := by
      have := (List.getElem?_eq_some_iff.mp hu).1
      simpa using this
    have D := Draws.tuple (prog := X.prog) (w := X.w) (A := X.A.in1) (I.ok.hd hc) it a ha its.toArray
    refine wpAny_pyNext_enum_itemD D he ⟨hit, hpT⟩ hlt ne (by simp only [List.mem_cons, List.not_mem_nil, or_false]; exact fun z => z.elim ne (fun z => hae z.symm)) fun y h' tk hy ho ⟨hit', hT'⟩ hT hsz hk => ?_
    have ey : y = u := by
      have h1 : its.toArray[i]? = some y := hy
      have h2 : its.toArray[i]? = some u := by simpa using hu
      rw [h1] at h2
      exact Option.some.inj h2
    subst ey
    refine ⟨_, rfl, wpAny_letOwnedTupleGo_enum (s := { s with heap := h', toks := tk + 1 }) ho fun h'' he' sb => ?_⟩
    have newT : h''.get? s.heap.objs.size = some { cls := .type "tuple", data := .seq #[.int i tk, y] } := (sb.2 _ (Nat.ne_of_gt hel)).trans hT
    have okT : ObjOk X.prog X.w (upd H s.heap.objs.size (.tup [.int (i : Nat), x])) h'' s.heap.objs.size (.tup [.int (i : Nat), x]) := by
      refine ⟨?_, [.int i tk, y], .cons ⟨_, rfl⟩ (.cons ru .nil), ⟨_, newT, rfl, _, rfl⟩⟩
      show 2 ≤ sizeLine
      decide
    have I1 : Inv X pins σ (upd H s.heap.objs.size (.tup [.int (i : Nat), x])) { s with heap := h'', toks := tk + 1 } :=
      I.turnedNew (ch := [e, it]) (fun b ob hb q => (sb.2 b (fun z => hb (by simp [z]))).trans (hk b ob (fun z => hb (by simp [z])) (fun z => hb (by simp [z])) q)) hf (Nat.le_refl _) okT
    refine ⟨.ref s.heap.objs.size, _, I1, rfl, ⟨_, x, rfl, I.hok.fresh (Nat.le_refl _), rfl, fun ys hy2 => ?_⟩, ⟨⟨y, ?_⟩, hit'.at fun o q => (sb.2 it (Ne.symm ne)).trans q, ne⟩, fun b hb => ?_⟩
    · rw [I.tuple_inj hy2 hq]
      exact hx
    · have e1 : ((i + 1 : Nat) : Int) = (i : Int) + 1 := by omega
      rw [e1]
      exact he'
    · have two : b = e ∨ b = it := by simpa using hb
      have lt : b < s.heap.objs.size := by rcases two with z | z <;> (rw [z]; assumption)
      rw [upd_ne (Nat.ne_of_lt lt)]
      exact (hf b hb).1
  · rintro X rfl rfl rfl hc i pins s σ H E I hf ⟨⟨old, he⟩, hit, ne⟩ ⟨xs, hq, hx⟩
    obtain ⟨its, rv, p, hz⟩ := I.tuple hq
    have hpT : s.heap.IsTuple a its.toArray := p
    obtain ⟨f0, f1, f2, f3, f4, f5⟩ := hf it (by simp)
    have hl := rv.length
    have hT : s.TypeIs (.ref e) "enumerate" := ⟨_, he, rfl⟩
    unfold pyNext
    refine wpAny_bind (wpAny_attempt (wpAny_callSpecial?_slot (name := Str.ofString "__next__") hT F.slot_enumerate_next (wpAny_call_entry F.slot_enumerate_next hT F.entry_enumerate_next ?_ (F.args_enumerate_next_1 _))))
    show wpAny _ _ (field (.ref e) 2 >>= _) _ _ _
    refine wpAny_bind (wpAny_field he rfl (x := .ref it) rfl (wpAny_bind (wpAny_nextOf_tuple_end (I.ok.hd hc) hit hpT (by simp; omega) fun h' x ext hx' => ?_)))
    obtain ⟨o, ho, hc'⟩ := hx'
    exact wpAny_bind (wpAny_isInstance (T := "StopIteration") (b := true) ⟨o, ho, hc'⟩ isSubtype_stop (wpAny_pure ⟨rfl, I.turned (t' := s.toks) (fun b o hb q => ext b o hb q) f0 f1 f3 f4 f5⟩))
  · rintro A i s Q E ⟨⟨_, he⟩, _⟩ h
    exact wpAny_pyIter_enum he h
def iEnT (K : PySem.W.Frag) (ta : TA) : TI := fun σ H R => ta σ H fun vs H1 => ∃ a xs, vs = [.ref a] ∧ SqT K H1 a xs ∧ R (ItT K a) H1
theorem pi_enT {X : Cx} {e : Expr} {ta : TA} {p pos tpos : Pos} {elts : List Expr} {kk : Nat} (hg : Gl X "enumerate") (hm : X.mg "enumerate" = none) (ha : PA X [e] ta) (hs : starEach [e] X.env = [(false, eval e X.env)] := by rfl) :
    PI X (.Tuple elts kk tpos) (.Call (.Name "enumerate" p) [e] [] pos) (iEnT X.K ta) := by
  constructor
  intro pins s σ H R I h
  refine Call_ (ld_blt I hg hm boot_enumerate (PyProof.Rows.callWith_type1 (thn (ha.run pos pins s σ H _ I h) ?_) hs rfl))
  rintro us s1 ⟨vs, H1, I1, r1, a, xs, rfl, hq, q⟩
  cases r1 with
  | cons r rr =>
    cases rr
    cases r
    obtain ⟨its, rv, p', hz⟩ := I1.tuple hq
    refine call_enumT (show s1.heap.IsTuple a its.toArray from p') fun h' he hit hk => wpAny_pyIter_enum he ?_
    have I2 : Inv X pins σ H1 { s1 with heap := h' } := I1.kept (t' := s1.toks) hk
    refine ⟨s1.heap.objs.size + 1, [s1.heap.objs.size + 1, s1.heap.objs.size], _, _, H1, rfl, I2, turn_T a _ _, ⟨⟨.none, he⟩, hit, Nat.succ_ne_self _⟩, fun b hb => ?_, q⟩
    have two : b = s1.heap.objs.size + 1 ∨ b = s1.heap.objs.size := by simpa using hb
    have le : s1.heap.objs.size ≤ b := by
      rcases two with z | z
      · rw [z]
        exact Nat.le_add_right _ _
      · rw [z]
        exact Nat.le_refl _
    exact I1.fpOk le (I1.hok.fresh le)
theorem walk_enT {K : PySem.W.Frag} {a : Addr} {xs : List V} : Walk (ItT K a) xs.length (fun H => SqT K H a xs) (YPair (fun i => some (.int (i : Nat))) (fun i => xs[i]?)) := by
  constructor
  · exact fun i _ hi q => ⟨xs, xs[i], q, by simp [hi]⟩
  · exact fun _ q => ⟨xs, q, Nat.le_refl _⟩
  · rintro i H v H' _ q ⟨T, x, h1, h2, h3, h4⟩
    exact ⟨T, .int (i : Nat), x, h1, h2, h3, rfl, h4 xs q⟩
theorem goes_enT {K : PySem.W.Frag} {B : List Addr} {H : Hp} {a : Addr} {xs : List V} {ds : List PD} (r : RdT K B H a xs) (g : DvAll K B H xs ds) : Goes K B (ItT K a) (pairsD ds) H := by
  refine ⟨fun B H => RdT K B H a xs ∧ DvAll K B H xs ds, ⟨r, g⟩, fun B H p h f => ⟨h.1.grow f, h.2.grow f⟩, fun B H H' h k => ⟨h.1.keep k, h.2.keep k⟩, fun B => ?_⟩
  rw [show (pairsD ds).length = xs.length by rw [g.length]; simp [pairsD]]
  exact walk_enT.mono (fun H h => h.1.sq) fun i H x H' hi h y kn => by
    obtain ⟨T, y1, y2, rfl, nT, rfl, e1, e2⟩ := y
    cases e1
    obtain ⟨d, e3, hd⟩ := h.2.vget e2
    have sm := same_new (o := .tup [.int (i : Nat), y2]) nT
    refine ⟨sm, .tuple [.int (i : Nat), d], by simp [pairsD, e3], .tup (.inl ⟨fun z => kn _ z nT, .inl upd_same⟩) (.cons (.int _) (.cons (hd.keep (.same sm)) .nil))⟩
theorem i_enT {X : Cx} {C : Ct} {L : Ls} {δ : Dl} {n m : Nat} {e : Expr} {pos p : Pos} {ds : List PD} {elts : List Expr} {kk : Nat} {tpos : Pos} (hm : X.mg "enumerate" = none) (h : Ed X C L δ e n m (.tuple ds)) (hg : Gl X "enumerate" := by rfl) (hs : starEach [e] X.env = [(false, eval e X.env)] := by rfl) (hs2 : starEach [e] X.env = (false, eval e X.env) :: starEach [] X.env := by rfl) :
    Wi X C L δ (.Tuple elts kk tpos) (.Call (.Name "enumerate" p) [e] [] pos) n m (pairsD ds) := PI.imp (pi_enT hg hm (a_cons h a_nil hs2) hs) fun σ H R ⟨t, q⟩ => ⟨t, fun vs H2 svs k1 h1 e1 s1 => by
  subst e1
  obtain ⟨v, rfl, g⟩ := DvAll.one s1
  cases g with
  | tup r g => exact ⟨_, _, rfl, r.sq, q _ H2 k1 h1 (goes_enT r g)⟩⟩
end Wk
namespace Wk
open PySem PySem.Spec PyProof.Rows L2
section
variable {X : Cx} {F : Fm} {L : Ls} {δ : Dl} {n m k l : Nat} {D0 : Ends} {rest : List Stmt}
theorem r_ps {st : Stmt} {R : SV → Prop} {k : Nat} (h : PS X st (tAsg (tOf X.K F.C L δ n m R) (gName k))) (g : ∀ sv, R sv → Bk X F ⟨L, δ.set k (some sv), m⟩ D0 rest) : Bk X F ⟨L, δ, n⟩ D0 (st :: rest) :=
  r_cons (fun c' => ∃ sv, R sv ∧ c' = ⟨L, δ.set k (some sv), m⟩) (PS.imp h fun D σ H ⟨le, i⟩ => ⟨i.at_, fun v H2 sv k1 h1 r1 s1 => by
    have i2 := i.go k1 h1
    exact le.nx _ _ ⟨_, ⟨sv, r1, rfl⟩, i2.an, i2.fr, i2.at_.sl.set s1, h1⟩⟩) fun c' ⟨sv, r, ec⟩ => by
    subst ec
    exact g sv r
/-- y = [f x for x in ..], over l.map g -/
theorem r_lcM {α : Type} {elt iter : Expr} {scope : Scope} {x y : Str} {i : Nat} {pos tp py spos : Pos} {l : List α} {g : α → PD} (k : Nat) (f : α → PD) (hc : X.calm = true) (hN : X.N.Nodup) (hi : Wi X F.C L δ (.Name x tp) iter n m (l.map g)) (ok : BlkOk X.N X.env.scope scope [(x, i)])
    (hg : ∀ (s : Shared) (H : Hp) (Cc : Addr) (cl : List (Str × Addr)) (fp : List Addr), PG (X.blk s H scope (compEnvC scope cl Cc X.env) fp) (.Name x tp) (gT X.K F.C (.name i)))
    (he : ∀ (s : Shared) (H : Hp) (Cc : Addr) (cl : List (Str × Addr)) (fp : List Addr) (D : Addr) (acc : List PD) (a : α), a ∈ l →
      PE (X.blk s H scope (compEnvC scope cl Cc X.env) fp) elt (tOf X.K F.C ((D, acc) :: L) ((δ.set i none).set i (some (.d (g a)))) m m (Eq (SV.d (f a)))))
    (hz : l.length ≤ 100000) (g' : Bk X F ⟨L, δ.set k (some (.d (.list (l.map f)))), m⟩ D0 rest) (hy : X.N[k]? = some y := by rfl) (hyl : X.env.scope.names.lookup y = some .local := by rfl)
    (hsw : swapsWith (.ListComp elt [⟨.Name x tp, iter, [], 0⟩] scope pos) (some (.Name y py)) spos.line X.env = pure true := by exact sw_true rfl rfl rfl (by decide +kernel)) (hs : ∀ x, foldedSetIterable iter X.env x = pure x := by intro _; rfl) :
    Bk X F ⟨L, δ, n⟩ D0 (.Assign [.Name y py] (.ListComp elt [⟨.Name x tp, iter, [], 0⟩] scope pos) spos :: rest) := by
  refine r_ps (p_lcNR k 0 (fun j d e => ∃ a, l[j]? = some a ∧ e = f a) hc hN hi ok hg (fun s H Cc cl fp D acc j d hd => ?_) (by rw [List.length_map]; exact hz) hy hyl hsw hs) fun sv ⟨es, e1, e2, e3⟩ => ?_
  · rw [List.getElem?_map] at hd
    cases h3 : l[j]? with
    | none =>
      rw [h3] at hd
      cases hd
    | some a =>
      rw [h3] at hd
      cases hd
      exact PE.imp (he s H Cc cl fp D acc a (List.mem_of_getElem? h3)) fun σ H1 Q ⟨t, q⟩ => ⟨t, fun v H2 sv k h r s => q v H2 sv k h ⟨f a, r.symm, a, rfl, rfl⟩ s⟩
  · subst e1
    rw [map_ext e2 e3]
    exact g'
end
/-! ### what is written out has room -/
mutual
def Pl : PD → Prop
  | .none => True
  | .bool _ => True
  | .int i => i.natAbs.log2 < 1000
  | .str _ => False
  | .list ds => PlAll ds
  | .tuple ds => PlAll ds
  | .dict _ => False
def PlAll : List PD → Prop
  | [] => True
  | d :: ds => Pl d ∧ PlAll ds
end
mutual
theorem Pl.all : ∀ d : PD, Pl d → PyData.showable d = true ∧ PyData.hasDict d = false ∧ PyData.leavesShort 1001 d = true
  | .none, _ => ⟨rfl, rfl, rfl⟩
  | .bool _, _ => ⟨rfl, rfl, rfl⟩
  | .int i, h => by
    have h1 : i.natAbs.log2 < 1000 := h
    refine ⟨?_, rfl, ?_⟩
    · simp only [PyData.showable]
      exact decide_eq_true (by omega)
    · simp only [PyData.leavesShort, PyData.shown]
      exact decide_eq_true (by rw [PySem.ofString_length]; exact int_text_length_le (by decide) h1)
  | .str _, h => False.elim h
  | .list ds, h => by
    obtain ⟨a, b, c⟩ := PlAll.all ds h
    exact ⟨by simp only [PyData.showable]; exact a, by simp only [PyData.hasDict]; exact b, by simp only [PyData.leavesShort]; exact c⟩
  | .tuple ds, h => by
    obtain ⟨a, b, c⟩ := PlAll.all ds h
    exact ⟨by simp only [PyData.showable]; exact a, by simp only [PyData.hasDict]; exact b, by simp only [PyData.leavesShort]; exact c⟩
  | .dict _, h => False.elim h
theorem PlAll.all : ∀ ds : List PD, PlAll ds → PyData.showableAll ds = true ∧ PyData.hasDictAll ds = false ∧ PyData.leavesShortAll 1001 ds = true
  | [], _ => ⟨rfl, rfl, rfl⟩
  | d :: ds, h => by
    obtain ⟨a, b, c⟩ := Pl.all d h.1
    obtain ⟨a', b', c'⟩ := PlAll.all ds h.2
    refine ⟨?_, ?_, ?_⟩
    · simp only [PyData.showableAll, a, a', Bool.and_self]
    · simp only [PyData.hasDictAll, b, b', Bool.or_self]
    · simp only [PyData.leavesShortAll, c, c', Bool.and_self]
end
theorem showy {d : PD} (h : Pl d) (hb : d.bulk ≤ 10000) (hd : d.depth ≤ 62) : Showy d := by
  obtain ⟨a, b, c⟩ := Pl.all d h
  refine ⟨a, b, ?_, hd⟩
  have := PyData.shown_le_bulk 1001 (by decide) d c
  rw [sizeLine_eq]
  omega
theorem PlAll.of : ∀ {ds : List PD}, (∀ d ∈ ds, Pl d) → PlAll ds
  | [], _ => trivial
  | d :: ds, h => ⟨h d List.mem_cons_self, PlAll.of fun e he => h e (List.mem_cons_of_mem _ he)⟩
theorem log_small {i : Int} (h : i.natAbs < 2 ^ 900) : i.natAbs.log2 < 1000 := Nat.lt_trans (PySem.Flt.log2_lt_of (by decide) h) (by decide)
theorem ints_bulk : ∀ ns : List Int, PyData.bulkAll (ns.map PyData.int) = ns.length
  | [] => rfl
  | n :: ns => by
    show 0 + 1 + PyData.bulkAll (ns.map PyData.int) = ns.length + 1
    rw [ints_bulk ns]
    omega
theorem ints_depth : ∀ ns : List Int, PyData.depthAll (ns.map PyData.int) = 0
  | [] => rfl
  | n :: ns => by
    show max 0 (PyData.depthAll (ns.map PyData.int)) = 0
    rw [ints_depth ns]
    rfl
theorem showy_list {ns : List Int} (h : ∀ n ∈ ns, n.natAbs < 2 ^ 900) (hz : ns.length ≤ 1000) : Showy (.list (ns.map PyData.int)) := by
  refine showy (PlAll.of fun d hd => ?_) ?_ ?_
  · obtain ⟨n, hn, rfl⟩ := List.mem_map.mp hd
    exact log_small (h n hn)
  · show PyData.bulkAll (ns.map PyData.int) ≤ _
    rw [ints_bulk]
    omega
  · show PyData.depthAll (ns.map PyData.int) + 1 ≤ _
    rw [ints_depth]
    decide
theorem showy_tup {ns : List Int} (h : ∀ n ∈ ns, n.natAbs < 2 ^ 900) (hz : ns.length ≤ 1000) : Showy (.tuple (ns.map PyData.int)) := by
  refine showy (PlAll.of fun d hd => ?_) ?_ ?_
  · obtain ⟨n, hn, rfl⟩ := List.mem_map.mp hd
    exact log_small (h n hn)
  · show PyData.bulkAll (ns.map PyData.int) ≤ _
    rw [ints_bulk]
    omega
  · show PyData.depthAll (ns.map PyData.int) + 1 ≤ _
    rw [ints_depth]
    decide
theorem showy_int {i : Int} (h : i.natAbs < 2 ^ 900) : Showy (.int i) := showy (log_small h) (Nat.zero_le _) (Nat.zero_le _)
end Wk
/-! the law's own def, entered from outside (no repr under way) -/
namespace Wk
open PySem PySem.Spec PyProof.Rows L2
def Good (t s' : Shared) (r : Result) : Prop := r = .ok (.ret (.bool true)) ∧ PySem.OldK t.heap s'.heap ∧ s'.os = t.os ∧ AllBare s'.gens
section
variable {P : Program} {w : World} {K : PySem.W.Frag} {mg bn : Str → Option Value} {k : Nat} {g p : Addr} {fd : FuncData} {y : Str} {t : Shared} {us : List Value} {is : List Int} {ok : List PD → SV → Prop} {H : Hp}
theorem enter_at (inK : K.In t.heap) (top : t.heap.Ns mainGlobals mg) (bi : t.heap.Ns builtinsNs bn) (boot : ∀ z : Str, z ≠ "__name__" → bn z = bootBuiltins z) (free : t.heap.NoLimit) (still : t.gens = #[])
    (got : t.heap.get? p = some { cls := .type "list", data := .seq us.toArray }) (room : Room k callerA)
    (G : ∀ under : Heap, K.In under → under.Ns mainGlobals mg → Gd P w K mg under CX0 k g fd [y] (SpP K ok)) (bd : ∀ (s : Shared) (u : Value), BindsTo s fd ⟨[u], []⟩ [(y, u)]) (good : ok [.list (is.map PyData.int)] (.d (.bool true)))
    (frozen : Only H) (seen : Rd H p (.lst (is.map V.int)) ∨ KL K p (is.map V.int)) (fits : HOk P w H t.heap) (lone : ∀ b, H b ≠ none → b = p) (apart : H p ≠ none → K.lookup p = none) :
    codeAny (model P w) callerA (.call (.ref g) ⟨[.ref p], []⟩) (fun r s' => Good t s' r) t := by
  have free_of : ∀ {b : Addr}, b ≠ p → H b = none := fun {b} n => by
    cases q : H b with
    | none => rfl
    | some u => exact absurd (lone b (by rw [q]; simp)) n
  have ns_of : ∀ {b : Addr} {f : Str → Option Value}, t.heap.Ns b f → (hidT t.heap H).Ns b f := fun {b f} ⟨o, es, ep, e, d, r⟩ => by
    have n : b ≠ p := fun z => by
      rw [z, got] at e
      cases e
      cases (show Data.seq us.toArray _ = Data.dict es ep from d)
    exact ⟨o, es, ep, hidT_get e (free_of n), d, r⟩
  have kin_of : K.In (hidT t.heap H) := fun b o e => hidT_get (inK b o e) (by
    by_cases n : b = p
    · subst n
      cases q : H b with
      | none => rfl
      | some u =>
        rw [apart (by rw [q]; simp)] at e
        cases e
    · exact free_of n)
  obtain ⟨lim, l1, l2⟩ := free
  have M : Mod K mg (hidT t.heap H) := { kin := kin_of, glob := ns_of top, blt := ⟨bn, ns_of bi, boot⟩, nolimit := ⟨lim, ns_of l1, l2⟩ }
  have V0 : Env0 P w K mg (hidT t.heap H) callerA [] t H :=
    { frames := rfl, mod := M, bs := fun b o e => of_hidT e, bsz := Nat.le_of_eq (hidT_size _ _), funs := trivial, frf := fun b z => (List.not_mem_nil z).elim, hok := fits, bare := .of_eq still }
  have want : SpP K ok [.ref p] H (fun v _ => v = .bl true) (fun _ _ _ => False) := by
    refine ⟨[], _, _, fun b z => (List.not_mem_nil z).elim, .cons (.lst ?_ (DvAll.of_ints is)) .nil, good, fun v H' _ z => ?_⟩
    · rcases seen with z | z
      · exact .inl ⟨List.not_mem_nil, z⟩
      · exact .inr z
    · cases (show Dv K [] H' v (.bool true) from z)
      rfl
  have run := (G _ kin_of (ns_of top)).run callerA rfl [] t H ⟨[.ref p], []⟩ [.ref p] [.ref p] _ _ room V0 (bd t (.ref p)) (.cons rfl .nil) want
  refine codeAny_mono run fun r s' h => ?_
  match r, h with
  | .ok (.ret u), ⟨v, H', os, bare, un, fits', rv, q⟩ =>
    cases (show v = .bl true from q)
    cases (show u = Value.bool true from rv)
    refine ⟨rfl, PySem.OldK.of_keep fun b o e => ?_, os, bare⟩
    cases q : H b with
    | none => exact un.keep b o e q (fun z => (List.not_mem_nil z).elim) List.not_mem_nil
    | some u =>
      obtain ⟨ob, xs, z⟩ := (frozen b).resolve_left (by rw [q]; simp)
      have x1 := (fits b _ z).1
      have x2 := (fits' b _ (un.frzs b ob _ z)).1
      rw [x1] at e
      cases e
      exact x2
/-- the same, whatever the script is -/
theorem enter_law (inK : K.In t.heap) (top : t.heap.Ns mainGlobals mg) (bi : t.heap.Ns builtinsNs bn) (boot : ∀ z : Str, z ≠ "__name__" → bn z = bootBuiltins z) (free : t.heap.NoLimit) (still : t.gens = #[])
    (got : t.heap.get? p = some { cls := .type "list", data := .seq us.toArray }) (nums : IntsAre us is) (small : is.length ≤ sizeLine) (room : Room k callerA)
    (G : ∀ under : Heap, K.In under → under.Ns mainGlobals mg → Gd P w K mg under CX0 k g fd [y] (SpP K ok)) (bd : ∀ (s : Shared) (u : Value), BindsTo s fd ⟨[u], []⟩ [(y, u)]) (good : ok [.list (is.map PyData.int)] (.d (.bool true))) :
    codeAny (model P w) callerA (.call (.ref g) ⟨[.ref p], []⟩) (fun r s' => Good t s' r) t := by
  have vals := vals_ints nums
  have long := nums.length
  cases q : K.lookup p with
  | some o =>
    have e := inK p o q
    rw [got] at e
    cases e
    exact enter_at (H := fun _ => none) inK top bi boot free still got room G bd good (fun _ => .inl rfl) (.inr ⟨us.toArray, _, q, by rw [List.size_toArray, long]; exact small, by simpa using vals⟩) (fun b u z => nomatch (show (none : Option HO) = some u from z)) (fun b z => (z rfl).elim) fun z => (z rfl).elim
  | none =>
    let O : HO := .frz { cls := .type "list", data := .seq us.toArray } (.lst (is.map V.int))
    have here : (fun b => if b = p then some O else none : Hp) p = some O := if_pos rfl
    have away : ∀ b, b ≠ p → (fun b => if b = p then some O else none : Hp) b = none := fun b n => if_neg n
    refine enter_at (H := fun b => if b = p then some O else none) inK top bi boot free still got room G bd good (fun b => ?_) (.inl (.inr ⟨_, here⟩)) (fun b u z => ?_) (fun b z => ?_) fun _ => q
    · by_cases n : b = p
      · exact .inr ⟨_, _, by rw [n]; exact here⟩
      · exact .inl (away b n)
    · by_cases n : b = p
      · subst n
        rw [here] at z
        cases z
        exact ⟨got, by rw [List.length_map]; exact small, us, _, vals, got⟩
      · rw [away b n] at z
        cases z
    · by_cases n : b = p
      · exact n
      · exact (z (away b n)).elim
end
/-- the end of a row whose law's def is told by SpP -/
theorem row_end {l : PySem.W.OpenLaw} {n k : Nat} {q : Program} {loose : List Str} {XP : (Str → Option Value) → Heap → Prop} {YP : World → Heap → Prop} {d : DefRec} {K : PySem.Params → PySem.W.Frag} {y : Str} {ok : List PD → SV → Prop}
    (most : l.most = some n) (few : n ≤ sizeLine) (plain : d.params.defaults = []) (room : Room k callerA) (know : ∀ (w : World) (h : Heap), YP w h → (K w.params).In h)
    (facts : ∀ (w : World) (mg : Str → Option Value) (g : Addr) (h : Heap), (K w.params).In h → h.Ns mainGlobals mg → mg d.name = some (.ref g) →
      ∃ fd : FuncData, (∀ (s : Shared) (u : Value), BindsTo s fd ⟨[u], []⟩ [(y, u)]) ∧ ∀ under : Heap, (K w.params).In under → under.Ns mainGlobals mg → Gd l.prog w (K w.params) mg under CX0 k g fd [y] (SpP (K w.params) ok))
    (good : ∀ is : List Int, ok [.list (is.map PyData.int)] (.d (.bool true))) : PySem.W.WalkO q loose XP YP l.row.toRowW d [] (fun f vs => PySem.call f vs) :=
  Att.attach_call most plain fun w _ t mg mb g o pm cd doc p us is G Y _ _ _ named got nums len still => by
    have inK := know w _ Y
    obtain ⟨fd, bd, promise⟩ := facts w mg g _ inK G.T.g named
    exact enter_law inK G.T.g G.T.b G.T.builtins G.T.nolimit still got nums (Nat.le_trans len few) room promise bd (good is)
end Wk
/-! what the written part of the heap says of a row's top -/
namespace Wk
open PySem PySem.Spec PyProof.Rows L2
section
variable {K : PySem.W.Frag} {h : Heap} {mg : Str → Option Value}
/-- a def of the text stands there under its name -/
structure Std (K : PySem.W.Frag) (x : Str) (st : Stmt) : Prop where
  ex : ∃ f fd, PySem.W.nsIn K mainGlobals x = some (some (.ref f)) ∧ Fun K x x st f fd
theorem Std.mk' {x : Str} {st : Stmt} {f : Addr} {oc : Value} {od an : Option Addr} {osl : Array (Option Value)} {kV doc pm cdv ct : Value} (a : PySem.W.nsIn K mainGlobals x = some (some (.ref f)))
    (l : K.lookup f = some ⟨oc, od, .func (PySem.W.fnOf x x (defArgs st) (defBody st) (defScope st) .none kV doc pm an cdv ct), osl⟩) (c : PySem.W.codeIn K cdv x = true) (k : PySem.W.keepIn K (.ref f) = true) : Std K x st :=
  ⟨f, _, a, fun_mk l c k⟩
/-- so it is known, if it does what is said -/
theorem Std.know {P : Program} {w : World} {base : Heap} {Z : CXT} {k : Nat} {x : Str} {st : Stmt} {ps : List Str} {sp : Sp} (X : K.In h) (G : h.Ns mainGlobals mg) (D : Std K x st)
    (b : ∀ (kV doc pm : Value) (an : Option Addr) (cdv ct : Value) (us : List Value), us.length = ps.length → bindArgs (PySem.W.fnOf x x (defArgs st) (defBody st) (defScope st) .none kV doc pm an cdv ct) ⟨us, []⟩ = pure (ps.zip us))
    (g : ∀ {f : Addr} {fd : FuncData}, Fun K x x st f fd → Gd P w K mg base Z k f fd ps sp) : Knw P w K mg base Z k x ps sp := by
  obtain ⟨f, fd, a, F⟩ := D.ex
  exact knw (PySem.W.mg_of X G a) F (F.binds b) (g F)
/-- names that the top does not set -/
def NoN (K : PySem.W.Frag) (x : Str) : Prop := PySem.W.nsIn K mainGlobals x = some none
theorem bt_of (X : K.In h) (G : h.Ns mainGlobals mg) (h1 : NoN K "len") (h2 : NoN K "abs") (h3 : NoN K "int") (h4 : NoN K "sum") (h5 : NoN K "tuple") (h6 : NoN K "list") (h7 : NoN K "range") (h8 : NoN K "enumerate") (h9 : NoN K "all") (h10 : NoN K "isinstance") (h11 : NoN K "repr") (h12 : NoN K "max") (h13 : NoN K "min") (h14 : NoN K "str") (h15 : NoN K "bool") (h16 : NoN K "dict") : Bt mg :=
  ⟨PySem.W.mg_none_of X G h1, PySem.W.mg_none_of X G h2, PySem.W.mg_none_of X G h3, PySem.W.mg_none_of X G h4, PySem.W.mg_none_of X G h5, PySem.W.mg_none_of X G h6, PySem.W.mg_none_of X G h7, PySem.W.mg_none_of X G h8, PySem.W.mg_none_of X G h9, PySem.W.mg_none_of X G h10, PySem.W.mg_none_of X G h11, PySem.W.mg_none_of X G h12, PySem.W.mg_none_of X G h13, PySem.W.mg_none_of X G h14, PySem.W.mg_none_of X G h15, PySem.W.mg_none_of X G h16⟩
/-! tuples of the text -/
def optAll {α : Type} : List (Option α) → Option (List α)
  | [] => some []
  | some a :: r => (optAll r).map (a :: ·)
  | none :: _ => none
def rdV (K : PySem.W.Frag) : Nat → Value → Option PD
  | _, .none => some .none
  | _, .bool b => some (.bool b)
  | _, .int i _ => some (.int i)
  | _, .str x _ => some (.str x)
  | n + 1, .ref a => match K.lookup a with
    | some ⟨.type t, none, .seq its _, _⟩ => if t = "tuple" ∧ its.size ≤ 1000 then (optAll (its.toList.map (rdV K n))).map PyData.tuple else none
    | _ => none
  | _, _ => none
theorem optAll_len {α β : Type} {f : α → Option β} : ∀ {l : List α} {r : List β}, optAll (l.map f) = some r → ∀ {S : α → β → Prop}, (∀ a b, f a = some b → S a b) → Paired S l r
  | [], r, h, S, _ => by
    cases h
    exact .nil
  | a :: l, r, h, S, g => by
    rw [List.map_cons] at h
    cases q : f a with
    | none =>
      rw [q] at h
      cases h
    | some b =>
      rw [q] at h
      obtain ⟨r', h1, h2⟩ := Option.map_eq_some_iff.mp h
      subst h2
      exact .cons (g a b q) (optAll_len h1 g)
theorem rd_ok : ∀ (n : Nat) (v : Value) (d : PD), rdV K n v = some d → ∃ x : V, RelV x v ∧ ∀ B H, Dv K B H x d
  | 0, v, d, h => by
    cases v with
    | none => cases h; exact ⟨.non, rfl, fun _ _ => .non⟩
    | bool b => cases h; exact ⟨.bl b, rfl, fun _ _ => .bl b⟩
    | int i t => cases h; exact ⟨.int i, ⟨t, rfl⟩, fun _ _ => .int i⟩
    | str x t => cases h; exact ⟨.str x, ⟨t, rfl⟩, fun _ _ => .str x⟩
    | _ => cases h
  | n + 1, v, d, h => by
    cases v with
    | none => cases h; exact ⟨.non, rfl, fun _ _ => .non⟩
    | bool b => cases h; exact ⟨.bl b, rfl, fun _ _ => .bl b⟩
    | int i t => cases h; exact ⟨.int i, ⟨t, rfl⟩, fun _ _ => .int i⟩
    | str x t => cases h; exact ⟨.str x, ⟨t, rfl⟩, fun _ _ => .str x⟩
    | ref a =>
      unfold rdV at h
      split at h
      · rename_i t its c osl q
        split at h
        · rename_i hc
          obtain ⟨rfl, hz⟩ := hc
          obtain ⟨ds, h1, rfl⟩ := Option.map_eq_some_iff.mp h
          have f2 := optAll_len h1 (S := fun v d => ∃ x : V, RelV x v ∧ ∀ B H, Dv K B H x d) fun v d hv => rd_ok n v d hv
          have key : ∃ xs : List V, Vals xs its.toList ∧ ∀ B H, DvAll K B H xs ds := by
            clear h1 q hz h
            generalize its.toList = l at f2
            induction f2 with
            | nil => exact ⟨[], .nil, fun _ _ => .nil⟩
            | cons s _ ih =>
              obtain ⟨x, rx, dx⟩ := s
              obtain ⟨xs, rxs, dxs⟩ := ih
              exact ⟨x :: xs, .cons rx rxs, fun B H => .cons (dx B H) (dxs B H)⟩
          obtain ⟨xs, rx, dx⟩ := key
          exact ⟨.ref a, rfl, fun B H => .tup (.inr (.inr ⟨_, its, _, q, rfl, rfl, Nat.le_trans hz (by decide), rx⟩)) (dx B H)⟩
        · cases h
      · cases h
    | _ => cases h
theorem kt_of {n : Nat} {a : Addr} {ds : List PD} (h : rdV K n (.ref a) = some (.tuple ds)) : KT K a ds := by
  obtain ⟨x, rx, dx⟩ := rd_ok n _ _ h
  have e : x = .ref a := by
    cases x with
    | ref b =>
      have e : Value.ref a = Value.ref b := rx
      cases e
      rfl
    | _ => first | (cases (show _ = _ from rx)) | (obtain ⟨_, q⟩ := (show ∃ _, _ from rx); cases q)
  subst e
  cases n with
  | zero => cases h
  | succ n =>
    refine ⟨?_, dx⟩
    unfold rdV at h
    split at h
    · rename_i t its c osl q
      split at h
      · rename_i hc
        exact ⟨_, q, by rw [hc.1], rfl⟩
      · cases h
    · cases h
end
end Wk
/-! promises whose arguments are told by slots, not by data alone -/
namespace Wk
open PySem PySem.Spec PyProof.Rows L2
theorem SvAll.length {K : PySem.W.Frag} {B : List Addr} {H : Hp} : ∀ {ds : List SV} {vs : List V}, SvAll K B H vs ds → vs.length = ds.length
  | [], _, h => by cases h; rfl
  | _ :: ds, _, h => by
    cases h with
    | cons x y => rw [List.length_cons, List.length_cons, SvAll.length y]
theorem SvAll.get {K : PySem.W.Frag} {B : List Addr} {H : Hp} {ds : List SV} {vs : List V} (h : SvAll K B H vs ds) : ∀ {i : Nat} {d : SV}, ds[i]? = some d → ∃ v, vs[i]? = some v ∧ SvOk K B H v d := by
  induction h with
  | nil => intro i d e; cases e
  | cons x y ih =>
    intro i d e
    cases i with
    | zero => cases e; exact ⟨_, rfl, x⟩
    | succ i => exact ih (i := i) e
theorem SvAll.less {K : PySem.W.Frag} {B B' : List Addr} {H : Hp} (s : ∀ b, b ∈ B' → b ∈ B) : ∀ {ds : List SV} {vs : List V}, SvAll K B H vs ds → SvAll K B' H vs ds
  | [], _, h => by cases h; exact .nil
  | _ :: ds, _, h => by
    cases h with
    | cons x y => exact .cons (x.less s) (SvAll.less s y)
/-- nothing is changed -/
def SpV (K : PySem.W.Frag) (ok : List SV → (SV → Prop) → Prop) : Sp := fun vs H Q _ => ∃ (B : List Addr) (ds : List SV) (R : SV → Prop), (∀ b, b ∈ B → H b ≠ none) ∧ SvAll K B H vs ds ∧ ok ds R ∧ ∀ v H' d, Same H H' → R d → SvOk K B H' v d → Q v H'
/-- it draws -/
def SpW (K : PySem.W.Frag) (ok : List SV → Nat → (SV → Prop) → Prop) : Sp := fun vs H Q _ => ∃ (p : Addr) (B : List Addr) (ws : List V) (n c : Nat) (ds : List SV) (R : SV → Prop), vs = .ref p :: ws ∧ p ∈ B ∧ (∀ b, b ∈ B → H b ≠ none) ∧ SvAll K B H ws ds ∧
  PotAt p n H ∧ n + c ≤ 1000000 ∧ ok ds c R ∧ ∀ v H' d, Keep [p] H H' → PotAt p (n + c) H' → R d → SvOk K B H' v d → Q v H'
section
variable {X : Cx} {C : Ct} {L : Ls} {δ : Dl} {n m k l : Nat} {e : Expr} {es : List Expr} {pos p : Pos} {x : Str} {ps : List Str}
theorem e_callV {r : Nat} {ok : List SV → (SV → Prop) → Prop} {ds : List SV} {R : SV → Prop} (F : Kn X CX0 k x ps (SpV X.K ok)) (gu : X.A.guards = some []) (hr : Room r X.A) (hk : k ≤ r) (ha : Ad X C L δ (e :: es) n m ds) (h : ok ds R) (hg : Gl X x := by rfl)
    (hdb : (x == ("__debug__" : Str)) = false := by decide) (he : starEach (e :: es) X.env = (false, eval e X.env) :: starEach es X.env := by rfl) (hpl : (backTo pos (starEach es X.env)).any (·.1) = false := by rfl) :
    E X C L δ (.Call (.Name x p) (e :: es) [] pos) n m R :=
  PE.imp (pe_callG F gu (hr.mono hk) hg pass0 ha hdb he hpl) fun σ H Q ⟨t, q⟩ => ⟨t, fun vs H2 svs k1 h1 e1 s1 => by
    subst e1
    exact ⟨Bd C L, ds, R, fun b hb => h1.known hb, s1, h, fun v H3 d sm hd g => q v H3 d (k1.trans (.same sm)) (h1.same sm) hd g⟩⟩
theorem e_callW {r : Nat} {ok : List SV → Nat → (SV → Prop) → Prop} {ds : List SV} {R : SV → Prop} {w : Addr} {u : Nat} (F : Kn X CX0 k x ps (SpW X.K ok)) (gu : X.A.guards = some []) (hr : Room r X.A) (hk : k ≤ r) (hp : C.P = some w)
    (h0 : Ev X C L δ e n n (.ref w)) (ha : Ad X C L δ es n m ds) (h : ok ds u R) (hz : m + u ≤ 1000000) (hg : Gl X x := by rfl)
    (hdb : (x == ("__debug__" : Str)) = false := by decide) (he : starEach (e :: es) X.env = (false, eval e X.env) :: starEach es X.env := by rfl) (hpl : (backTo pos (starEach es X.env)).any (·.1) = false := by rfl) :
    E X C L δ (.Call (.Name x p) (e :: es) [] pos) n (m + u) R := by
  refine PE.imp (pe_callG F gu (hr.mono hk) hg pass0 (ar_cons (h0 : E X C L δ e n n _) ha he) hdb he hpl) fun σ H Q ⟨t, q⟩ => ⟨t, fun vs H2 svs k1 h1 e1 s1 => ?_⟩
  obtain ⟨sv, rest, rfl, rfl, rfl⟩ := e1
  cases s1 with
  | @cons v0 ws _ _ a b =>
    have e0 : v0 = .ref w := a
    subst e0
    have hw : w ∈ Bs C L := List.mem_append_right _ (by rw [hp]; simp)
    refine ⟨w, Bd C L, ws, m, u, ds, R, rfl, bs_bd _ hw, fun b hb => h1.known hb, b, h1.pot w hp, hz, h, fun v H3 d kp po hR g => ?_⟩
    have kb : Keep (Bs C L) H2 H3 := kp.wider fun b hb => by
      have e : b = w := by simpa using hb
      rw [e]
      exact hw
    have ho : Hold X.K C L (m + u) H3 := h1.drawn hp kp po
    exact q v H3 _ (k1.trans kb) ho hR g
end
theorem slots_sv {K : PySem.W.Frag} {B : List Addr} {H : Hp} {vs : List V} {ds : List SV} {j : Nat} (g : SvAll K B H vs ds) : Sl K B H (vs.map some ++ List.replicate j none) (ds.map some ++ List.replicate j none) := by
  have e := g.length
  refine ⟨by simp [e], fun i sv h => ?_⟩
  by_cases hi : i < ds.length
  · rw [List.getElem?_append_left (by simpa using hi), List.getElem?_map] at h
    cases q : ds[i]? with
    | none =>
      rw [q] at h
      cases h
    | some d =>
      rw [q] at h
      cases h
      obtain ⟨v, h1, h2⟩ := g.get q
      exact ⟨v, by rw [List.getElem?_append_left (by simpa [e] using hi), List.getElem?_map, h1]; rfl, h2⟩
  · rw [List.getElem?_append_right (by simpa using hi), List.getElem?_replicate] at h
    split at h <;> cases h
theorem okV {P : Program} {w : World} {K : PySem.W.Frag} {mg : Str → Option Value} {base : Heap} {k : Nat} {f : Addr} {x qual : Str} {st : Stmt} {fd : FuncData} {N ps : List Str} {ok : List SV → (SV → Prop) → Prop} (F : Fun K x qual st f fd) (S : FnScope N ps (defScope st))
    (hl : ∀ ds R, ok ds R → ds.length = ps.length)
    (hb : ∀ (cdv : Value) (A : Around) (outer : List Env) (s : Shared) (H : Hp) (E : XK) (B : List Addr) (ds : List SV) (R : SV → Prop) (fm : Fm) (D0 : Ends), ok ds R → (cxOf CX0 P w K mg base N qual (defScope st) f cdv A outer s H E).nox.A.guards = some [] →
      Room k (cxOf CX0 P w K mg base N qual (defScope st) f cdv A outer s H E).nox.A → fm.C = ⟨none, B⟩ → Wt K fm D0.rt (fun _ z => R z) →
      Bk (cxOf CX0 P w K mg base N qual (defScope st) f cdv A outer s H E).nox fm ⟨[], ds.map some ++ List.replicate (N.length - ps.length) none, 0⟩ D0 (defBody st)) : Gd P w K mg base CX0 (k + 1) f fd ps (SpV K ok) := by
  refine gd_of F S (fun vs H Q E ⟨B, ds, R, _, g, o, _⟩ => by rw [g.length]; exact hl ds R o) fun cdv A outer s H vs Q E gu hr ⟨B, ds, R, kn, g, o, q⟩ => ?_
  refine ⟨_, (hb cdv A outer s H E B ds R ⟨⟨none, B⟩, [([], H)]⟩ { nx := fun _ H' => Q .non H', rt := Q } o gu hr rfl ?_).nox, ?_⟩
  · intro v H' z m a _ e s1
    exact q v H' z (fun b u eb => a ([], H) List.mem_cons_self b u List.not_mem_nil eb) e s1
  · refine ⟨.refl _, fun a ha => ?_, fun a ha b hb => ?_, ?_, ?_⟩
    · rw [List.mem_singleton.mp ha]
      exact .refl _ _
    · exact absurd hb List.not_mem_nil
    · unfold L2.start
      rw [g.length]
      have e1 := hl ds R o
      rw [e1]
      exact slots_sv g
    · exact ⟨fun p e => (by cases e), fun _ _ z => absurd z List.not_mem_nil, fun _ _ z => absurd z List.not_mem_nil, List.nodup_nil, kn, fun _ z => absurd z List.not_mem_nil⟩
theorem okW {P : Program} {w : World} {K : PySem.W.Frag} {mg : Str → Option Value} {base : Heap} {k : Nat} {f : Addr} {x qual : Str} {st : Stmt} {fd : FuncData} {N ps : List Str} {ok : List SV → Nat → (SV → Prop) → Prop} (F : Fun K x qual st f fd) (S : FnScope N ps (defScope st))
    (hl : ∀ ds c R, ok ds c R → ds.length + 1 = ps.length)
    (hb : ∀ (cdv : Value) (A : Around) (outer : List Env) (s : Shared) (H : Hp) (E : XK) (p : Addr) (B : List Addr) (ds : List SV) (c : Nat) (R : SV → Prop) (n : Nat) (fm : Fm) (D0 : Ends), ok ds c R → n + c ≤ 1000000 → (cxOf CX0 P w K mg base N qual (defScope st) f cdv A outer s H E).nox.A.guards = some [] →
      Room k (cxOf CX0 P w K mg base N qual (defScope st) f cdv A outer s H E).nox.A → fm.C = ⟨some p, B⟩ → Wt K fm D0.rt (fun m z => m ≤ n + c ∧ R z) →
      Bk (cxOf CX0 P w K mg base N qual (defScope st) f cdv A outer s H E).nox fm ⟨[], some (.v (.ref p)) :: (ds.map some ++ List.replicate (N.length - ps.length) none), n⟩ D0 (defBody st)) : Gd P w K mg base CX0 (k + 1) f fd ps (SpW K ok) := by
  refine gd_of F S (fun vs H Q E ⟨p, B, ws, n, c, ds, R, e, _, _, g, _, _, o, _⟩ => by rw [e, List.length_cons, g.length]; exact hl ds c R o) fun cdv A outer s H vs Q E gu hr ⟨p, B, ws, n, c, ds, R, ev, hp, kn, g, po, hz, o, q⟩ => ?_
  subst ev
  have inB : ∀ b, b ∈ Bd ⟨some p, B⟩ [] → b ∈ B := fun b hb => by
    rcases List.mem_append.mp hb with z | z
    · have e : b = p := by simpa [Bs] using z
      rw [e]
      exact hp
    · exact z
  refine ⟨_, (hb cdv A outer s H E p B ds c R n ⟨⟨some p, B⟩, [([p], H)]⟩ { nx := fun _ H' => Q .non H', rt := Q } o hz gu hr rfl ?_).nox, ?_⟩
  · intro v H' z m a ho e s1
    obtain ⟨hm, hR⟩ := e
    exact q v H' z (a ([p], H) List.mem_cons_self) ((ho.pot p rfl).mono hm) hR (s1.less fun b hb => List.mem_append_right _ hb)
  · refine ⟨.refl _, fun a ha => ?_, fun a ha b hb => ?_, ?_, ?_⟩
    · rw [List.mem_singleton.mp ha]
      exact .refl _ _
    · rw [List.mem_singleton.mp ha]
      exact .inl (by simpa [Bs] using hb)
    · unfold L2.start
      have e1 : (V.ref p :: ws).length = ps.length := by rw [List.length_cons, g.length]; exact hl ds c R o
      rw [e1]
      exact (slots_sv (g.less inB)).first (v := .ref p) (sv := .v (.ref p)) rfl
    · refine ⟨fun p' e => ?_, fun _ _ z => absurd z List.not_mem_nil, fun _ _ z => absurd z List.not_mem_nil, by simp [Bs], kn, fun _ z => absurd z List.not_mem_nil⟩
      cases e
      exact po
end Wk
/-! lists with tests, texts -/
namespace Wk
open PySem PySem.Spec PyProof.Rows L2
section
variable {X : Cx} {C : Ct} {L : Ls} {δ : Dl} {n m k : Nat}
/-! ### [elt for tg in iter if cond] -/
def ttF (K : PySem.W.Frag) (C : Ct) (L : Ls) (δ0 : Dl) (ds : List PD) (tgd : Tg) (m : Nat) (kp : PD → Bool) : TT := fun σ H Q => ∃ (D : Addr) (acc : List PD) (d : PD) (δ' : Dl), d ∈ ds ∧ tgd.put d δ0 = some δ' ∧ tTs K C ((D, acc) :: L) δ' m m (kp d) σ H Q
def teF (K : PySem.W.Frag) (C : Ct) (L : Ls) (δ0 : Dl) (ds : List PD) (tgd : Tg) (m : Nat) (kp : PD → Bool) (f : PD → PD) : TE := fun σ H Q => ∃ (D : Addr) (acc : List PD) (d : PD) (δ' : Dl), d ∈ ds ∧ kp d = true ∧ tgd.put d δ0 = some δ' ∧ tOf K C ((D, acc) :: L) δ' m m (Eq (SV.d (f d))) σ H Q
theorem take_next {α : Type} {l : List α} {i : Nat} {d : α} (h : l[i]? = some d) : l.take (i + 1) = l.take i ++ [d] := by
  rw [List.take_succ, h]
  rfl
theorem lcF_imp {own : List (Str × Nat)} {tgd : Tg} {ds : List PD} {kp : PD → Bool} {f : PD → PD} (hix : ∀ i, i ∈ tgd.ix → i ∈ own.map (·.2))
    (hp : ∀ d, d ∈ ds → ∃ δ', tgd.put d (wipeD δ (own.map (·.2))) = some δ') (hz : ds.length ≤ 100000) (σ : L2.St) (H : Hp) (Q : VK)
    (hq : tOf X.K C L δ n m (Eq (SV.d (.list ((ds.filter kp).map f)))) σ H Q) :
    tLc (tIt X.K C L δ n m ds) (gT X.K C tgd) (ttF X.K C L (wipeD δ (own.map (·.2))) ds tgd m kp) (teF X.K C L (wipeD δ (own.map (·.2))) ds tgd m kp f) (own.map (·.2)) σ H Q := by
  obtain ⟨t, q⟩ := hq
  refine ⟨t, fun J H1 k1 h1 goes => ?_⟩
  intro D hD
  obtain ⟨G, g0, gGrow, gKeep, wk⟩ := goes.ex
  have t1 : At X.K C L δ m σ H1 := t.go k1 h1
  have smD := same_new (o := .lst []) hD
  have wid : ∀ b, b ∈ D :: Bs C L → b ∈ D :: Bd C L := fun b hb => (List.mem_cons.mp hb).elim (fun z => by rw [z]; exact List.mem_cons_self) fun z => List.mem_cons_of_mem _ (bs_bd _ z)
  refine lc_it (g := gT X.K C tgd) (tt := ttF X.K C L (wipeD δ (own.map (·.2))) ds tgd m kp) (te := teF X.K C L (wipeD δ (own.map (·.2))) ds tgd m kp f) (vs := own.map (·.2)) (σ := σ) (H1 := H1) (D := D) (Qd := Q (.ref D)) (wk (D :: Bd C L))
    (fun i H2 => At X.K C ((D, ((ds.take i).filter kp).map f) :: L) (wipeD δ (own.map (·.2))) m (L2.wipe σ (own.map (·.2))) H2 ∧ Keep (Bs C L) H1 H2 ∧ G (D :: Bd C L) H2) ?_ (fun i H2 _ ⟨_, _, g⟩ => g) ?_ ?_
  · refine ⟨⟨?_, ?_⟩, .same smD, ?_⟩
    · exact ((t1.sl.grow hD).keep (.same smD)).wipe _
    · exact h1.push hD .nil
    · exact gKeep _ _ _ (gGrow _ _ _ g0 hD) (.same smD)
  · rintro i x H2 H3 hlt ⟨t2, k2, g2⟩ y
    obtain ⟨sm, d, hd, dv⟩ := y fun b hb => t2.hold.known hb
    have hmem := List.mem_of_getElem? hd
    obtain ⟨δ', hput⟩ := hp d hmem
    have nx := take_next hd
    refine ⟨(D, ((ds.take i).filter kp).map f) :: L, wipeD δ (own.map (·.2)), m, d, δ', t2.same sm, dv, hput, fun σ' t3 w3 => ⟨?_, ?_⟩⟩
    · rw [w3 _ hix]
      exact wipe_wipe fun u hu => hu
    · refine ⟨D, _, d, δ', hmem, hput, t3, fun H4 k4 h4 => ?_⟩
      cases hk : kp d with
      | false =>
        rw [if_neg (by decide)]
        have e : ((ds.take (i + 1)).filter kp).map f = ((ds.take i).filter kp).map f := by
          rw [nx, List.filter_append, List.filter_cons, hk]
          simp
        rw [e]
        have kA : Keep (D :: Bs C L) H2 H4 := (Keep.same sm).trans k4
        exact ⟨⟨t2.sl.keep (kA.wider wid), h4⟩, keep_over k2 kA hD, gKeep _ _ _ g2 (kA.wider wid)⟩
      | true =>
        rw [if_pos rfl]
        have e : ((ds.take (i + 1)).filter kp).map f = ((ds.take i).filter kp).map f ++ [f d] := by
          rw [nx, List.filter_append, List.filter_cons, hk]
          simp
        refine ⟨D, _, d, δ', hmem, hk, hput, t3.go k4 h4, fun v H5 sv k5 h5 r5 s5 => ?_⟩
        subst r5
        obtain ⟨xs, hx, gx⟩ := h5.ls D _ List.mem_cons_self
        have gx' := gx.app (.cons s5 .nil)
        have kD : Keep (D :: Bs C L) H5 (upd H5 D (.lst (xs ++ [v]))) := keep_upd List.mem_cons_self
        have kA : Keep (D :: Bs C L) H2 (upd H5 D (.lst (xs ++ [v]))) := (Keep.same sm).trans (k4.trans (k5.trans kD))
        refine ⟨xs, hx, ?_, ?_⟩
        · rw [gx.length, List.length_map]
          have l1 := List.length_filter_le kp (ds.take i)
          have l2 := List.length_take_le i ds
          exact Nat.lt_of_lt_of_le (show _ < 100000 by omega) (by decide)
        · rw [e]
          exact ⟨⟨t2.sl.keep (kA.wider wid), h5.put gx'⟩, keep_over k2 kA hD, gKeep _ _ _ g2 (kA.wider wid)⟩
  · rintro H2 ⟨t2, k2, g2⟩
    obtain ⟨xs, hx, gx⟩ := t2.hold.ls D _ List.mem_cons_self
    rw [List.take_length] at gx
    exact q _ H2 _ (k1.trans k2) t2.hold.pop rfl (Dv.lst (.inl ⟨fun z => h1.fresh hD z, .inl hx⟩) (gx.less fun b hb => List.mem_cons_of_mem _ hb))
theorem e_lcF {elt tg iter cond : Expr} {scope : Scope} {own : List (Str × Nat)} {pos : Pos} {tgd : Tg} {ds : List PD} (kp : PD → Bool) (f : PD → PD) (hc : X.calm = true) (hN : X.N.Nodup) (hi : Wi X C L δ tg iter n m ds) (ok : BlkOk X.N X.env.scope scope own)
    (hg : ∀ (s : Shared) (H : Hp) (Cc : Addr) (cl : List (Str × Addr)) (fp : List Addr), PG (X.blk s H scope (compEnvC scope cl Cc X.env) fp) tg (gT X.K C tgd)) (hix : ∀ i, i ∈ tgd.ix → i ∈ own.map (·.2))
    (hp : ∀ d, d ∈ ds → ∃ δ', tgd.put d (wipeD δ (own.map (·.2))) = some δ')
    (ht : ∀ (s : Shared) (H : Hp) (Cc : Addr) (cl : List (Str × Addr)) (fp : List Addr) (D : Addr) (acc : List PD) (d : PD) (δ' : Dl), d ∈ ds → tgd.put d (wipeD δ (own.map (·.2))) = some δ' →
      PT (X.blk s H scope (compEnvC scope cl Cc X.env) fp) cond (tTs X.K C ((D, acc) :: L) δ' m m (kp d)))
    (he : ∀ (s : Shared) (H : Hp) (Cc : Addr) (cl : List (Str × Addr)) (fp : List Addr) (D : Addr) (acc : List PD) (d : PD) (δ' : Dl), d ∈ ds → kp d = true → tgd.put d (wipeD δ (own.map (·.2))) = some δ' →
      PE (X.blk s H scope (compEnvC scope cl Cc X.env) fp) elt (tOf X.K C ((D, acc) :: L) δ' m m (Eq (SV.d (f d)))))
    (hz : ds.length ≤ 100000) (hs : ∀ x, foldedSetIterable iter X.env x = pure x := by intro _; rfl) :
    Ed X C L δ (.ListComp elt [⟨tg, iter, [cond], 0⟩] scope pos) n m (.list ((ds.filter kp).map f)) :=
  PE.imp (pe_lc (own := own) hc hN hi ok hg (fun s H Cc cl fp => pts_one (t := ttF X.K C L (wipeD δ (own.map (·.2))) ds tgd m kp) ⟨fun pins s1 σ H1 Q I ⟨D, acc, d, δ', h1, h2, h3⟩ => (ht s H Cc cl fp D acc d δ' h1 h2).run pins s1 σ H1 Q I h3⟩)
    (fun s H Cc cl fp => (⟨fun pins s1 σ H1 Q I ⟨D, acc, d, δ', h1, h2, h3, q⟩ => (he s H Cc cl fp D acc d δ' h1 h2 h3).run pins s1 σ H1 Q I q⟩ : PE _ elt (teF X.K C L (wipeD δ (own.map (·.2))) ds tgd m kp f))) hs) (lcF_imp hix hp hz)
/-- .. of one name -/
theorem e_lcFN {elt iter cond : Expr} {scope : Scope} {x : Str} {i : Nat} {pos tp : Pos} {ds : List PD} (kp : PD → Bool) (f : PD → PD) (hc : X.calm = true) (hN : X.N.Nodup) (hi : Wi X C L δ (.Name x tp) iter n m ds) (ok : BlkOk X.N X.env.scope scope [(x, i)])
    (hg : ∀ (s : Shared) (H : Hp) (Cc : Addr) (cl : List (Str × Addr)) (fp : List Addr), PG (X.blk s H scope (compEnvC scope cl Cc X.env) fp) (.Name x tp) (gT X.K C (.name i)))
    (ht : ∀ (s : Shared) (H : Hp) (Cc : Addr) (cl : List (Str × Addr)) (fp : List Addr) (D : Addr) (acc : List PD) (d : PD), d ∈ ds →
      PT (X.blk s H scope (compEnvC scope cl Cc X.env) fp) cond (tTs X.K C ((D, acc) :: L) ((δ.set i none).set i (some (.d d))) m m (kp d)))
    (he : ∀ (s : Shared) (H : Hp) (Cc : Addr) (cl : List (Str × Addr)) (fp : List Addr) (D : Addr) (acc : List PD) (d : PD), d ∈ ds → kp d = true →
      PE (X.blk s H scope (compEnvC scope cl Cc X.env) fp) elt (tOf X.K C ((D, acc) :: L) ((δ.set i none).set i (some (.d d))) m m (Eq (SV.d (f d)))))
    (hz : ds.length ≤ 100000) (hs : ∀ x, foldedSetIterable iter X.env x = pure x := by intro _; rfl) :
    Ed X C L δ (.ListComp elt [⟨.Name x tp, iter, [cond], 0⟩] scope pos) n m (.list ((ds.filter kp).map f)) :=
  e_lcF (own := [(x, i)]) (tgd := .name i) kp f hc hN hi ok hg (fun j hj => hj) (fun d _ => ⟨_, rfl⟩) (fun s H Cc cl fp D acc d δ' hd hp => by
    obtain rfl := put_name_eq hp
    exact ht s H Cc cl fp D acc d hd) (fun s H Cc cl fp D acc d δ' hd hk hp => by
    obtain rfl := put_name_eq hp
    exact he s H Cc cl fp D acc d hd hk) hz hs
end
section
variable {X : Cx} {F : Fm} {L : Ls} {δ : Dl} {n m : Nat} {D0 : Ends} {rest : List Stmt}
/-- y = [.. for x in .. if ..] -/
theorem r_lcFN {elt iter cond : Expr} {scope : Scope} {x y : Str} {i : Nat} {pos tp py spos : Pos} {ds : List PD} (k : Nat) (kp : PD → Bool) (f : PD → PD) (hc : X.calm = true) (hN : X.N.Nodup) (hi : Wi X F.C L δ (.Name x tp) iter n m ds) (ok : BlkOk X.N X.env.scope scope [(x, i)])
    (hg : ∀ (s : Shared) (H : Hp) (Cc : Addr) (cl : List (Str × Addr)) (fp : List Addr), PG (X.blk s H scope (compEnvC scope cl Cc X.env) fp) (.Name x tp) (gT X.K F.C (.name i)))
    (ht : ∀ (s : Shared) (H : Hp) (Cc : Addr) (cl : List (Str × Addr)) (fp : List Addr) (D : Addr) (acc : List PD) (d : PD), d ∈ ds →
      PT (X.blk s H scope (compEnvC scope cl Cc X.env) fp) cond (tTs X.K F.C ((D, acc) :: L) ((δ.set i none).set i (some (.d d))) m m (kp d)))
    (he : ∀ (s : Shared) (H : Hp) (Cc : Addr) (cl : List (Str × Addr)) (fp : List Addr) (D : Addr) (acc : List PD) (d : PD), d ∈ ds → kp d = true →
      PE (X.blk s H scope (compEnvC scope cl Cc X.env) fp) elt (tOf X.K F.C ((D, acc) :: L) ((δ.set i none).set i (some (.d d))) m m (Eq (SV.d (f d)))))
    (hz : ds.length ≤ 100000) (g : Bk X F ⟨L, δ.set k (some (.d (.list ((ds.filter kp).map f)))), m⟩ D0 rest) (hy : X.N[k]? = some y := by rfl) (hyl : X.env.scope.names.lookup y = some .local := by rfl)
    (hsw : swapsWith (.ListComp elt [⟨.Name x tp, iter, [cond], 0⟩] scope pos) (some (.Name y py)) spos.line X.env = pure true := by exact sw_true rfl rfl rfl (by decide +kernel)) (hs : ∀ x, foldedSetIterable iter X.env x = pure x := by intro _; rfl) :
    Bk X F ⟨L, δ, n⟩ D0 (.Assign [.Name y py] (.ListComp elt [⟨.Name x tp, iter, [cond], 0⟩] scope pos) spos :: rest) := by
  have hT : ∀ (s : Shared) (H : Hp) (Cc : Addr) (cl : List (Str × Addr)) (fp : List Addr), PTs (X.blk s H scope (compEnvC scope cl Cc X.env) fp) [cond] (ttF X.K F.C L (wipeD δ [i]) ds (.name i) m kp) := fun s H Cc cl fp => pts_one ⟨fun pins s1 σ H1 Q I ⟨D, acc, d, δ', h1, h2, h3⟩ => by
    obtain rfl := put_name_eq h2
    exact (ht s H Cc cl fp D acc d h1).run pins s1 σ H1 Q I h3⟩
  have hE : ∀ (s : Shared) (H : Hp) (Cc : Addr) (cl : List (Str × Addr)) (fp : List Addr), PE (X.blk s H scope (compEnvC scope cl Cc X.env) fp) elt (teF X.K F.C L (wipeD δ [i]) ds (.name i) m kp f) := fun s H Cc cl fp => ⟨fun pins s1 σ H1 Q I ⟨D, acc, d, δ', h1, h2, h3, q⟩ => by
    obtain rfl := put_name_eq h3
    exact (he s H Cc cl fp D acc d h1 h2).run pins s1 σ H1 Q I q⟩
  exact r_ps (R := Eq (SV.d (.list ((ds.filter kp).map f)))) (PS.imp (ps_setLc (own := [(x, i)]) hc hN hy hyl hsw hi ok hg hT hE hs) fun D σ H q => lcF_imp (own := [(x, i)]) (tgd := .name i) (fun j hj => hj) (fun d _ => ⟨_, rfl⟩) hz σ H _ q) fun sv e => by
    subst e
    exact g
end
end Wk
namespace Wk
open PySem PySem.Spec PyProof.Rows L2
section
variable {X : Cx} {C : Ct} {L : Ls} {δ : Dl} {n m k : Nat} {a b c e o : Expr} {es : List Expr} {pos p : Pos} {ds fs : List PD} {d : PD} {s t : Str}
/-- a list's own object -/
theorem RdL.isL {B : List Addr} {H : Hp} {r : Addr} {xs : List V} {pins : List (Addr × Obj)} {σ : L2.St} {sh : Shared} (h : RdL X.K B H r xs) (I : Inv X pins σ H sh) :
    ∃ (its : List Value) (z : Nat), Vals xs its ∧ sh.heap.get? r = some { cls := .type "list", data := .seq its.toArray z } ∧ xs.length ≤ sizeLine := by
  rcases h with ⟨_, h⟩ | ⟨its, z, h1, h2, h3⟩
  · obtain ⟨z, its, q, rv, e⟩ := h.ok I.hok
    exact ⟨its, q, rv, e, z⟩
  · refine ⟨its.toList, z, h3, by simpa using I.kIn r _ h1, ?_⟩
    have e := h3.length
    simp only [Array.length_toList] at e
    omega
/-! list + list -/
def rCatD (K : PySem.W.Frag) : R2 := fun x y H Q => ∃ (l b : Addr) (xs zs : List V) (B : List Addr), x = .ref l ∧ y = .ref b ∧ RdL K B H l xs ∧ RdL K B H b zs ∧ xs.length + zs.length ≤ sizeLine ∧ ∀ p, H p = none → Q (.ref p) (upd H p (.lst (xs ++ zs)))
theorem op_catD : OpR X (binaryOp .Add) (rCatD X.K) := by
  intro pins s σ H x y v u Q I rx ry h
  obtain ⟨l, b, xs, zs, B, rfl, rfl, hH, hB, hz, q⟩ := h
  cases rx
  cases ry
  obtain ⟨its, z, r, e, hl⟩ := hH.isL I
  obtain ⟨its2, z2, r2, e2, hl2⟩ := hB.isL I
  have l1 := r.length
  have l2 := r2.length
  refine PySem.P.add_list e e2 ?_ (by rw [List.size_toArray, List.size_toArray]; omega)
  have ea : its.toArray ++ its2.toArray = (its ++ its2).toArray := by simp
  rw [ea]
  exact ⟨.ref _, _, I.lnew (t' := s.toks) (r.append r2) (by rw [List.length_append]; omega), rfl, q _ I.fresh⟩
theorem e_catD (ha : Ed X C L δ a n m (.list ds)) (hb : Ed X C L δ b m k (.list fs)) (hz : ds.length + fs.length ≤ 100000) : Ed X C L δ (.BinOp a .Add b pos) n k (.list (ds ++ fs)) :=
  e_op op_catD (fun x y H Q h hx hy q => by
    cases hx with
    | @lst _ xs1 _ r g =>
      cases hy with
      | @lst _ xs2 _ r' g' =>
        have e1 := g.length
        have e2 := g'.length
        refine ⟨_, _, _, _, Bd C L, rfl, rfl, r, r', ?_, fun p np => ?_⟩
        · rw [e1, e2]
          exact Nat.le_trans hz (by decide)
        · have sm := same_new (o := .lst (xs1 ++ xs2)) np
          exact q _ _ sm (Dv.lst (.inl ⟨h.fresh np, .inl upd_same⟩) ((g.app g').keep (.same sm)))) ha hb
/-! xs.extend(ys) -/
def rExtD (K : PySem.W.Frag) : V → List V → Hp → VK → Prop := fun x vs H Q => ∃ (l b : Addr) (xs zs : List V) (B : List Addr), x = .ref l ∧ vs = [.ref b] ∧ H l = some (.lst xs) ∧ RdL K B H b zs ∧ xs.length + zs.length ≤ sizeLine ∧ Q .non (upd H l (.lst (xs ++ zs)))
theorem mt_extD : MtM X "list.extend" (rExtD X.K) := by
  intro pins s σ H x vs v us Q I rx rv h
  obtain ⟨l, b, xs, zs, B, rfl, rfl, hH, hB, hz, q⟩ := h
  cases rx
  obtain ⟨u, rfl, ru⟩ := rv.one
  cases ru
  obtain ⟨z, its, q1, r, hl, e⟩ := I.lstM hH
  obtain ⟨its2, q2, r2, e2, hl2⟩ := hB.isL I
  have l2 := r2.length
  have small : its.toArray.size + its2.toArray.size ≤ sizeLine := by rw [List.size_toArray, List.size_toArray]; omega
  have short : ¬ (!its.toArray.isEmpty && Builtin.List.listTooLong (its.toArray.size + its2.toArray.size)) = true := by
    rw [notLongL small, Bool.and_false]
    decide
  refine call_meets PySem.F.slot_list_extend ⟨_, e, rfl⟩ PySem.F.entry_list_extend (PySem.F.args_list_extend_2 _ _) (AutoSeq1.list_extend_list_list_0 l its.toArray q1 b its2.toArray q2 short (by rw [List.size_toArray]; omega) (by omega)) ⟨e, e2, ?_⟩
  exact ⟨.non, _, I.lset (its' := its ++ its2) hH e (by simp) (r.append r2) (by rw [List.length_append]; omega), rfl, q⟩
/-! texts -/
theorem e_addS (ha : Ed X C L δ a n m (.str s)) (hb : Ed X C L δ b m k (.str t)) (hz : s.length + t.length ≤ 100000) : Ed X C L δ (.BinOp a .Add b pos) n k (.str (s ++ t)) :=
  e_op op_add_str (fun x y H Q h hx hy q => by
    cases hx
    cases hy
    exact ⟨s, t, rfl, rfl, Nat.le_trans hz (by decide), q _ H (.refl H) (.str _)⟩) ha hb
theorem e_addSR {R S : Str → Prop} (ha : E X C L δ a n m (fun sv => ∃ z, sv = .d (.str z) ∧ R z)) (hb : E X C L δ b m k (fun sv => ∃ z, sv = .d (.str z) ∧ S z)) (hz : ∀ s t, R s → S t → s.length + t.length ≤ 100000) : E X C L δ (.BinOp a .Add b pos) n k (fun sv => ∃ s t, sv = .d (.str (s ++ t)) ∧ R s ∧ S t) :=
  PE.imp (pe_op op_add_str ha hb) fun σ H Q ⟨t, q⟩ => ⟨t, fun v H2 sv k1 h1 e1 s1 => ⟨t.go k1 h1, fun u H3 su k2 h2 e2 s2 => by
    obtain ⟨z1, rfl, r1⟩ := e1
    obtain ⟨z2, rfl, r2⟩ := e2
    cases s1
    cases s2
    exact ⟨z1, z2, rfl, rfl, Nat.le_trans (hz _ _ r1 r2) (by decide), q _ H3 _ (k1.trans k2) h2 ⟨z1, z2, rfl, r1, r2⟩ (Dv.str _)⟩⟩⟩
theorem DvAll.strs {K : PySem.W.Frag} {B : List Addr} {H : Hp} : ∀ {ss : List Str} {vs : List V}, DvAll K B H vs (ss.map PyData.str) → vs = ss.map V.str
  | [], vs, h => by
    cases h
    rfl
  | s :: ss, _, h => by
    cases h with
    | cons x y =>
      cases x
      rw [DvAll.strs y]
      rfl
theorem DvAll.of_strs {K : PySem.W.Frag} {B : List Addr} {H : Hp} : ∀ (ss : List Str), DvAll K B H (ss.map V.str) (ss.map PyData.str)
  | [] => .nil
  | s :: ss => .cons (.str s) (DvAll.of_strs ss)
/-- sep.join(list of texts) -/
theorem e_joinR {R : List Str → Prop} {apos cpos : Pos} (ho : Ed X C L δ o n m (.str s)) (ha : E X C L δ a m k (fun sv => ∃ ss : List Str, sv = .d (.list (ss.map PyData.str)) ∧ R ss)) (hz : ∀ ss, R ss → (ss.map (·.length)).sum + ss.length * s.length ≤ 100000)
    (hs : starEach [a] X.env = [(false, eval a X.env)] := by rfl) (hbase : attributeBase o "join" X.env (eval o X.env) = eval o X.env := by rfl) (hline : (apos.endLine == cpos.line) = true := by rfl) :
    E X C L δ (.Call (.Attribute o "join" apos) [a] [] cpos) n k (fun sv => ∃ ss, sv = .d (.str (Txt.join s ss)) ∧ R ss) :=
  PE.imp (pe_join ho ha hs hbase hline) fun σ H Q ⟨t, q⟩ => ⟨t, fun v H2 sv k1 h1 e1 s1 => by
    subst e1
    cases s1
    refine ⟨⟨_, rfl⟩, t.go k1 h1, fun w H3 sw k2 h2 e2 s2 => ?_⟩
    obtain ⟨ss, rfl, r⟩ := e2
    cases (show Dv X.K (Bd C L) H3 w (.list (ss.map PyData.str)) from s2) with
    | lst rd g =>
      have e := g.strs
      subst e
      exact ⟨s, _, ss, rfl, rfl, .inl rd.sq, Nat.le_trans (hz ss r) (by decide), q _ H3 _ (k1.trans k2) h2 ⟨ss, rfl, r⟩ (Dv.str _)⟩⟩
theorem e_join {ss : List Str} {apos cpos : Pos} (ho : Ed X C L δ o n m (.str s)) (ha : Ed X C L δ a m k (.list (ss.map PyData.str))) (hz : (ss.map (·.length)).sum + ss.length * s.length ≤ 100000)
    (hs : starEach [a] X.env = [(false, eval a X.env)] := by rfl) (hbase : attributeBase o "join" X.env (eval o X.env) = eval o X.env := by rfl) (hline : (apos.endLine == cpos.line) = true := by rfl) :
    Ed X C L δ (.Call (.Attribute o "join" apos) [a] [] cpos) n k (.str (Txt.join s ss)) :=
  e_imp (e_joinR (R := fun z => z = ss) ho (e_imp ha fun sv e => ⟨ss, e.symm, rfl⟩) (fun z e => by rw [e]; exact hz) hs hbase hline) fun sv ⟨z, e1, e2⟩ => by
    subst e2
    exact e1.symm
theorem e_split {apos cpos : Pos} (ho : Ed X C L δ o n m (.str s)) (ha : Ed X C L δ a m k (.str t)) (ht : (t.length == 0) = false) (hz : s.length ≤ 100000)
    (hs : starEach [a] X.env = [(false, eval a X.env)] := by rfl) (hbase : attributeBase o "split" X.env (eval o X.env) = eval o X.env := by rfl) (hline : (apos.endLine == cpos.line) = true := by rfl) :
    Ed X C L δ (.Call (.Attribute o "split" apos) [a] [] cpos) n k (.list ((Txt.split s t).map PyData.str)) :=
  PE.imp (pe_split ho ha hs hbase hline) fun σ H Q ⟨t', q⟩ => ⟨t', fun v H2 sv k1 h1 e1 s1 => by
    subst e1
    cases s1
    refine ⟨⟨_, rfl⟩, t'.go k1 h1, fun w H3 sw k2 h2 e2 s2 => ?_⟩
    subst e2
    cases s2
    refine ⟨s, t, rfl, rfl, ht, Nat.le_trans (Nat.add_le_add_right hz 2) (by decide), fun p np => ?_⟩
    have sm := same_new (o := .lst ((Txt.split s t).map V.str)) np
    exact q _ _ _ (k1.trans (k2.trans (.same sm))) (h2.same sm) rfl (Dv.lst (.inl ⟨h2.fresh np, .inl upd_same⟩) (DvAll.of_strs _))⟩
theorem e_partition {apos cpos : Pos} (ho : Ed X C L δ o n m (.str s)) (ha : Ed X C L δ a m k (.str t)) (ht : (t.length == 0) = false) (hz : s.length ≤ 100000)
    (hs : starEach [a] X.env = [(false, eval a X.env)] := by rfl) (hbase : attributeBase o "partition" X.env (eval o X.env) = eval o X.env := by rfl) (hline : (apos.endLine == cpos.line) = true := by rfl) :
    Ed X C L δ (.Call (.Attribute o "partition" apos) [a] [] cpos) n k (.tuple [.str (Txt.partition s t).1, .str (Txt.partition s t).2.1, .str (Txt.partition s t).2.2]) :=
  PE.imp (pe_partition ho ha hs hbase hline) fun σ H Q ⟨t', q⟩ => ⟨t', fun v H2 sv k1 h1 e1 s1 => by
    subst e1
    cases s1
    refine ⟨⟨_, rfl⟩, t'.go k1 h1, fun w H3 sw k2 h2 e2 s2 => ?_⟩
    subst e2
    cases s2
    refine ⟨s, t, rfl, rfl, ht, Nat.le_trans hz (by decide), fun p np => ?_⟩
    have sm := same_new (o := .tup [.str (Txt.partition s t).1, .str (Txt.partition s t).2.1, .str (Txt.partition s t).2.2]) np
    exact q _ _ _ (k1.trans (k2.trans (.same sm))) (h2.same sm) rfl (Dv.tup (.inl ⟨h2.fresh np, .inl upd_same⟩) (.cons (.str _) (.cons (.str _) (.cons (.str _) .nil))))⟩
/-- str(int) -/
theorem e_strI {i : Int} (hm : X.mg "str" = none) (h : Ed X C L δ e n m (.int i)) (hi : i.natAbs.log2 < 1920) (hg : Gl X "str" := by rfl) (he : starEach [e] X.env = (false, eval e X.env) :: starEach [] X.env := by rfl) : Ed X C L δ (.Call (.Name "str" p) [e] [] pos) n m (.str (toString i)) :=
  e_callTy call_str_int (R := Eq ([.int i].map SV.d)) (fun vs svs H Q h1 e1 s1 q => by
    subst e1
    obtain ⟨v, rfl, g⟩ := DvAll.one s1
    cases g
    exact ⟨i, rfl, hi, q _ H _ (.refl H) rfl (Dv.str _)⟩) hm (by decide +kernel) (a_cons h a_nil he) hg (he := he)
/-! x in (..), of texts, ints, None, bools -/
def flD : PD → Bool
  | .none => true
  | .bool _ => true
  | .int _ => true
  | .str _ => true
  | _ => false
def inD (d : PD) (ds : List PD) : Bool := ds.any fun z => PyData.eqv z d
end
end Wk
namespace Wk
open PySem PySem.Spec PyProof.Rows L2
section
variable {X : Cx} {C : Ct} {L : Ls} {δ : Dl} {n m k : Nat} {a b c e o tg : Expr} {es : List Expr} {pos p : Pos} {ds fs : List PD} {d : PD} {s t : Str}
/-! ### text in texts -/
theorem str_beq (a b : Str) : (a == b) = decide (a = b) := by
  by_cases h : a = b
  · subst h
    rw [decide_eq_true rfl]
    exact beq_self_eq_true a
  · rw [decide_eq_false h]
    exact beq_eq_false_iff_ne.mpr h
theorem inV_strs (s : Str) : ∀ ss : List Str, inV (.str s) (ss.map V.str) = decide (s ∈ ss)
  | [] => by
    rw [decide_eq_false List.not_mem_nil]
    rfl
  | t :: ss => by
    show ((t == s) || inV (.str s) (ss.map V.str)) = _
    rw [inV_strs s ss, str_beq]
    by_cases h : t = s
    · subst h
      simp
    · have h2 : ¬ s = t := fun z => h z.symm
      simp [h, h2]
theorem flat_strs (ss : List Str) : (ss.map V.str).all flatV = true := by
  rw [List.all_map, List.all_eq_true]
  exact fun _ _ => rfl
theorem v_inT {ss : List Str} : V2 X.K C L n (rIn X.K false) (.str s) (.tuple (ss.map PyData.str)) (.bool (decide (s ∈ ss))) := fun x y H Q h hx hy q => by
  cases hx
  cases hy with
  | tup r g =>
    have e := g.strs
    subst e
    refine ⟨_, _, rfl, .inr r.sq, rfl, flat_strs ss, ?_⟩
    rw [if_neg (by decide), inV_strs]
    exact q _ H (.refl H) (.bl _)
theorem v_inL {ss : List Str} : V2 X.K C L n (rIn X.K false) (.str s) (.list (ss.map PyData.str)) (.bool (decide (s ∈ ss))) := fun x y H Q h hx hy q => by
  cases hx
  cases hy with
  | lst r g =>
    have e := g.strs
    subst e
    refine ⟨_, _, rfl, .inl r.sq, rfl, flat_strs ss, ?_⟩
    rw [if_neg (by decide), inV_strs]
    exact q _ H (.refl H) (.bl _)
theorem v_notT {ss : List Str} : V2 X.K C L n (rIn X.K true) (.str s) (.tuple (ss.map PyData.str)) (.bool (!decide (s ∈ ss))) := fun x y H Q h hx hy q => by
  cases hx
  cases hy with
  | tup r g =>
    have e := g.strs
    subst e
    refine ⟨_, _, rfl, .inr r.sq, rfl, flat_strs ss, ?_⟩
    rw [if_pos rfl, inV_strs]
    exact q _ H (.refl H) (.bl _)
theorem v_notL {ss : List Str} : V2 X.K C L n (rIn X.K true) (.str s) (.list (ss.map PyData.str)) (.bool (!decide (s ∈ ss))) := fun x y H Q h hx hy q => by
  cases hx
  cases hy with
  | lst r g =>
    have e := g.strs
    subst e
    refine ⟨_, _, rfl, .inl r.sq, rfl, flat_strs ss, ?_⟩
    rw [if_pos rfl, inV_strs]
    exact q _ H (.refl H) (.bl _)
theorem e_inT {ss : List Str} (ha : Ed X C L δ a n m (.str s)) (hb : Ed X C L δ b m k (.tuple (ss.map PyData.str))) (hm : behindInMarks .In b = false := by with_unfolding_all rfl) : Ed X C L δ (.Compare a [.In] [b] pos) n k (.bool (decide (s ∈ ss))) := e_cmp op_in_seq v_inT hm ha hb
theorem t_inT {ss : List Str} (ha : Ed X C L δ a n m (.str s)) (hb : Ed X C L δ b m k (.tuple (ss.map PyData.str))) (hm : behindInMarks .In b = false := by with_unfolding_all rfl) : T X C L δ (.Compare a [.In] [b] pos) n k (decide (s ∈ ss)) := t_cmp op_in_seq v_inT hm ha hb
theorem t_notT {ss : List Str} (ha : Ed X C L δ a n m (.str s)) (hb : Ed X C L δ b m k (.tuple (ss.map PyData.str))) (hm : behindInMarks .NotIn b = false := by with_unfolding_all rfl) : T X C L δ (.Compare a [.NotIn] [b] pos) n k (!decide (s ∈ ss)) := t_cmp op_notIn_seq v_notT hm ha hb
theorem e_notT {ss : List Str} (ha : Ed X C L δ a n m (.str s)) (hb : Ed X C L δ b m k (.tuple (ss.map PyData.str))) (hm : behindInMarks .NotIn b = false := by with_unfolding_all rfl) : Ed X C L δ (.Compare a [.NotIn] [b] pos) n k (.bool (!decide (s ∈ ss))) := e_cmp op_notIn_seq v_notT hm ha hb
theorem t_notL {ss : List Str} (ha : Ed X C L δ a n m (.str s)) (hb : Ed X C L δ b m k (.list (ss.map PyData.str))) (hm : behindInMarks .NotIn b = false := by with_unfolding_all rfl) : T X C L δ (.Compare a [.NotIn] [b] pos) n k (!decide (s ∈ ss)) := t_cmp op_notIn_seq v_notL hm ha hb
/-- .. in a list that is being filled -/
theorem t_notM {r : Addr} {ss : List Str} (hl : (r, Cont.lst (ss.map PyData.str)) ∈ L) (ha : Ed X C L δ a n m (.str s)) (hb : Ev X C L δ b m k (.ref r)) (hm : behindInMarks .NotIn b = false := by with_unfolding_all rfl) : T X C L δ (.Compare a [.NotIn] [b] pos) n k (!decide (s ∈ ss)) :=
  PT.imp (pt_cmpR op_notIn_seq ha hb hm) fun σ H Q ⟨t, q⟩ => ⟨t, fun v H2 sv k1 h1 e1 s1 => ⟨t.go k1 h1, fun u H3 su k2 h2 e2 s2 => by
    subst e1 e2
    cases s1
    have e0 : u = .ref r := s2
    subst e0
    obtain ⟨xs, hx, gx⟩ := h2.ls r _ hl
    have e := gx.strs
    subst e
    refine ⟨r, _, rfl, .inl (.inl (.inl hx)), rfl, flat_strs ss, ?_⟩
    rw [if_pos rfl, inV_strs]
    exact ⟨_, rfl, q H3 (k1.trans k2) h2⟩⟩⟩
/-! ### x is None -/
theorem t_isN {j : Nat} {p2 : Pos} (ha : Ed X C L δ a n m d) : T X C L δ (.Compare a [.Is] [.Constant .none j p2] pos) n m (match d with | .none => true | _ => false) :=
  PT.imp (pt_cmp (pc_isN ha)) fun σ H Q ⟨t, q⟩ => ⟨t, fun v H2 sv k1 h1 e1 s1 => by
    subst e1
    cases s1 with
    | non => exact ⟨_, rfl, q H2 k1 h1⟩
    | bl b => exact ⟨_, rfl, q H2 k1 h1⟩
    | int i => exact ⟨_, rfl, q H2 k1 h1⟩
    | str x => exact ⟨_, rfl, q H2 k1 h1⟩
    | lst r g => exact ⟨_, rfl, q H2 k1 h1⟩
    | tup r g => exact ⟨_, rfl, q H2 k1 h1⟩
    | dic o n e => exact ⟨_, rfl, q H2 k1 h1⟩⟩
/-! ### signsD of a text -/
def signsD (s : Str) : List PD := s.cps.toList.map fun c => .str ⟨#[c]⟩
theorem goes_str {K : PySem.W.Frag} {B : List Addr} {H : Hp} : Goes K B (Its s) (signsD s) H := by
  refine ⟨fun _ _ => True, trivial, fun _ _ _ _ _ => trivial, fun _ _ _ _ _ => trivial, fun B => ?_⟩
  rw [show (signsD s).length = s.cps.size by simp [signsD]]
  exact walk_str.mono (fun _ h => h) fun i H x H' hi h y kn => by
    obtain ⟨rfl, c, hc, rfl⟩ := y
    exact ⟨.refl _, .str ⟨#[c]⟩, by simp [signsD, hc], .str _⟩
theorem i_str (h : Ed X C L δ e n m (.str s)) : Wi X C L δ tg e n m (signsD s) := PI.imp (pi_str h) fun σ H R ⟨t, q⟩ => ⟨t, fun v H2 sv k1 h1 e1 s1 => by
  subst e1
  cases s1
  exact ⟨s, rfl, q _ H2 k1 h1 goes_str⟩⟩
theorem e_lenS (hm : X.mg "len" = none) (h : Ed X C L δ e n m (.str s)) (hz : s.length ≤ 100000) (hg : Gl X "len" := by rfl) (he : starEach [e] X.env = (false, eval e X.env) :: starEach [] X.env := by rfl) : Ed X C L δ (.Call (.Name "len" p) [e] [] pos) n m (.int (s.length : Nat)) :=
  e_callB call_len (R := Eq ([.str s].map SV.d)) (fun vs svs H Q h1 e1 s1 q => by
    subst e1
    obtain ⟨v, rfl, g⟩ := DvAll.one s1
    cases g
    exact ⟨_, _, rfl, ⟨Nat.le_trans hz (by decide), rfl⟩, q _ H _ (.refl H) rfl (Dv.int _)⟩) hm PySem.boot_len (a_cons h a_nil he) hg (he := he)
/-- a sign at a drawn place -/
theorem e_ixSR (hz : s.length ≤ 100000) (ha : Ed X C L δ a n m (.str s)) (hb : E X C L δ b m k (fun sv => ∃ d, sv = .d d ∧ ∃ i : Int, d = .int i ∧ 0 ≤ i ∧ i < (s.length : Nat))) (hs : PlainIx b := by intro _ _; rfl) : E X C L δ (.Subscript a b pos) n k (fun sv => ∃ d, sv = .d d ∧ d ∈ signsD s) :=
  PE.imp (pe_ix ix_str ha hb hs) fun σ H Q ⟨t, q⟩ => ⟨t, fun v H2 sv k1 h1 e1 s1 => ⟨t.go k1 h1, fun w H3 sw k2 h2 e2 s2 => by
    subst e1
    obtain ⟨_, rfl, i, rfl, h0, hlt⟩ := e2
    cases s1
    cases s2
    obtain ⟨j, rfl⟩ : ∃ j : Nat, i = (j : Nat) := ⟨i.toNat, by omega⟩
    have hj : j < s.cps.toList.length := by
      have : s.length = s.cps.toList.length := by simp [Str.length]
      omega
    exact ⟨s, _, _, rfl, rfl, Nat.le_trans hz (by decide), atI_nat (List.getElem?_eq_getElem hj), q _ H3 _ (k1.trans k2) h2 ⟨_, rfl, List.mem_map.mpr ⟨_, List.getElem_mem hj, rfl⟩⟩ (Dv.str _)⟩⟩⟩
/-- len of a list that is being filled -/
theorem e_lenM {r : Addr} (hl : (r, Cont.lst (ds)) ∈ L) (hm : X.mg "len" = none) (h : Ev X C L δ e n m (.ref r)) (hg : Gl X "len" := by rfl) (he : starEach [e] X.env = (false, eval e X.env) :: starEach [] X.env := by rfl) : Ed X C L δ (.Call (.Name "len" p) [e] [] pos) n m (.int (ds.length : Nat)) :=
  e_callB call_len (R := Eq [SV.v (.ref r)]) (fun vs svs H Q h1 e1 s1 q => by
    subst e1
    cases s1 with
    | cons a b =>
      cases b
      have e0 : _ = V.ref r := a
      subst e0
      obtain ⟨xs, hx, gx⟩ := h1.ls r _ hl
      refine ⟨_, _, rfl, .inl ⟨xs, .inl (.inl hx), rfl⟩, ?_⟩
      rw [gx.length]
      exact q _ H _ (.refl H) rfl (Dv.int _)) hm PySem.boot_len (PA.imp (ar_cons (h : E X C L δ e n m _) ar_nil he) fun σ H Q ⟨t, q⟩ => ⟨t, fun vs H2 svs k1 h1 ⟨_, _, e1, e2, e3⟩ s1 => q vs H2 svs k1 h1 (by rw [e1, ← e2, e3]) s1⟩) hg (he := he)
/-! ### slices -/
def cutD (ds : List PD) (lo hi : Option Int) : List PD := (ds.drop (HT.sIx ds.length 0 lo)).take (HT.sIx ds.length ds.length hi - HT.sIx ds.length 0 lo)
theorem e_slL {i j : Int} {p2 : Pos} (ha : Ed X C L δ a n m (.list ds)) (hb : Ed X C L δ b m m (.int i)) (hc : Ed X C L δ c m k (.int j)) : Ed X C L δ (.Subscript a (.Slice (some b) (some c) none p2) pos) n k (.list (cutD ds (some i) (some j))) :=
  PE.imp (pe_slice sl_list ha (po_some hb) (po_some hc)) fun σ H Q ⟨t, q⟩ => ⟨t, fun v H2 sv k1 h1 r1 s1 => ⟨t.go k1 h1, fun w H3 sw k2 h2 r2 s2 => by
    subst r1 r2
    cases s2
    refine ⟨i, rfl, (t.go k1 h1).go k2 h2, fun w' H4 sw' k3 h3 r3 s3 => ?_⟩
    subst r3
    cases s3
    have s4 := Dv.keep s1 ((k2.trans k3).wider bs_bd)
    cases s4 with
    | @lst r xs _ r' g =>
      refine ⟨j, rfl, r, xs, rfl, r'.sq, fun y ny => ?_⟩
      have sm := same_new (o := .lst (cutV xs (some i) (some j))) ny
      refine q _ _ _ (k1.trans (k2.trans (k3.trans (.same sm)))) (h3.same sm) rfl (Dv.lst (.inl ⟨h3.fresh ny, .inl upd_same⟩) (DvAll.keep ?_ (.same sm)))
      unfold cutV cutD
      rw [g.length]
      exact cut_data _ _ g⟩⟩
/-- text[:j] -/
theorem e_slS {j : Int} {p2 : Pos} (hz : s.length ≤ 100000) (ha : Ed X C L δ a n m (.str s)) (hb : Ed X C L δ b m k (.int j)) : Ed X C L δ (.Subscript a (.Slice none (some b) none p2) pos) n k (.str (cutS s none (some j))) :=
  PE.imp (pe_slice sl_str ha po_none (po_some hb)) fun σ H Q ⟨t, q⟩ => ⟨t, fun v H2 sv k1 h1 r1 s1 => ⟨t.go k1 h1, fun w H3 sw k2 h2 r2 s2 => by
    subst r1 r2
    cases s1
    cases s2
    exact ⟨j, rfl, s, rfl, Nat.le_trans hz (by decide), q _ H3 _ (k1.trans k2) h2 rfl (Dv.str _)⟩⟩⟩
end
end Wk
/-! a dict with texts for keys that is made once and then read -/
namespace Wk
open PySem PySem.Spec PyProof.Rows L2
def entD (kvs : List (Str × PD)) (vs : List V) : List (L2.Key × V) := (kvs.zip vs).map fun z => (Sum.inr z.1.1, z.2)
def valsD (kvs : List (Str × PD)) : List PD := kvs.map Prod.snd
def obD (kvs : List (Str × PD)) : Ob where
  R := fun K B H v => ∃ (a : Addr) (vs : List V), v = .ref a ∧ a ∉ B ∧ H a = some (.dK (entD kvs vs)) ∧ DvAll K B H vs (valsD kvs)
  keep := fun ⟨a, vs, e, n, h, g⟩ k => ⟨a, vs, e, n, k a _ n h, g.keep k⟩
  grow := fun ⟨a, vs, e, n, h, g⟩ f => ⟨a, vs, e, fun z => (List.mem_cons.mp z).elim (fun z => by rw [z, f] at h; cases h) n, h, g.grow f⟩
  less := fun ⟨a, vs, e, n, h, g⟩ s => ⟨a, vs, e, fun z => n (s a z), h, g.less s⟩
def findD (kvs : List (Str × PD)) (x : Str) : Option PD := (kvs.find? fun z => decide (z.1 = x)).map (·.2)
theorem ent_find {K : PySem.W.Frag} {B : List Addr} {H : Hp} {x : Str} {d : PD} : ∀ {kvs : List (Str × PD)} {vs : List V}, DvAll K B H vs (valsD kvs) → findD kvs x = some d → ∃ v, valV (entD kvs vs) (Sum.inr x) = some v ∧ Dv K B H v d
  | [], _, _, e => by cases e
  | (y, c) :: kvs, _, g, e => by
    cases g with
    | @cons v vs _ _ g1 g2 =>
      by_cases h : y = x
      · subst h
        have e2 : c = d := by
          unfold findD at e
          rw [List.find?_cons_of_pos (by simp)] at e
          exact Option.some.inj e
        subst e2
        refine ⟨v, ?_, g1⟩
        show ((entD ((y, c) :: kvs) (v :: vs)).find? _).map _ = _
        show (((Sum.inr y, v) :: entD kvs vs).find? fun kv => decide (kv.1 = Sum.inr y)).map (·.2) = _
        rw [List.find?_cons_of_pos (by simp)]
        rfl
      · have e2 : findD kvs x = some d := by
          unfold findD at e ⊢
          rw [List.find?_cons_of_neg (by simpa using h)] at e
          exact e
        obtain ⟨w, h1, h2⟩ := ent_find g2 e2
        refine ⟨w, ?_, h2⟩
        show (((Sum.inr y, v) :: entD kvs vs).find? fun kv => decide (kv.1 = Sum.inr x)).map (·.2) = _
        rw [List.find?_cons_of_neg (by
          simp only [decide_eq_true_eq]
          exact fun z => h (Sum.inr.inj z))]
        exact h1
theorem merge_own : ∀ (kvs acc : List (L2.Key × V)), ((acc ++ kvs).map (·.1)).Nodup → kvs.foldl (fun acc kv => putK acc kv.1 kv.2) acc = acc ++ kvs
  | [], acc, _ => (List.append_nil acc).symm
  | (k, v) :: kvs, acc, h => by
    have e : putK acc k v = acc ++ [(k, v)] := by
      unfold putK
      rw [if_neg]
      intro z
      obtain ⟨q, hq, e⟩ := List.any_eq_true.mp z
      have e2 : q.1 = k := of_decide_eq_true e
      rw [List.map_append, List.map_cons] at h
      have := (List.nodup_append.mp h).2.2
      exact this q.1 (List.mem_map.mpr ⟨q, hq, rfl⟩) k List.mem_cons_self e2
    rw [List.foldl_cons]
    show List.foldl _ (putK acc k v) kvs = _
    rw [e, merge_own kvs _ (by rw [List.append_assoc]; exact h), List.append_assoc]
    rfl
theorem rd_off {H : Hp} {p a : Addr} {kvs : List (L2.Key × V)} {o u : HO} (h : H p = some (.dK kvs)) (hu : ∀ z, u ≠ .dK z) (r : Rd H a u) : Rd (upd H p o) a u := by
  rcases r with r | ⟨ob, r⟩
  · have n : a ≠ p := fun z => by
      rw [z, h] at r
      exact hu _ (Option.some.inj r).symm
    exact .inl (by rw [upd_ne n]; exact r)
  · have n : a ≠ p := fun z => by
      rw [z, h] at r
      cases r
    exact .inr ⟨ob, by rw [upd_ne n]; exact r⟩
theorem dv_off {K : PySem.W.Frag} {B : List Addr} {H : Hp} {p : Addr} {o : HO} {vs : List V} {ds : List PD} (h : H p = some (.dK [])) (g : DvAll K B H vs ds) : DvAll K B (upd H p o) vs ds :=
  DvAll.imp (fun _ _ r => r.imp_left fun z => ⟨z.1, rd_off h (fun _ e => by cases e) z.2⟩) (fun _ _ r => r.imp_left fun z => ⟨z.1, rd_off h (fun _ e => by cases e) z.2⟩) (fun a u du n e => ⟨n, by
    have na : a ≠ p := fun z => by
      rw [z, h] at e
      cases e
      rcases du with q | ⟨kv, q, ne⟩
      · cases q
      · cases q
        exact ne rfl
    rw [upd_ne na]
    exact e⟩) _ _ g
theorem Hold.off {K : PySem.W.Frag} {C : Ct} {L : Ls} {n : Nat} {H : Hp} {p : Addr} {o : HO} (h : Hold K C L n H) (np : p ∉ Bd C L) (hp : H p = some (.dK [])) : Hold K C L n (upd H p o) := by
  have nb : ∀ b, b ∈ Bd C L → b ≠ p := fun b hb z => np (by rw [← z]; exact hb)
  refine ⟨fun q e => ?_, fun a es hm => ?_, fun a x hm => ?_, h.nd, fun b hb => ?_, h.dj⟩
  · obtain ⟨a, b, c, h1, h2⟩ := h.pot q e
    refine ⟨a, b, c, ?_, h2⟩
    rw [upd_ne (nb q (bs_bd _ (List.mem_append_right _ (by rw [e]; simp))))]
    exact h1
  · obtain ⟨xs, h1, h2⟩ := h.ls a es hm
    refine ⟨xs, ?_, dv_off hp h2⟩
    rw [upd_ne (nb a (bs_bd _ (List.mem_append_left _ (List.mem_map.mpr ⟨_, hm, rfl⟩))))]
    exact h1
  · obtain ⟨o', h1, h2⟩ := h.vs a x hm
    refine ⟨o', ?_, x.off h2 np hp⟩
    rw [upd_ne (nb a (bs_bd _ (List.mem_append_left _ (List.mem_map.mpr ⟨_, hm, rfl⟩))))]
    exact h1
  · rw [upd_ne (nb b (List.mem_append_right _ hb))]
    exact h.wk b hb
section
variable {X : Cx} {C : Ct} {L : Ls} {δ : Dl} {n m k : Nat} {a b c e o tg : Expr} {es : List Expr} {pos p : Pos} {ds fs : List PD} {d : PD} {s t : Str}
theorem e_dget {kvs : List (Str × PD)} {r : Nat} {x : Str} {j : Nat} {p2 : Pos} (hr : Room r X.A) (ha : E X C L δ a n m (Eq (SV.o (obD kvs)))) (hx : findD kvs x = some d) (hs : NoSl (.Constant (.str x) j p2) := by intro _ _; rfl) : Ed X C L δ (.Subscript a (.Constant (.str x) j p2) pos) n m d :=
  PE.imp (pe_dget (hu_of hr) ha (e_str (X := X) (C := C) (L := L) (δ := δ) (n := m) (i := x)) hs) fun σ H Q ⟨t, q⟩ => ⟨t, fun v H2 sv k1 h1 e1 s1 => by
    subst e1
    refine ⟨t.go k1 h1, fun w H3 sw k2 h2 e2 s2 => ?_⟩
    subst e2
    cases s2
    obtain ⟨r', vs, rfl, nr, hd, g⟩ := (obD kvs).keep s1 (k2.wider bs_bd)
    obtain ⟨v, h3, h4⟩ := ent_find g hx
    exact ⟨r', v, rfl, .inl ⟨_, Sum.inr x, .inl hd, rfl, h3.symm⟩, q v H3 _ (k1.trans k2) h2 rfl h4⟩⟩
/-- {..: .., ..} of four texts -/
theorem e_disp4 {k1 k2 k3 k4 : Str} {j1 j2 j3 j4 n1 n2 n3 n4 : Nat} {p1 p2 p3 p4 : Pos} {v1 v2 v3 v4 : Expr} {R1 R2 R3 R4 : PD → Prop} (nd : ([Sum.inr k1, Sum.inr k2, Sum.inr k3, Sum.inr k4] : List L2.Key).Nodup)
    (h1 : E X C L δ v1 n n1 (fun sv => ∃ d, sv = .d d ∧ R1 d)) (h2 : E X C L δ v2 n1 n2 (fun sv => ∃ d, sv = .d d ∧ R2 d)) (h3 : E X C L δ v3 n2 n3 (fun sv => ∃ d, sv = .d d ∧ R3 d)) (h4 : E X C L δ v4 n3 n4 (fun sv => ∃ d, sv = .d d ∧ R4 d)) :
    E X C L δ (.Dict [some (.Constant (.str k1) j1 p1), some (.Constant (.str k2) j2 p2), some (.Constant (.str k3) j3 p3), some (.Constant (.str k4) j4 p4)] [v1, v2, v3, v4] pos) n n4
      (fun sv => ∃ d1 d2 d3 d4, sv = .o (obD [(k1, d1), (k2, d2), (k3, d3), (k4, d4)]) ∧ R1 d1 ∧ R2 d2 ∧ R3 d3 ∧ R4 d4) :=
  PE.imp (pe_disp (pps_cons (e_str (X := X) (C := C) (L := L) (δ := δ) (n := n) (i := k1)) h1 (pps_cons (e_str (X := X) (C := C) (L := L) (δ := δ) (n := n1) (i := k2)) h2 (pps_cons (e_str (X := X) (C := C) (L := L) (δ := δ) (n := n2) (i := k3)) h3 (pps_cons (e_str (X := X) (C := C) (L := L) (δ := δ) (n := n3) (i := k4)) h4 pps_nil)))) rfl rfl (by simp) (Nat.le_of_ble_eq_true rfl))
    fun σ H Q ⟨t, q⟩ p np => by
      have sm := same_new (o := .dK []) np
      have np1 : p ∉ Bs C L := fun z => t.hold.fresh np (bs_bd _ z)
      have np2 : p ∉ Bd C L := t.hold.fresh np
      have t1 : At X.K C L δ n σ (upd H p (.dK [])) := t.same sm
      refine ⟨t1, fun u1 H1 s1 a1 g1 r1 w1 => ?_⟩
      subst r1; cases w1
      refine ⟨t1.go a1 g1, fun w H2 s2 a2 g2 ⟨d1, e1, x1⟩ w1 => ?_⟩
      subst e1
      have t2 := (t1.go a1 g1).go a2 g2
      refine ⟨t2, fun u2 H3 s3 a3 g3 r3 w3 => ?_⟩
      subst r3; cases w3
      refine ⟨t2.go a3 g3, fun w' H4 s4 a4 g4 ⟨d2, e2, x2⟩ w2 => ?_⟩
      subst e2
      have t3 := (t2.go a3 g3).go a4 g4
      refine ⟨t3, fun u3 H5 s5 a5 g5 r5 w5 => ?_⟩
      subst r5; cases w5
      refine ⟨t3.go a5 g5, fun w'' H6 s6 a6 g6 ⟨d3, e3, x3⟩ w3 => ?_⟩
      subst e3
      have t4 := (t3.go a5 g5).go a6 g6
      refine ⟨t4, fun u4 H7 s7 a7 g7 r7 w7 => ?_⟩
      subst r7; cases w7
      refine ⟨t4.go a7 g7, fun w''' H8 s8 a8 g8 ⟨d4, e4, x4⟩ w4 => ?_⟩
      subst e4
      have kk : Keep (Bs C L) (upd H p (.dK [])) H8 := a1.trans (a2.trans (a3.trans (a4.trans (a5.trans (a6.trans (a7.trans a8))))))
      have hp : H8 p = some (.dK []) := kk p _ np1 upd_same
      refine ⟨hp, [(Sum.inr k1, w), (Sum.inr k2, w'), (Sum.inr k3, w''), (Sum.inr k4, w''')], rfl, Nat.le_of_ble_eq_true rfl, ?_⟩
      have em : mergeK [] [(Sum.inr k1, w), (Sum.inr k2, w'), (Sum.inr k3, w''), (Sum.inr k4, w''')] = [(Sum.inr k1, w), (Sum.inr k2, w'), (Sum.inr k3, w''), (Sum.inr k4, w''')] := merge_own _ [] nd
      rw [em]
      have g1' : DvAll X.K (Bd C L) H8 [w, w', w'', w'''] [d1, d2, d3, d4] := by
        refine .cons (Dv.keep w1 ?_) (.cons (Dv.keep w2 ?_) (.cons (Dv.keep w3 ?_) (.cons w4 .nil)))
        · exact (a3.trans (a4.trans (a5.trans (a6.trans (a7.trans a8))))).wider bs_bd
        · exact (a5.trans (a6.trans (a7.trans a8))).wider bs_bd
        · exact (a7.trans a8).wider bs_bd
      have kp : Keep [p] H8 (upd H8 p (.dK [(Sum.inr k1, w), (Sum.inr k2, w'), (Sum.inr k3, w''), (Sum.inr k4, w''')])) := keep_upd List.mem_cons_self
      have ho : Hold X.K C L n4 (upd H8 p (.dK [(Sum.inr k1, w), (Sum.inr k2, w'), (Sum.inr k3, w''), (Sum.inr k4, w''')])) := g8.off np2 hp
      refine q (.ref p) _ _ (keep_over (.refl _ H) ((Keep.same sm).trans ((kk.wider fun b hb => List.mem_cons_of_mem _ hb).trans (keep_upd List.mem_cons_self))) np) ho ⟨d1, d2, d3, d4, rfl, x1, x2, x3, x4⟩ ⟨p, [w, w', w'', w'''], rfl, np2, upd_same, dv_off hp g1'⟩
end
end Wk
/-! lists that are filled: two at once, extend, pop -/
namespace Wk
open PySem PySem.Spec PyProof.Rows L2
theorem In.push {K : PySem.W.Frag} {F : Fm} {L : Ls} {δ : Dl} {n : Nat} {σ : L2.St} {H : Hp} {r : Addr} {xs : List V} {ds : List PD} (ii : In K F ⟨L, δ, n⟩ σ H) (nr : H r = none) (g : DvAll K (Bd F.C L) H xs ds) : In K F ⟨(r, ds) :: L, δ, n⟩ σ (upd H r (.lst xs)) := by
  have sm := same_new (o := .lst xs) nr
  refine ⟨fun a ha => (ii.an a ha).trans (.same sm), fun a ha b hb => ?_, ⟨(ii.at_.sl.grow nr).keep (.same sm), ii.at_.hold.push nr g⟩⟩
  rcases List.mem_cons.mp (show b ∈ r :: Bs F.C L from hb) with z | z
  · rw [z]
    by_cases w : r ∈ a.1
    · exact .inl w
    · refine .inr ?_
      cases y : a.2 r with
      | none => rfl
      | some o =>
        have q := ii.an a ha r o w y
        rw [nr] at q
        cases q
  · exact ii.fr a ha b z
section
variable {X : Cx} {F : Fm} {L : Ls} {δ : Dl} {n m k : Nat} {D0 : Ends} {rest : List Stmt} {x y : Str} {pos p q : Pos} {e : Expr} {ds : List PD} {s : Str}
/-- a, b = list(e), [] -/
theorem r_parLN {px py pt pt2 lp cp np : Pos} {kt k2 : Nat} (i j : Nat) (z : Bt X.mg) (hc : X.calm = true) (hN : X.N.Nodup) (hij : i ≠ j) (he : Ed X F.C L δ e n m (.list ds))
    (g : ∀ D E, Bk X F ⟨(E, Cont.lst []) :: (D, ds) :: L, (δ.set i (some (.v (.ref D)))).set j (some (.v (.ref E))), m⟩ D0 rest)
    (hi : X.N[i]? = some x := by rfl) (hj : X.N[j]? = some y := by rfl) (hx : X.env.scope.names.lookup x = some .local := by rfl) (hy : X.env.scope.names.lookup y = some .local := by rfl) (hg : Gl X "list" := by rfl)
    (hst : starEach [e] X.env = (false, eval e X.env) :: starEach [] X.env := by rfl)
    (hs1 : starEach [.Call (.Name "list" lp) [e] [] cp, .List [] np] X.env = (false, eval (.Call (.Name "list" lp) [e] [] cp) X.env) :: starEach [.List [] np] X.env := by rfl) (hs2 : starEach [.List [] np] X.env = (false, eval (.List [] np) X.env) :: starEach [] X.env := by rfl)
    (hw : swappedStores [.Tuple [.Name x px, .Name y py] kt pt] (.Tuple [.Call (.Name "list" lp) [e] [] cp, .List [] np] k2 pt2) X.env = pure (some [x, y]) := by rfl) (hs : swapsWithSole [.Tuple [.Name x px, .Name y py] kt pt] (.Tuple [.Call (.Name "list" lp) [e] [] cp, .List [] np] k2 pt2) pos.line X.env = pure false := by rfl) :
    Bk X F ⟨L, δ, n⟩ D0 (.Assign [.Tuple [.Name x px, .Name y py] kt pt] (.Tuple [.Call (.Name "list" lp) [e] [] cp, .List [] np] k2 pt2) pos :: rest) := by
  have hL : PE X (.Call (.Name "list" lp) [e] [] cp) _ := pe_callTy call_list_of hg z.list (by decide +kernel) (a_cons he a_nil hst) (by decide) (by decide) hst
  refine r_cons (fun c' => ∃ D E, c' = ⟨(E, Cont.lst []) :: (D, ds) :: L, (δ.set i (some (.v (.ref D)))).set j (some (.v (.ref E))), m⟩) (PS.imp (ps_par hc hN hi hj hij hx hy (pa_cons hL (pa_cons (pe_lst pa_nil) pa_nil hs2) hs1) hw hs) fun D σ H ⟨le, ii⟩ => ⟨ii.at_, fun vs H2 svs k1 h1 r1 s1 => ?_⟩) fun c' ⟨D, E, ec⟩ => by subst ec; exact g D E
  subst r1
  obtain ⟨v, rfl, gv⟩ := DvAll.one s1
  cases gv with
  | @lst a xs _ rd gx =>
    refine ⟨a, xs, rfl, .inl rd.sq, fun l nl => ⟨Nat.zero_le _, fun r nr => ?_⟩⟩
    have i1 := (ii.go k1 h1).push nl gx
    have i2 := i1.push nr .nil
    exact ⟨.ref l, .ref r, rfl, le.nx _ _ ⟨_, ⟨l, r, rfl⟩, i2.slots ⟨(i2.at_.sl.set (sv := .v (.ref l)) rfl).set (sv := .v (.ref r)) rfl, i2.at_.hold⟩⟩⟩
/-- a, b = [], "..", through a pair -/
theorem r_pairNS {px py pt pt2 np sp : Pos} {kt k2 js : Nat} (i j : Nat) (hc : X.calm = true) (hN : X.N.Nodup)
    (g : ∀ D, Bk X F ⟨(D, Cont.lst []) :: L, (δ.set i (some (.v (.ref D)))).set j (some (.d (.str s))), n⟩ D0 rest)
    (hi : X.N[i]? = some x := by rfl) (hj : X.N[j]? = some y := by rfl) (hx : Loc X.env.scope x := by first | exact Or.inl rfl | exact Or.inr rfl) (hy : Loc X.env.scope y := by first | exact Or.inl rfl | exact Or.inr rfl)
    (hf : X.fn x = true ∨ X.env.scope.names.lookup x = some .local := by first | exact .inl rfl | exact .inr rfl) (hf2 : X.fn y = true ∨ X.env.scope.names.lookup y = some .local := by first | exact .inl rfl | exact .inr rfl)
    (hs1 : starEach [.List [] np, .Constant (.str s) js sp] X.env = (false, eval (.List [] np) X.env) :: starEach [.Constant (.str s) js sp] X.env := by rfl) (hs2 : starEach [.Constant (.str s) js sp] X.env = (false, eval (.Constant (.str s) js sp) X.env) :: starEach [] X.env := by rfl)
    (hw : swappedStores [.Tuple [.Name x px, .Name y py] kt pt] (.Tuple [.List [] np, .Constant (.str s) js sp] k2 pt2) X.env = pure none := by rfl) (hs : swapsWithSole [.Tuple [.Name x px, .Name y py] kt pt] (.Tuple [.List [] np, .Constant (.str s) js sp] k2 pt2) pos.line X.env = pure false := by rfl)
    (ha1 : ((assignEach [.Name x px, .Name y py] X.env).map (·.2)) = assign (.Name x px) X.env :: ((assignEach [.Name y py] X.env).map (·.2)) := by rfl) (ha2 : ((assignEach [.Name y py] X.env).map (·.2)) = assign (.Name y py) X.env :: ((assignEach [] X.env).map (·.2)) := by rfl)
    (hn : (assignEach [.Name x px, .Name y py] X.env).length = 2 := by rfl) (hst : (assignEach [.Name x px, .Name y py] X.env).findIdx? (·.1) = none := by rfl) (h1 : (assignEach [.Tuple [.Name x px, .Name y py] kt pt] X.env).map (·.2) = [assign (.Tuple [.Name x px, .Name y py] kt pt) X.env] := by rfl) :
    Bk X F ⟨L, δ, n⟩ D0 (.Assign [.Tuple [.Name x px, .Name y py] kt pt] (.Tuple [.List [] np, .Constant (.str s) js sp] k2 pt2) pos :: rest) := by
  have hT : PE X (.Tuple [.List [] np, .Constant (.str s) js sp] k2 pt2) _ := pe_tup (pa_cons (pe_lst pa_nil) (pa_cons pe_str pa_nil hs2) hs1)
  have hG : PG X (.Tuple [.Name x px, .Name y py] kt pt) _ := pg_tup hc (pgs_cons (pg_name hN hi hx hf) (pgs_cons (pg_name hN hj hy hf2) pgs_nil ha2) ha1) hn hst
  refine r_cons (fun c' => ∃ D, c' = ⟨(D, Cont.lst []) :: L, (δ.set i (some (.v (.ref D)))).set j (some (.d (.str s))), n⟩) (PS.imp (ps_asg hT hG hs hw h1) fun D σ H ⟨le, ii⟩ => ⟨Nat.zero_le _, fun r nr => ?_⟩) fun c' ⟨D, ec⟩ => by subst ec; exact g D
  have i1 := ii.push nr .nil
  refine ⟨(by show 2 ≤ sizeLine; decide), fun t nt => ?_⟩
  have i2 := i1.same (same_new (o := .tup [.ref r, .str s]) nt)
  exact ⟨t, _, rfl, .inl (.inl upd_same), rfl, _, _, rfl, _, _, rfl, rfl, le.nx _ _ ⟨_, ⟨r, rfl⟩, i2.slots ⟨(i2.at_.sl.set (sv := .v (.ref r)) rfl).set (sv := .d (.str s)) (Dv.str s), i2.at_.hold⟩⟩⟩
/-- found.extend(e) -/
theorem r_extend {D : Addr} {R : List PD → Prop} {o a : Expr} {apos cpos : Pos} (ho : Ev X F.C ((D, ds) :: L) δ o n n (.ref D)) (ha : E X F.C ((D, ds) :: L) δ a n m (fun sv => ∃ es, sv = .d (.list es) ∧ R es)) (hz : ∀ es, R es → ds.length + es.length ≤ 100000)
    (g : ∀ es, R es → Bk X F ⟨(D, ds ++ es) :: L, δ, m⟩ D0 rest)
    (hbase : attributeBase o "extend" X.env (eval o X.env) = eval o X.env := by rfl)
    (hfew : ((backTo cpos (starEach [a] X.env)).all (fun x => !x.1) && (backToKw cpos (keywordEach [] X.env)).all (fun x => x.1.isSome)
      && decide ([a].length + ([] : List Keyword).length + (if ([] : List Keyword).isEmpty then 0 else 1) < 30)) = true := by rfl)
    (hline : (apos.endLine == cpos.line) = true := by rfl) (hst : starEach [a] X.env = (false, eval a X.env) :: starEach [] X.env := by rfl) (hplain : (backTo cpos (starEach [] X.env)).any (·.1) = false := by rfl)
    (hs : swapsWith (.Call (.Attribute o "extend" apos) [a] [] cpos) none pos.line X.env = pure false := by rfl) : Bk X F ⟨(D, ds) :: L, δ, n⟩ D0 (.Expr (.Call (.Attribute o "extend" apos) [a] [] cpos) pos :: rest) :=
  r_cons (fun c' => ∃ es, R es ∧ c' = ⟨(D, ds ++ es) :: L, δ, m⟩) (PS.imp (ps_expr (pe_bm PySem.F.plainAttrs_list PySem.F.slot_list_extend PySem.F.type_list_extend mt_extD ho (ar_cons ha ar_nil hst) hbase hfew hline hst hplain) hs) fun DD σ H ⟨le, ii⟩ => ⟨ii.at_, fun v H2 sv k1 h1 r1 s1 => by
    subst r1
    have e0 : v = .ref D := s1
    subst e0
    obtain ⟨xs, hx, gx⟩ := h1.ls D ds List.mem_cons_self
    refine ⟨.inl ⟨rfl, _, .inl (.inl hx)⟩, (ii.go k1 h1).at_, fun vs H3 svs k2 h2 r2 s2 => ?_⟩
    obtain ⟨sv, rs, rfl, ⟨es, rfl, hR⟩, rfl⟩ := r2
    obtain ⟨w, rfl, gw⟩ := DvAll.one (d := .list es) s2
    obtain ⟨ys, hy, gy⟩ := h2.ls D ds List.mem_cons_self
    cases gw with
    | @lst b zs _ rb gz =>
      refine ⟨D, b, ys, zs, _, rfl, rfl, hy, rb, ?_, le.nx _ _ ⟨_, ⟨es, hR, rfl⟩, ?_⟩⟩
      · rw [gy.length, gz.length]
        exact Nat.le_trans (hz es hR) (by decide)
      · have i3 := (ii.go k1 h1).go k2 h2
        have kD : Keep (Bs F.C ((D, ds) :: L)) H3 (upd H3 D (.lst (ys ++ zs))) := keep_upd List.mem_cons_self
        exact ⟨fun a ha => keep_anchor (i3.an a ha) (i3.fr a ha) kD, i3.fr, i3.at_.sl.keep (kD.wider bs_bd), h2.put (gy.app gz)⟩⟩) fun c' ⟨es, hR, ec⟩ => by subst ec; exact g es hR
end
end Wk
namespace Wk
open PySem PySem.Spec PyProof.Rows L2
theorem Hold.putAtC {K : PySem.W.Frag} {C : Ct} {n : Nat} {H : Hp} {A B : Ls} {D : Addr} {u : HO} {ds es : Cont} (h : Hold K C (A ++ (D, ds) :: B) n H) (g : ContOk K (Bd C (A ++ (D, ds) :: B)) H u es) : Hold K C (A ++ (D, es) :: B) n (upd H D u) := by
  have eB : Bs C (A ++ (D, es) :: B) = Bs C (A ++ (D, ds) :: B) := by simp [Bs]
  have eD : Bd C (A ++ (D, es) :: B) = Bd C (A ++ (D, ds) :: B) := by unfold Bd; rw [eB]
  have inD : D ∈ Bs C (A ++ (D, ds) :: B) := by simp [Bs]
  have kp : Keep (Bd C (A ++ (D, ds) :: B)) H (upd H D u) := fun b o nb e => by
    rw [upd_ne fun z => nb (by rw [z]; exact bs_bd _ inD)]
    exact e
  have nd : (A.map (·.1) ++ D :: (B.map (·.1) ++ C.P.toList)).Nodup := by
    have := h.nd
    unfold Bs at this
    simpa using this
  obtain ⟨n1, n2, n3⟩ := List.nodup_append.mp nd
  have n4 := (List.nodup_cons.mp n2).1
  have offA : ∀ a ys, (a, ys) ∈ A → a ≠ D := fun a ys hm => n3 a (List.mem_map.mpr ⟨_, hm, rfl⟩) D List.mem_cons_self
  have offB : ∀ a ys, (a, ys) ∈ B → a ≠ D := fun a ys hm z => n4 (by rw [← z]; exact List.mem_append_left _ (List.mem_map.mpr ⟨_, hm, rfl⟩))
  have offP : ∀ p, C.P = some p → p ≠ D := fun p e z => n4 (by rw [← z]; exact List.mem_append_right _ (by rw [e]; simp))
  refine .of (fun p e => ?_) (fun a ys hm => ?_) (by rw [eB]; exact h.nd) (fun b hb => ?_) (fun x hx => ?_)
  · obtain ⟨a, b, c, h1, h2⟩ := h.pot p e
    exact ⟨a, b, c, by rw [upd_ne (offP p e)]; exact h1, h2⟩
  · rw [eD]
    rcases List.mem_append.mp hm with hm | hm
    · obtain ⟨zs, h1, h2⟩ := h.ct (List.mem_append_left _ hm)
      exact ⟨zs, by rw [upd_ne (offA a ys hm)]; exact h1, h2.keep kp⟩
    · rcases List.mem_cons.mp hm with e | hm
      · cases e
        exact ⟨u, upd_same, g.keep kp⟩
      · obtain ⟨zs, h1, h2⟩ := h.ct (List.mem_append_right _ (List.mem_cons_of_mem _ hm))
        exact ⟨zs, by rw [upd_ne (offB a ys hm)]; exact h1, h2.keep kp⟩
  · by_cases z : b = D
    · rw [z, upd_same]
      simp
    · rw [upd_ne z]
      exact h.wk b hb
  · rcases List.mem_append.mp hx with q | q
    · exact h.dj x (List.mem_append_left _ q)
    · rcases List.mem_cons.mp q with e | q
      · rw [e]
        exact h.dj (D, ds) (List.mem_append_right _ List.mem_cons_self)
      · exact h.dj x (List.mem_append_right _ (List.mem_cons_of_mem _ q))
theorem Hold.putAt {K : PySem.W.Frag} {C : Ct} {n : Nat} {H : Hp} {A B : Ls} {D : Addr} {xs : List V} {ds es : List PD} (h : Hold K C (A ++ (D, Cont.lst ds) :: B) n H) (g : DvAll K (Bd C (A ++ (D, Cont.lst ds) :: B)) H xs es) : Hold K C (A ++ (D, Cont.lst es) :: B) n (upd H D (.lst xs)) := h.putAtC ⟨xs, rfl, g⟩
theorem erase_data {K : PySem.W.Frag} {B : List Addr} {H : Hp} : ∀ {ds : List PD} {vs : List V} (k : Nat), DvAll K B H vs ds → DvAll K B H (vs.eraseIdx k) (ds.eraseIdx k)
  | [], _, k, h => by cases h; exact .nil
  | d :: ds, _, 0, h => by
    cases h with
    | cons x y => exact y
  | d :: ds, _, k + 1, h => by
    cases h with
    | cons x y => exact .cons x (erase_data k y)
theorem seqIndex_nat {i n : Nat} (h : i < n) : seqIndex? ((i : Nat) : Int) n = some i := by
  have e : (if ((i : Nat) : Int) < 0 then ((i : Nat) : Int) + ((n : Nat) : Int) else ((i : Nat) : Int)) = ((i : Nat) : Int) := if_neg (by omega)
  unfold seqIndex?
  simp only [e]
  rw [decide_eq_true (show (0 : Int) ≤ ((i : Nat) : Int) by omega), decide_eq_true (show ((i : Nat) : Int) < ((n : Nat) : Int) by omega)]
  rfl
section
variable {X : Cx} {F : Fm} {L : Ls} {δ : Dl} {n m k : Nat} {D0 : Ends} {rest : List Stmt} {x y : Str} {pos p q : Pos} {e : Expr} {ds fs : List PD} {s : Str}
/-- found.append(left.pop(i)), i drawn -/
theorem r_appendPop {D E : Addr} {o l i : Expr} {apos cpos apos2 cpos2 : Pos} (ho : Ev X F.C ((E, fs) :: (D, ds) :: L) δ o n n (.ref E)) (hl : Ev X F.C ((E, fs) :: (D, ds) :: L) δ l n n (.ref D))
    (hi : _root_.Wk.E X F.C ((E, fs) :: (D, ds) :: L) δ i n m (fun sv => ∃ d, sv = .d d ∧ ∃ z : Int, d = .int z ∧ 0 ≤ z ∧ z < (ds.length : Nat))) (hz : fs.length ≤ 100000) (hz2 : ds.length ≤ 100000)
    (g : ∀ (j : Nat) (hj : j < ds.length), Bk X F ⟨(E, fs ++ [ds[j]]) :: (D, ds.eraseIdx j) :: L, δ, m⟩ D0 rest)
    (hbase : attributeBase o "append" X.env (eval o X.env) = eval o X.env := by rfl) (hbase2 : attributeBase l "pop" X.env (eval l X.env) = eval l X.env := by rfl)
    (hfew : ((backTo cpos (starEach [.Call (.Attribute l "pop" apos2) [i] [] cpos2] X.env)).all (fun x => !x.1) && (backToKw cpos (keywordEach [] X.env)).all (fun x => x.1.isSome)
      && decide ([Expr.Call (.Attribute l "pop" apos2) [i] [] cpos2].length + ([] : List Keyword).length + (if ([] : List Keyword).isEmpty then 0 else 1) < 30)) = true := by rfl)
    (hfew2 : ((backTo cpos2 (starEach [i] X.env)).all (fun x => !x.1) && (backToKw cpos2 (keywordEach [] X.env)).all (fun x => x.1.isSome)
      && decide ([i].length + ([] : List Keyword).length + (if ([] : List Keyword).isEmpty then 0 else 1) < 30)) = true := by rfl)
    (hline : (apos.endLine == cpos.line) = true := by rfl) (hline2 : (apos2.endLine == cpos2.line) = true := by rfl)
    (hst : starEach [.Call (.Attribute l "pop" apos2) [i] [] cpos2] X.env = (false, eval (.Call (.Attribute l "pop" apos2) [i] [] cpos2) X.env) :: starEach [] X.env := by rfl) (hst2 : starEach [i] X.env = (false, eval i X.env) :: starEach [] X.env := by rfl)
    (hplain : (backTo cpos (starEach [] X.env)).any (·.1) = false := by rfl) (hplain2 : (backTo cpos2 (starEach [] X.env)).any (·.1) = false := by rfl)
    (hs : swapsWith (.Call (.Attribute o "append" apos) [.Call (.Attribute l "pop" apos2) [i] [] cpos2] [] cpos) none pos.line X.env = pure false := by rfl) :
    Bk X F ⟨(E, fs) :: (D, ds) :: L, δ, n⟩ D0 (.Expr (.Call (.Attribute o "append" apos) [.Call (.Attribute l "pop" apos2) [i] [] cpos2] [] cpos) pos :: rest) := by
  have hP : PE X (.Call (.Attribute l "pop" apos2) [i] [] cpos2) _ := pe_bm PySem.F.plainAttrs_list PySem.F.slot_list_pop PySem.F.type_list_pop mt_popAt hl (ar_cons hi ar_nil hst2) hbase2 hfew2 hline2 hst2 hplain2
  refine r_cons (fun c' => ∃ (j : Nat) (hj : j < ds.length), c' = ⟨(E, fs ++ [ds[j]]) :: (D, ds.eraseIdx j) :: L, δ, m⟩) (PS.imp (ps_expr (pe_bm PySem.F.plainAttrs_list PySem.F.slot_list_append PySem.F.type_list_append mt_append ho (pa_cons hP pa_nil hst) hbase hfew hline hst hplain) hs) fun DD σ H ⟨le, ii⟩ => ⟨ii.at_, fun v H2 sv k1 h1 r1 s1 => ?_⟩) fun c' ⟨j, hj, ec⟩ => by subst ec; exact g j hj
  subst r1
  have e0 : v = .ref E := s1
  subst e0
  obtain ⟨xs, hx, gx⟩ := h1.ls E fs List.mem_cons_self
  refine ⟨.inl ⟨rfl, _, .inl (.inl hx)⟩, (ii.go k1 h1).at_, fun v H3 sv k2 h2 r2 s2 => ?_⟩
  subst r2
  have e0 : v = .ref D := s2
  subst e0
  obtain ⟨ys, hy, gy⟩ := h2.ls D ds (List.mem_cons_of_mem _ List.mem_cons_self)
  have i2 := (ii.go k1 h1).go k2 h2
  refine ⟨.inl ⟨rfl, _, .inl (.inl hy)⟩, i2.at_, fun vs H4 svs k3 h3 r3 s3 => ?_⟩
  obtain ⟨sv, rs, rfl, ⟨_, rfl, z, rfl, z0, z1⟩, rfl⟩ := r3
  obtain ⟨w, rfl, gw⟩ := DvAll.one s3
  cases gw
  obtain ⟨j, rfl⟩ : ∃ j : Nat, z = (j : Nat) := ⟨z.toNat, by omega⟩
  have hj : j < ds.length := by omega
  obtain ⟨us, hu, gu⟩ := h3.ls D ds (List.mem_cons_of_mem _ List.mem_cons_self)
  have lu := gu.length
  obtain ⟨c, hc, gc⟩ := gu.get (List.getElem?_eq_getElem hj)
  have i3 := i2.go k3 h3
  refine ⟨D, us, _, j, c, rfl, rfl, hu, by omega, by omega, by rw [lu]; exact seqIndex_nat hj, hc, ?_⟩
  -- left is shorter now
  have h4 : Hold X.K F.C (([(E, Cont.lst fs)] : Ls) ++ (D, Cont.lst (ds.eraseIdx j)) :: L) m (upd H4 D (.lst (us.eraseIdx j))) := Hold.putAt (A := [(E, fs)]) (B := L) h3 (erase_data j gu)
  have kD : Keep (Bs F.C ((E, fs) :: (D, ds) :: L)) H4 (upd H4 D (.lst (us.eraseIdx j))) := keep_upd (List.mem_cons_of_mem _ List.mem_cons_self)
  have i4 : In X.K F ⟨(E, fs) :: (D, ds.eraseIdx j) :: L, δ, m⟩ σ (upd H4 D (.lst (us.eraseIdx j))) := ⟨fun a ha => keep_anchor (i3.an a ha) (i3.fr a ha) kD, i3.fr, i3.at_.sl.keep (kD.wider bs_bd), h4⟩
  have gc4 : Dv X.K (Bd F.C ((E, fs) :: (D, ds.eraseIdx j) :: L)) (upd H4 D (.lst (us.eraseIdx j))) c ds[j] := gc.keep (kD.wider bs_bd)
  obtain ⟨ws, hw, gw⟩ := h4.ls E fs List.mem_cons_self
  refine ⟨E, ws, c, rfl, rfl, hw, ?_, le.nx _ _ ⟨_, ⟨j, hj, rfl⟩, ?_⟩⟩
  · rw [gw.length]
    exact Nat.lt_of_le_of_lt hz (by decide)
  · have kE : Keep (Bs F.C ((E, fs) :: (D, ds.eraseIdx j) :: L)) (upd H4 D (.lst (us.eraseIdx j))) (upd (upd H4 D (.lst (us.eraseIdx j))) E (.lst (ws ++ [c]))) := keep_upd List.mem_cons_self
    exact ⟨fun a ha => keep_anchor (i4.an a ha) (i4.fr a ha) kE, i4.fr, i4.at_.sl.keep (kE.wider bs_bd), h4.put (gw.app (.cons gc4 .nil))⟩
end
section
variable {X : Cx} {C : Ct} {L : Ls} {δ : Dl} {n m k : Nat} {a b c e : Expr} {pos p : Pos}
/-! ### tests whose outcome is drawn -/
abbrev TX (X : Cx) (C : Ct) (L : Ls) (δ : Dl) (e : Expr) (n m : Nat) (R : Bool → Prop) : Prop := PT X e (fun σ H Q => At X.K C L δ n σ H ∧ ∀ (b : Bool) H2, Keep (Bs C L) H H2 → Hold X.K C L m H2 → R b → Q b H2)
theorem e_ifX {R : Bool → Prop} {S : SV → Prop} (h : TX X C L δ c n m R) (ha : R true → E X C L δ a m k S) (hb : R false → E X C L δ b m k S) : E X C L δ (.IfExp c a b pos) n k S := by
  have hA : PE X a (fun σ H Q => R true ∧ tOf X.K C L δ m k S σ H Q) := ⟨fun pins s σ H Q I ⟨r, q⟩ => (ha r).run pins s σ H Q I q⟩
  have hB : PE X b (fun σ H Q => R false ∧ tOf X.K C L δ m k S σ H Q) := ⟨fun pins s σ H Q I ⟨r, q⟩ => (hb r).run pins s σ H Q I q⟩
  exact PE.imp (pe_ifExp h hA hB) fun σ H Q ⟨t, q⟩ => ⟨t, fun u H2 k1 h1 r => by
    cases u with
    | true => exact iteT ⟨r, t.go k1 h1, fun w H3 sw k2 h2 e2 s2 => q w H3 sw (k1.trans k2) h2 e2 s2⟩
    | false => exact iteF ⟨r, t.go k1 h1, fun w H3 sw k2 h2 e2 s2 => q w H3 sw (k1.trans k2) h2 e2 s2⟩⟩
/-- a drawn int compared with a known one -/
theorem x_cmpI {op : CmpOp} {g : Int → Int → Bool} {r : R2} {S : Int → Prop} {j : Int} (ho : OpR X (compareOp op) r) (hr : ∀ (i j : Int) H Q, Q (.bl (g i j)) H → r (.int i) (.int j) H Q) (hm : behindInMarks op b = false) (ha : E X C L δ a n m (fun sv => ∃ d, sv = .d d ∧ ∃ i : Int, d = .int i ∧ S i)) (hb : Ed X C L δ b m k (.int j)) :
    TX X C L δ (.Compare a [op] [b] pos) n k (fun u => ∃ i, S i ∧ u = g i j) :=
  PT.imp (pt_cmpR ho ha hb hm) fun σ H Q ⟨t, q⟩ => ⟨t, fun v H2 sv k1 h1 e1 s1 => ⟨t.go k1 h1, fun w H3 sw k2 h2 e2 s2 => by
    obtain ⟨_, rfl, i, rfl, hi⟩ := e1
    subst e2
    cases s1
    cases s2
    exact hr i j H3 _ ⟨_, rfl, q _ H3 (k1.trans k2) h2 ⟨i, hi, rfl⟩⟩⟩⟩
theorem x_eqI {S : Int → Prop} {j : Int} (ha : E X C L δ a n m (fun sv => ∃ d, sv = .d d ∧ ∃ i : Int, d = .int i ∧ S i)) (hb : Ed X C L δ b m k (.int j)) (hm : behindInMarks .Eq b = false := by exact nomark _) :
    TX X C L δ (.Compare a [.Eq] [b] pos) n k (fun u => ∃ i, S i ∧ u = decide (i = j)) :=
  x_cmpI (g := fun i j => decide (i = j)) op_eq (fun i j H Q q => ⟨rfl, by
    have e : decide (V.int i = V.int j) = decide (i = j) := by
      by_cases h : i = j
      · rw [h, decide_eq_true rfl, decide_eq_true rfl]
      · rw [decide_eq_false h, decide_eq_false fun z => h (V.int.inj z)]
    rw [e]
    exact q⟩) hm ha hb
theorem x_gtI {S : Int → Prop} {j : Int} (ha : E X C L δ a n m (fun sv => ∃ d, sv = .d d ∧ ∃ i : Int, d = .int i ∧ S i)) (hb : Ed X C L δ b m k (.int j)) (hm : behindInMarks .Gt b = false := by exact nomark _) :
    TX X C L δ (.Compare a [.Gt] [b] pos) n k (fun u => ∃ i, S i ∧ u = decide (j < i)) :=
  x_cmpI (g := fun i j => decide (j < i)) op_gt (fun i j H Q q => ⟨i, j, rfl, rfl, q⟩) hm ha hb
/-- a drawn int and a known one, added -/
theorem e_addIR {S : Int → Prop} {i : Int} (ha : Ed X C L δ a n m (.int i)) (hb : E X C L δ b m k (fun sv => ∃ d, sv = .d d ∧ ∃ j : Int, d = .int j ∧ S j)) : E X C L δ (.BinOp a .Add b pos) n k (fun sv => ∃ d, sv = .d d ∧ ∃ j : Int, d = .int (i + j) ∧ S j) :=
  PE.imp (pe_op op_add ha hb) fun σ H Q ⟨t, q⟩ => ⟨t, fun v H2 sv k1 h1 e1 s1 => ⟨t.go k1 h1, fun w H3 sw k2 h2 e2 s2 => by
    subst e1
    obtain ⟨_, rfl, j, rfl, hj⟩ := e2
    cases s1
    cases s2
    exact ⟨i, j, rfl, rfl, q _ H3 _ (k1.trans k2) h2 ⟨_, rfl, j, rfl, hj⟩ (Dv.int _)⟩⟩⟩
theorem range_ints (n : Nat) : rangeD 0 n = (List.range n).map fun j => PyData.int (j : Nat) := by
  unfold rangeD
  congr 1
  funext j
  rw [Int.zero_add]
theorem i_rangeN {tg : Expr} {y : Nat} (hm : X.mg "range" = none) (h : Ed X C L δ e n m (.int (y : Nat))) (hz : y ≤ 1000000) (hg : Gl X "range" := by rfl) (hs : starEach [e] X.env = [(false, eval e X.env)] := by rfl) (hs2 : starEach [e] X.env = (false, eval e X.env) :: starEach [] X.env := by rfl) :
    Wi X C L δ tg (.Call (.Name "range" p) [e] [] pos) n m ((List.range y).map fun j => PyData.int (j : Nat)) := by
  have q := i_range (tg := tg) (pos := pos) (p := p) hm h ⟨by omega, by omega⟩ hg hs hs2
  rw [Int.toNat_natCast, range_ints] at q
  exact q
/-! ### a comprehension over what is drawn -/
def tItX (K : PySem.W.Frag) (C : Ct) (L : Ls) (δ : Dl) (n m : Nat) (Rd : List PD → Prop) : TI := fun σ H R => At K C L δ n σ H ∧ ∀ J H2 ds, Keep (Bs C L) H H2 → Hold K C L m H2 → Rd ds → Goes K (Bd C L) J ds H2 → R J H2
abbrev WX (X : Cx) (C : Ct) (L : Ls) (δ : Dl) (tg iter : Expr) (n m : Nat) (Rd : List PD → Prop) : Prop := PI X tg iter (tItX X.K C L δ n m Rd)
theorem i_rangeX {tg : Expr} {S : Int → Prop} (hm : X.mg "range" = none) (h : E X C L δ e n m (fun sv => ∃ d, sv = .d d ∧ ∃ i : Int, d = .int i ∧ S i)) (hz : ∀ i, S i → 0 ≤ i ∧ i ≤ 1000000) (hg : Gl X "range" := by rfl) (hs : starEach [e] X.env = [(false, eval e X.env)] := by rfl) (hs2 : starEach [e] X.env = (false, eval e X.env) :: starEach [] X.env := by rfl) :
    WX X C L δ tg (.Call (.Name "range" p) [e] [] pos) n m (fun ds => ∃ i : Int, S i ∧ ds = rangeD 0 i.toNat) := PI.imp (pi_range1 hg hm (ar_cons h ar_nil hs2) hs) fun σ H R ⟨t, q⟩ => ⟨t, fun vs H2 svs k1 h1 e1 s1 => by
  obtain ⟨sv, r, rfl, ⟨_, rfl, i, rfl, hi⟩, rfl⟩ := e1
  obtain ⟨v, rfl, g⟩ := DvAll.one (d := .int i) s1
  cases g
  have z := hz i hi
  exact ⟨i, rfl, by omega, by omega, q _ H2 _ k1 h1 ⟨i, hi, rfl⟩ goes_range⟩⟩
def teX (K : PySem.W.Frag) (C : Ct) (L : Ls) (δ0 : Dl) (N : Nat) (i : Nat) (m w : Nat) (S : PD → Prop) : TE := fun σ H Q => ∃ (D : Addr) (acc : List PD) (j : Nat) (d : PD), j < N ∧ acc.length = j ∧
  tOf K C ((D, acc) :: L) (δ0.set i (some (.d d))) (m + j * w) (m + (j + 1) * w) (fun sv => ∃ e, sv = .d e ∧ S e) σ H Q
theorem lcX_imp {x : Str} {i N w : Nat} {Rd : List PD → Prop} {S : PD → Prop} (hz : ∀ ds, Rd ds → ds.length ≤ N) (hN : N ≤ 100000) (σ : L2.St) (H : Hp) (Q : VK)
    (hq : tOf X.K C L δ n (m + N * w) (fun sv => ∃ es ds, sv = .d (.list es) ∧ Rd ds ∧ es.length = ds.length ∧ ∀ e, e ∈ es → S e) σ H Q) :
    tLc (tItX X.K C L δ n m Rd) (gT X.K C (.name i)) tYes (teX X.K C L (wipeD δ [i]) N i m w S) ([(x, i)].map (·.2)) σ H Q := by
  obtain ⟨t, q⟩ := hq
  refine ⟨t, fun J H1 ds k1 h1 hd goes => ?_⟩
  intro D hD
  obtain ⟨G, g0, gGrow, gKeep, wk⟩ := goes.ex
  have t1 : At X.K C L δ m σ H1 := t.go k1 h1
  have smD := same_new (o := .lst []) hD
  have hl := hz ds hd
  refine lc_it (g := gT X.K C (.name i)) (tt := tYes) (te := teX X.K C L (wipeD δ [i]) N i m w S) (vs := [i]) (σ := σ) (H1 := H1) (D := D) (Qd := Q (.ref D)) (wk (D :: Bd C L)) (fun j H2 => ∃ es : List PD, es.length = j ∧ (∀ e, e ∈ es → S e) ∧ At X.K C ((D, es) :: L) (wipeD δ [i]) (m + j * w) (L2.wipe σ [i]) H2 ∧ Keep (Bs C L) H1 H2 ∧ G (D :: Bd C L) H2)
    ?_ (fun i H2 _ ⟨es, _, _, _, _, g⟩ => g) ?_ ?_
  · refine ⟨[], rfl, fun e z => absurd z List.not_mem_nil, ⟨?_, ?_⟩, .same smD, ?_⟩
    · exact ((t1.sl.grow hD).keep (.same smD)).wipe _
    · rw [Nat.zero_mul, Nat.add_zero]
      exact h1.push hD .nil
    · exact gKeep _ _ _ (gGrow _ _ _ g0 hD) (.same smD)
  · rintro j y H2 H3 hlt ⟨es, hl2, hS, t2, k2, g2⟩ yy
    obtain ⟨sm, d, hd2, dv⟩ := yy fun b hb => t2.hold.known hb
    refine ⟨(D, es) :: L, wipeD δ [i], m + j * w, d, _, t2.same sm, dv, rfl, fun σ' t3 w3 => ⟨?_, ?_⟩⟩
    · rw [w3 [i] (fun u hu => hu)]
      exact wipe_wipe fun u hu => hu
    · refine tyes_if ?_
      refine ⟨D, es, j, d, by omega, hl2, t3, fun v H4 sv k4 h4 r4 s4 => ?_⟩
      obtain ⟨e, rfl, re⟩ := r4
      obtain ⟨xs, hx, gx⟩ := h4.ls D es List.mem_cons_self
      have gx' := gx.app (.cons s4 .nil)
      have kD : Keep (D :: Bs C L) H4 (upd H4 D (.lst (xs ++ [v]))) := keep_upd List.mem_cons_self
      have kA : Keep (D :: Bs C L) H2 (upd H4 D (.lst (xs ++ [v]))) := (Keep.same sm).trans (k4.trans kD)
      have wid : ∀ b, b ∈ D :: Bs C L → b ∈ D :: Bd C L := fun b hb => (List.mem_cons.mp hb).elim (fun z => by rw [z]; exact List.mem_cons_self) fun z => List.mem_cons_of_mem _ (bs_bd _ z)
      refine ⟨xs, hx, ?_, es ++ [e], by rw [List.length_append, hl2]; rfl, fun e' he' => ?_, ⟨?_, ?_⟩, keep_over k2 kA hD, gKeep _ _ _ g2 (kA.wider wid)⟩
      · rw [gx.length, hl2]
        exact Nat.lt_of_lt_of_le (show j < 100000 by omega) (by decide)
      · rcases List.mem_append.mp he' with z | z
        · exact hS e' z
        · rw [List.mem_singleton.mp z]
          exact re
      · exact t2.sl.keep (kA.wider wid)
      · exact h4.put gx'
  · rintro H2 ⟨es, hl2, hS, t2, k2, g2⟩
    obtain ⟨xs, hx, gx⟩ := t2.hold.ls D es List.mem_cons_self
    have le : m + ds.length * w ≤ m + N * w := Nat.add_le_add_left (Nat.mul_le_mul_right w hl) m
    exact q _ H2 _ (k1.trans k2) (t2.hold.pop.mono le) ⟨es, ds, rfl, hd, hl2, hS⟩ (Dv.lst (.inl ⟨fun z => h1.fresh hD z, .inl hx⟩) (gx.less fun b hb => List.mem_cons_of_mem _ hb))
theorem e_lcX {elt iter : Expr} {scope : Scope} {x : Str} {i : Nat} {pos tp : Pos} {Rd : List PD → Prop} {S : PD → Prop} (N w : Nat) (hc : X.calm = true) (hN : X.N.Nodup) (hi : WX X C L δ (.Name x tp) iter n m Rd) (ok : BlkOk X.N X.env.scope scope [(x, i)])
    (hg : ∀ (s : Shared) (H : Hp) (Cc : Addr) (cl : List (Str × Addr)) (fp : List Addr), PG (X.blk s H scope (compEnvC scope cl Cc X.env) fp) (.Name x tp) (gT X.K C (.name i)))
    (he : ∀ (s : Shared) (H : Hp) (Cc : Addr) (cl : List (Str × Addr)) (fp : List Addr) (D : Addr) (acc : List PD) (j : Nat) (d : PD), j < N →
      PE (X.blk s H scope (compEnvC scope cl Cc X.env) fp) elt (tOf X.K C ((D, acc) :: L) ((δ.set i none).set i (some (.d d))) (m + j * w) (m + (j + 1) * w) (fun sv => ∃ e, sv = .d e ∧ S e)))
    (hz : ∀ ds, Rd ds → ds.length ≤ N) (hN2 : N ≤ 100000) (hs : ∀ x, foldedSetIterable iter X.env x = pure x := by intro _; rfl) :
    E X C L δ (.ListComp elt [⟨.Name x tp, iter, [], 0⟩] scope pos) n (m + N * w) (fun sv => ∃ es ds, sv = .d (.list es) ∧ Rd ds ∧ es.length = ds.length ∧ ∀ e, e ∈ es → S e) := by
  have he' : ∀ (s : Shared) (H : Hp) (Cc : Addr) (cl : List (Str × Addr)) (fp : List Addr), PE (X.blk s H scope (compEnvC scope cl Cc X.env) fp) elt (teX X.K C L (wipeD δ [i]) N i m w S) := fun s H Cc cl fp =>
    ⟨fun pins s1 σ H1 Q I ⟨D, acc, j, d, h1, h2, q⟩ => (he s H Cc cl fp D acc j d h1).run pins s1 σ H1 Q I q⟩
  exact PE.imp (pe_lc (own := [(x, i)]) hc hN hi ok hg (fun _ _ _ _ _ => pts_nil) he' hs) (lcX_imp hz hN2)
end
end Wk
namespace N0
open PySem PySem.Spec PyProof.Rows L2 Wk
def topS (i : Nat) : Stmt := PySem.Challenge.pw_selfdrawn_k00_whole_books_as_they_are_to.main.body.getD i (.Pass ⟨0, 0, 0, 0⟩)
section
variable {P : Program} {w : World} {K : PySem.W.Frag} {mg : Str → Option Value} {base : Heap} {f : Addr} {fd : FuncData}
/-! ### the law's draws -/
theorem sc24 : FnScope ["script", "place", "cell", "own", "small"] ["script", "place"] (defScope (topS 24)) := ⟨rfl, rfl, rfl, by decide +kernel, rfl, by decide +kernel, by decide +kernel⟩
theorem law_pot (z : Bt mg) (F : Fun K "_law_pot" "_law_pot" (topS 24) f fd) : Gd P w K mg base CX0 1 f fd ["script", "place"] (SpPot K) := by
  refine okPot F sc24 fun cdv A outer s H E B ns y fm D0 hy gu hr hC hq => ?_
  refine r_setR (m := 0) 2 (R := fun sv => ∃ c : Int, sv = .d (.int c)) (e_if (m := 0) (t_lt (e_var 1) (e_lenL z.len (e_var 0))) (fun h => ?_) (fun h => ?_)) (fun sv ⟨c, e⟩ => ?_) sc24.nd
  · have h' := of_decide_eq_true h
    obtain ⟨q, _, hq'⟩ := at_in (l := ns) (i := y) ⟨hy.1, by rw [List.length_map] at h'; exact h'⟩
    exact e_imp (e_ixL (e_var 0) (e_var 1) hq') fun sv e => ⟨q, e.symm⟩
  · refine e_imp (e_add (e_add (e_mod (by decide) (e_sum (ns := ns.take 1) rfl z.sum (e_eq (e_upTo (j := 1) (e_var 0) e_int) (by rw [List.map_take]))) e_int) (e_mul (cm64 (by decide) ⟨hy.1, by omega⟩) e_int (e_var 1))) e_int) fun sv e => ⟨_, e.symm⟩
  subst e
  refine r_setR (m := 0) 3 (R := fun sv => ∃ o : Int, sv = .d (.int o) ∧ 0 ≤ o ∧ o.natAbs < 2 ^ 1000) ?_ (fun sv ⟨o, e, h0, h1⟩ => ?_) sc24.nd
  · refine e_imp (e_mul (own_ok _ _).1 (e_mod big_pos (e_intI z.int (e_abs z.abs (e_var 2))) (e_pow (by decide +kernel) (e_pow (by decide +kernel) e_int e_int) e_int)) (e_intB z.int (e_ge (e_abs z.abs (e_var 2)) (e_pow (by decide +kernel) e_int e_int)))) fun sv e => ⟨_, e.symm, (own_ok _ _).2.1, (own_ok _ _).2.2⟩
  subst e
  refine r_set 4 (e_mod (by decide) (e_intI z.int (e_var 2)) e_int) ?_ sc24.nd
  have s0 := Int.emod_nonneg c (b := 2305843009213693951) (by decide)
  have s1 := Int.emod_lt_of_pos c (b := 2305843009213693951) (by decide)
  generalize c % 2305843009213693951 = sm at s0 s1 ⊢
  refine r_retLst (a_cons (e_var 3) (a_cons (e_mod (by decide) (e_intI z.int (e_add (e_add (e_mul (cm64 ⟨s0, by omega⟩ (by decide)) (e_var 4) e_int) (e_mul (cm64 (mulb (b := 100) ⟨by decide, Int.le_refl _⟩ ⟨hy.1, by omega⟩ |>.imp_right fun h => Int.lt_of_le_of_lt h (by decide)) ⟨hy.1, by omega⟩) (e_mul (cm64 (by decide) ⟨hy.1, by omega⟩) e_int (e_var 1)) (e_var 1))) e_int)) e_int) (a_cons e_int a_nil))) (Nat.le_of_ble_eq_true rfl) (fun σ H' r vs i g nr => ?_)
  have ev := DvAll.ints (ns := [o, _, 0]) g
  subst ev
  exact hq _ σ H' r _ _ i nr ⟨h0, h1⟩ ⟨Int.emod_nonneg _ (by decide), Int.lt_trans (Int.emod_lt_of_pos _ (by decide)) (by decide)⟩
/-! _law_take -/
theorem sc25 : FnScope ["pot", "upto", "digit", "prime", "blend"] ["pot", "upto"] (defScope (topS 25)) := ⟨rfl, rfl, rfl, by decide +kernel, rfl, by decide +kernel, by decide +kernel⟩
theorem law_take (z : Bt mg) (F : Fun K "_law_take" "_law_take" (topS 25) f fd) : Gd P w K mg base CX0 1 f fd ["pot", "upto"] (SpQ K okTake) := by
  refine okTk F sc25 fun cdv A outer s H E p u a b c fm D0 hu hu2 ha hb hc gu hr hC hq => ?_
  refine r_ifR (t_gt (e_ixM List.mem_cons_self (e_var 0) (e_int (i := 0))) e_int) (fun h => ?_) (fun h => ?_)
  · refine r_set 2 (e_mod hu (e_intI z.int (e_ixM List.mem_cons_self (e_var 0) (e_int (i := 0)))) (e_var 1)) ?_ sc25.nd
    refine r_item (e_div (wide_div hu hu2 (by decide) (by decide)) (e_ixM List.mem_cons_self (e_var 0) (e_int (i := 0))) (e_var 1)) (e_var 0) e_int (j := 0) rfl ?_
    refine r_retG (e_var 2) fun σ v H' sv i r s => ?_
    subst r
    refine hq _ _ σ H' v _ (a / u) c i ⟨Int.ediv_nonneg ha.1 (by omega), Int.ediv_le_self u ha.1⟩ ⟨hc.1, by omega⟩ (Int.emod_nonneg _ (by omega)) (Int.emod_lt_of_pos _ hu) s
  · refine r_item (e_add (e_ixM List.mem_cons_self (e_var 0) (e_int (i := 2))) e_int) (e_var 0) e_int (j := 2) rfl ?_
    have p0 := Int.emod_nonneg (c + 1) (b := 5) (by decide)
    have p1 := Int.emod_lt_of_pos (c + 1) (b := 5) (by decide)
    obtain ⟨q, hqm, hqa⟩ := at_in (l := [2147483647, 2147483629, 2147483587, 2147483579, 2147483563]) (i := (c + 1) % 5) ⟨p0, p1⟩
    have hq1 : 0 < q ∧ q < 2147483648 := by
      simp only [List.mem_cons, List.not_mem_nil, or_false] at hqm
      omega
    refine r_set 3 (e_ixL (e_lst (a_cons e_int (a_cons e_int (a_cons e_int (a_cons e_int (a_cons e_int a_nil)))))) (e_mod (by decide) (e_intI z.int (e_ixM List.mem_cons_self (e_var 0) (e_int (i := 2)))) e_int) hqa) ?_ sc25.nd
    have hc1 : 0 ≤ c + 1 ∧ c + 1 ≤ 1000000 := ⟨by omega, by omega⟩
    generalize hx : c + 1 = x at hc1 hqa p0 p1 ⊢
    have m1 : CMulW 98179 x := cm64 (by decide) ⟨hc1.1, by omega⟩
    have b1 : 0 ≤ 98179 * x ∧ 98179 * x ≤ 98179 * 1000000 := ⟨by omega, by omega⟩
    have m2 : CMulW (98179 * x) x := cm64 ⟨b1.1, by omega⟩ ⟨hc1.1, by omega⟩
    have b2 := mulb b1 hc1
    have m3 : CPowW (b + 98179 * x * x + 419) 3 := cp64 ⟨by omega, by omega⟩ (by decide)
    refine r_set 4 (e_mod hq1.1 (e_intI z.int (e_pow m3 (e_intI z.int (e_add (e_add (e_ixM List.mem_cons_self (e_var 0) (e_int (i := 1))) (e_mul m2 (e_mul m1 e_int (e_ixM List.mem_cons_self (e_var 0) (e_int (i := 2)))) (e_ixM List.mem_cons_self (e_var 0) (e_int (i := 2))))) e_int)) e_int)) (e_var 3)) ?_ sc25.nd
    have c0 := Int.emod_nonneg ((b + 98179 * x * x + 419) ^ (3 : Int).toNat) (b := q) (by omega)
    have c1 := Int.emod_lt_of_pos ((b + 98179 * x * x + 419) ^ (3 : Int).toNat) hq1.1
    generalize (b + 98179 * x * x + 419) ^ (3 : Int).toNat % q = y at c0 c1 ⊢
    have d0 := Int.emod_nonneg y (b := 10009) (by decide)
    have d1 := Int.emod_lt_of_pos y (b := 10009) (by decide)
    have m4 : CMulW 87 x := cm64 (by decide) ⟨hc1.1, by omega⟩
    have m5 : CMulW y (y % 10009 + 87 * x) := cm64 ⟨c0, by omega⟩ ⟨by omega, by omega⟩
    refine r_set 4 (e_mod (by decide) (e_intI z.int (e_mul m5 (e_var 4) (e_add (e_mod (by decide) (e_intI z.int (e_var 4)) e_int) (e_mul m4 e_int (e_ixM List.mem_cons_self (e_var 0) (e_int (i := 2))))))) e_int) ?_ sc25.nd
    have e0 := Int.emod_nonneg (y * (y % 10009 + 87 * x)) (b := 2305843009213693907) (by decide)
    generalize y * (y % 10009 + 87 * x) % 2305843009213693907 = v1 at e0 ⊢
    refine r_retG (e_mod hu (e_intI z.int (e_div (wide_div (b := 64) (by decide) (by decide) (by decide) (by decide)) (e_var 4) e_int)) (e_var 1)) fun σ v H' sv i r s => ?_
    subst r
    exact hq _ _ σ H' v _ a x i ⟨ha.1, Int.le_refl _⟩ ⟨hc1.1, by omega⟩ (Int.emod_nonneg _ (by omega)) (Int.emod_lt_of_pos _ hu) s
/-! _law_of -/
theorem sc26 : FnScope ["pot", "some"] ["pot", "some"] (defScope (topS 26)) := ⟨rfl, rfl, rfl, by decide +kernel, rfl, by decide +kernel, by decide +kernel⟩
def okOf : List PD → Nat → (PD → Prop) → Prop := fun ds c R => ∃ es, ds = [.list es] ∧ es ≠ [] ∧ es.length ≤ 1000 ∧ c = 1 ∧ R = fun d => d ∈ es
theorem law_of (z : Bt mg) (h1 : Knw P w K mg base CX0 1 "_law_take" ["pot", "upto"] (SpQ K okTake)) (F : Fun K "_law_of" "_law_of" (topS 26) f fd) : Gd P w K mg base CX0 2 f fd ["pot", "some"] (SpQ K okOf) := by
  refine okQ F sc26 (fun ds c R ⟨es, e, _⟩ => by rw [e]; rfl) fun cdv A outer s H E p B ds c R n fm D0 ⟨es, e1, e2, e3, e4, e5⟩ hz gu hr hC hw => ?_
  subst e1 e4 e5
  have hpos : 0 < es.length := List.length_pos_iff.mpr e2
  have hC' : fm.C.P = some p := by rw [hC]
  refine r_ret hw (e_ixLR (e_var 1) (e_callQ h1 gu hr (by decide) hC' (e_var 0) (a_cons (e_lenL z.len (e_var 1)) a_nil) ⟨(es.length : Nat), rfl, by omega, ?_, rfl, rfl⟩ hz)) fun sv ⟨d, e, hd⟩ => ⟨Nat.le_refl _, d, e, hd⟩
  exact Nat.lt_of_le_of_lt (by omega : _ ≤ 1000) (by decide +kernel)
end
end N0
namespace N0
open PySem PySem.Spec PyProof.Rows L2 Wk
section
variable {P : Program} {w : World} {K : PySem.W.Frag} {mg : Str → Option Value} {base : Heap} {f : Addr} {fd : FuncData}
/-! _law_of, of a text -/
def okOfS : List PD → Nat → (PD → Prop) → Prop := fun ds c R => ∃ s : Str, ds = [.str s] ∧ 0 < s.length ∧ s.length ≤ 1000 ∧ c = 1 ∧ R = fun d => d ∈ signsD s
theorem law_ofS (z : Bt mg) (h1 : Knw P w K mg base CX0 1 "_law_take" ["pot", "upto"] (SpQ K okTake)) (F : Fun K "_law_of" "_law_of" (topS 26) f fd) : Gd P w K mg base CX0 2 f fd ["pot", "some"] (SpQ K okOfS) := by
  refine okQ F sc26 (fun ds c R ⟨s, e, _⟩ => by rw [e]; rfl) fun cdv A outer s H E p B ds c R n fm D0 ⟨t, e1, e2, e3, e4, e5⟩ hz gu hr hC hw => ?_
  subst e1 e4 e5
  have hC' : fm.C.P = some p := by rw [hC]
  refine r_ret hw (e_ixSR (by omega) (e_var 1) (e_callQ h1 gu hr (by decide) hC' (e_var 0) (a_cons (e_lenS z.len (e_var 1) (by omega)) a_nil) ⟨(t.length : Nat), rfl, by omega, ?_, rfl, rfl⟩ hz)) fun sv ⟨d, e, hd⟩ => ⟨Nat.le_refl _, d, e, hd⟩
  exact Nat.lt_of_le_of_lt (by omega : _ ≤ 1000) (by decide +kernel)
/-! _law_some: unlike places of a pool -/
theorem sc27 : FnScope ["pot", "pool", "many", "left", "found", "lap"] ["pot", "pool", "many"] (defScope (topS 27)) := ⟨rfl, rfl, rfl, by decide +kernel, rfl, by decide +kernel, by decide +kernel⟩
/-- es, k of the pool ds in some sequence, and what is left -/
inductive Picks : List PD → List PD → List PD → Prop
  | nil (ds) : Picks ds [] ds
  | snoc {ds es ls : List PD} {j : Nat} (h : Picks ds es ls) (hj : j < ls.length) : Picks ds (es ++ [ls[j]]) (ls.eraseIdx j)
theorem Picks.len {ds es ls : List PD} (h : Picks ds es ls) : es.length + ls.length = ds.length := by
  induction h with
  | nil => simp
  | snoc h hj ih =>
    rw [List.length_append, List.length_singleton, List.length_eraseIdx, if_pos hj]
    omega
def okSome : List PD → Nat → (PD → Prop) → Prop := fun ds c R => ∃ (es : List PD) (k : Nat), ds = [.list es, .int (k : Nat)] ∧ k ≤ es.length ∧ es.length ≤ 1000 ∧ c = k ∧ R = fun d => ∃ fs ls, d = .list fs ∧ Picks es fs ls ∧ fs.length = k
theorem law_some (z : Bt mg) (h1 : Knw P w K mg base CX0 1 "_law_take" ["pot", "upto"] (SpQ K okTake)) (F : Fun K "_law_some" "_law_some" (topS 27) f fd) : Gd P w K mg base CX0 2 f fd ["pot", "pool", "many"] (SpQ K okSome) := by
  refine okQ F sc27 (fun ds c R ⟨_, _, e, _⟩ => by rw [e]; rfl) fun cdv A outer s H E p B ds c R n fm D0 ⟨es, k, e1, e2, e3, e4, e5⟩ hz gu hr hC hw => ?_
  subst e1 e4 e5
  have hP : fm.C.P = some p := by rw [hC]
  refine r_parLN (m := n) 3 4 z rfl sc27.nd (by decide) (e_var 1) fun D E2 => ?_
  refine r_for (tgd := .name 5) (ds := rangeD 0 (((c : Nat) : Int)).toNat)
    (fun i cf => ∃ fs ls, Picks es fs ls ∧ fs.length = i ∧ ∃ x1 : Option SV, cf = ⟨[(E2, fs), (D, ls)], [some (.v (.ref p)), some (.d (.list es)), some (.d (.int (c : Nat))), some (.v (.ref D)), some (.v (.ref E2)), x1], n + i⟩)
    rfl PassesOwn.never (i_range z.range (e_var 2) ⟨by omega, by omega⟩) (g_name 5 sc27.nd) ⟨[], es, .nil es, rfl, none, rfl⟩ (fun k cf ⟨_, _, _, _, _, e⟩ => by rw [e]; rfl) ?_ ?_
  · rintro i d cf H1 hd ⟨fs, ls, hp, hl, x1, rfl⟩
    have hi : i < c := by
      have := (List.getElem?_eq_some_iff.mp hd).1
      simpa [rangeD] using this
    have hlen := hp.len
    have hls : 0 < ls.length := by omega
    refine ⟨_, rfl, ?_⟩
    refine r_appendPop (n := n + i) (m := n + i + 1) (e_var 4) (e_var 3) (e_callQ (C := fm.C) h1 gu hr (by decide) hP (e_var 0) (a_cons (e_lenM (List.mem_cons_of_mem _ List.mem_cons_self) z.len (e_var 3)) a_nil) ⟨(ls.length : Nat), rfl, by omega, Nat.lt_of_le_of_lt (by omega : _ ≤ 1000) (by decide +kernel), rfl, rfl⟩ (by omega)) (by omega) (by omega) (fun j hj => r_end (J := _) ⟨_, _, hp.snoc hj, by rw [List.length_append, hl]; rfl, _, rfl⟩)
  · rintro cf ⟨fs, ls, hp, hl, x1, rfl⟩
    have e : (rangeD 0 (((c : Nat) : Int)).toNat).length = c := by simp [rangeD]
    rw [e] at hl ⊢
    exact r_retM hw (e_var 4) List.mem_cons_self ⟨Nat.le_refl _, _, rfl, fs, ls, rfl, hp, hl⟩
/-! _law_spots -/
theorem sc29 : FnScope ["sides", "size", "found", "row", "column"] ["sides", "size"] (defScope (topS 29)) := ⟨rfl, rfl, rfl, by decide +kernel, rfl, by decide +kernel, by decide +kernel⟩
def spots1 (z : Nat) : List PD := (List.range z).map fun c => .tuple [.int (c : Nat)]
def spots2 (z : Nat) : Nat → List PD
  | 0 => []
  | r + 1 => spots2 z r ++ (List.range z).map fun c => .tuple [.int (c : Nat), .int (r : Nat)]
def spots (s z : Nat) : List PD := if s = 1 then spots1 z else spots2 z z
def okSpots : List PD → SV → Prop := fun ds sv => ∃ s z : Nat, (s = 1 ∨ s = 2) ∧ z ≤ 40 ∧ ds = [.int (s : Nat), .int (z : Nat)] ∧ sv = .d (.list (spots s z))
theorem spots2_len (z : Nat) : ∀ r, (spots2 z r).length = z * r
  | 0 => rfl
  | r + 1 => by
    show (spots2 z r ++ _).length = _
    rw [List.length_append, spots2_len z r, List.length_map, List.length_range, Nat.mul_succ]
theorem law_spots (z : Bt mg) (F : Fun K "_law_spots" "_law_spots" (topS 29) f fd) : Gd P w K mg base CX0 1 f fd ["sides", "size"] (SpP K okSpots) := by
  refine okP F sc29 (fun ds sv ⟨_, _, _, _, e, _⟩ => by rw [e]; rfl) fun cdv A outer s H E B ds sv fm D0 ⟨S, y, hs, hy, e1, e2⟩ gu hr hC hw hn => ?_
  subst e1 e2
  have tn : (((y : Nat) : Int)).toNat = y := by omega
  rcases hs with rfl | rfl
  · refine r_ifT (t_eqI (e_var 0) e_int) rfl (r_retD hw (e_lcM (i := 4) (l := List.range y) (g := fun c => .int (c : Nat)) (fun c => .tuple [.int (c : Nat)]) rfl sc29.nd (i_rangeN z.range (e_var 1) (by omega)) (blkOk_by (own := [("column", 4)]) (N := ["sides", "size", "found", "row", "column"]) (sc := defScope (topS 29)) (by decide +kernel)) (fun _ _ _ _ _ => g_name 4 sc29.nd)
      (fun s' H' Cc cl fp D acc c hc => e_tup (a_cons (e_var 4) a_nil)) (by rw [List.length_range]; omega)) rfl)
  · refine r_ifF (t_eqI (e_var 0) e_int) rfl (r_new 2 (fun D => ?_) sc29.nd)
    refine r_for (tgd := .name 3) (ds := rangeD 0 (((y : Nat) : Int)).toNat)
      (fun i cf => ∃ x1 x2 : Option SV, cf = ⟨[(D, spots2 y i)], [some (.d (.int (2 : Nat))), some (.d (.int (y : Nat))), some (.v (.ref D)), x1, x2], 0⟩)
      rfl PassesOwn.never (i_range z.range (e_var 1) ⟨by omega, by omega⟩) (g_name 3 sc29.nd) ⟨none, none, rfl⟩ (fun k cf ⟨_, _, e⟩ => by rw [e]; rfl) ?_ ?_
    · rintro i d cf H1 hd ⟨x1, x2, rfl⟩
      have hi : i < y := by
        have := (List.getElem?_eq_some_iff.mp hd).1
        simpa [rangeD] using this
      have ed : d = .int (i : Nat) := by
        rw [tn, range_ints, List.getElem?_map, List.getElem?_range hi] at hd
        exact (Option.some.inj hd).symm
      subst ed
      refine ⟨_, rfl, ?_⟩
      refine r_extend (m := 0) (R := fun es => es = (List.range y).map fun c => .tuple [.int (c : Nat), .int (i : Nat)]) (e_var 2) (e_imp (e_lcM (i := 4) (l := List.range y) (g := fun c => .int (c : Nat)) (fun c => .tuple [.int (c : Nat), .int (i : Nat)]) rfl sc29.nd (i_rangeN z.range (e_var 1) (by omega)) (blkOk_by (own := [("column", 4)]) (N := ["sides", "size", "found", "row", "column"]) (sc := defScope (topS 29)) (by decide +kernel)) (fun _ _ _ _ _ => g_name 4 sc29.nd)
        (fun s' H' Cc cl fp D acc c hc => e_tup (a_cons (e_var 4) (a_cons (e_var 3) a_nil))) (by rw [List.length_range]; omega)) fun sv e => ⟨_, e.symm, rfl⟩) (fun es e => ?_) (fun es e => by subst e; exact r_end (J := _) ⟨_, _, rfl⟩)
      rw [e, spots2_len, List.length_map, List.length_range]
      have : y * i ≤ 40 * 40 := Nat.mul_le_mul hy (by omega)
      omega
    · rintro cf ⟨x1, x2, rfl⟩
      refine r_retM hw (e_var 2) List.mem_cons_self ?_
      have e : (rangeD 0 (((y : Nat) : Int)).toNat).length = y := by simp [rangeD]
      rw [e]
      rfl
end
end N0
namespace N0
open PySem PySem.Spec PyProof.Rows L2 Wk
/-! ### names -/
def letters : Str := "abcdefghijklmnopqrstuvwxyz"
def reserved : List Str := ["plane", "line", "kind"]
def Lett (s : Str) : Prop := ∀ c ∈ s.cps.toList, 97 ≤ c ∧ c ≤ 122
def Nm (s : Str) : Prop := 1 ≤ s.length ∧ s.length ≤ 8 ∧ Lett s ∧ s ∉ reserved
structure Nms (ns : List Str) : Prop where
  nd : ns.Nodup
  ok : ∀ s ∈ ns, Nm s
theorem str_len (s : Str) : s.length = s.cps.toList.length := by simp [Str.length]
theorem str_app (s t : Str) : (s ++ t).cps.toList = s.cps.toList ++ t.cps.toList := by
  show (s.cps ++ t.cps).toList = _
  simp
theorem app_len (s t : Str) : (s ++ t).length = s.length + t.length := by
  rw [str_len, str_len, str_len, str_app, List.length_append]
theorem str_ext {s t : Str} (h : s.cps.toList = t.cps.toList) : s = t := by
  cases s
  cases t
  simp only [Str.mk.injEq]
  simpa using h
theorem letters_ok : letters.cps.toList = (List.range 26).map fun i => 97 + i := by decide +kernel
theorem sub_len {α : Type} [DecidableEq α] : ∀ (l f : List α), l.Nodup → (∀ x ∈ l, x ∈ f) → l.length ≤ f.length
  | [], _, _, _ => Nat.zero_le _
  | x :: l, f, h, g => by
    have hx := g x List.mem_cons_self
    have h2 := List.nodup_cons.mp h
    have i := sub_len l (f.erase x) h2.2 fun y hy => (List.mem_erase_of_ne fun z => h2.1 (by rw [← z]; exact hy)).mpr (g y (List.mem_cons_of_mem _ hy))
    rw [List.length_erase_of_mem hx] at i
    have := List.length_pos_of_mem hx
    rw [List.length_cons]
    omega
/-- one of many unlike ones is not among few -/
theorem pick_one {α : Type} [DecidableEq α] (l f : List α) (hl : l.Nodup) (hf : f.length < l.length) : ∃ x ∈ l, x ∉ f := by
  apply Classical.byContradiction
  intro h
  have : ∀ x ∈ l, x ∈ f := fun x hx => Classical.byContradiction fun z => h ⟨x, hx, z⟩
  have := sub_len l f hl this
  omega
/-- a word, and it with each letter behind it -/
def ways (w : Str) : List Str := w :: (List.range 26).map fun i => w ++ ⟨#[97 + i]⟩
theorem ways_nd (w : Str) : (ways w).Nodup := by
  refine List.nodup_cons.mpr ⟨fun h => ?_, ?_⟩
  · obtain ⟨i, _, e⟩ := List.mem_map.mp h
    have := congrArg Str.length e
    rw [app_len] at this
    have : (⟨#[97 + i]⟩ : Str).length = 1 := rfl
    omega
  · show List.Pairwise _ _
    rw [List.pairwise_map]
    refine List.Pairwise.imp (fun {i j} (ne : i ≠ j) (e : w ++ (⟨#[97 + i]⟩ : Str) = w ++ ⟨#[97 + j]⟩) => ne ?_) (List.nodup_range (n := 26))
    have := congrArg (fun z : Str => z.cps.toList) e
    simp only [str_app] at this
    have := List.append_cancel_left this
    simpa using this
theorem ways_len (w : Str) : (ways w).length = 27 := by simp [ways]
theorem ways_nm {w s : Str} (h1 : 1 ≤ w.length) (h2 : w.length ≤ 7) (h3 : Lett w) (hs : s ∈ ways w) : 1 ≤ s.length ∧ s.length ≤ 8 ∧ Lett s := by
  rcases List.mem_cons.mp hs with e | h
  · rw [e]
    exact ⟨h1, by omega, h3⟩
  · obtain ⟨i, hi, e⟩ := List.mem_map.mp h
    have hi := List.mem_range.mp hi
    subst e
    have l1 : (⟨#[97 + i]⟩ : Str).length = 1 := rfl
    refine ⟨by rw [app_len]; omega, by rw [app_len]; omega, fun c hc => ?_⟩
    rw [str_app] at hc
    rcases List.mem_append.mp hc with q | q
    · exact h3 c q
    · have : c = 97 + i := by simpa using q
      omega
/-- those that a name may be -/
def free (w : Str) (ns : List Str) : List Str := ((ways w).filter fun s => !decide (s ∈ ns)).filter fun s => !decide (s ∈ reserved)
theorem free_mem {w : Str} {ns : List Str} {s : Str} : s ∈ free w ns ↔ s ∈ ways w ∧ s ∉ ns ∧ s ∉ reserved := by
  unfold free
  rw [List.mem_filter, List.mem_filter]
  simp [and_assoc]
theorem free_one (w : Str) {ns : List Str} (h : ns.length ≤ 20) : ∃ s r, free w ns = s :: r := by
  obtain ⟨x, h1, h2⟩ := pick_one (ways w) (ns ++ reserved) (ways_nd w) (by rw [List.length_append, ways_len]; show _ + 3 < 27; omega)
  have hx : x ∈ free w ns := free_mem.mpr ⟨h1, fun z => h2 (List.mem_append_left _ z), fun z => h2 (List.mem_append_right _ z)⟩
  cases q : free w ns with
  | nil =>
    rw [q] at hx
    cases hx
  | cons s r => exact ⟨s, r, rfl⟩
section
variable {P : Program} {w : World} {K : PySem.W.Frag} {mg : Str → Option Value} {base : Heap} {f : Addr} {fd : FuncData}
theorem sc30 : FnScope ["pot", "many", "found", "signs", "lap", "word", "sign", "some", "one"] ["pot", "many"] (defScope (topS 30)) := ⟨rfl, rfl, rfl, by decide +kernel, rfl, by decide +kernel, by decide +kernel⟩
def okNames : List PD → Nat → (PD → Prop) → Prop := fun ds c R => ∃ k : Nat, ds = [.int (k : Nat)] ∧ k ≤ 8 ∧ c = k * 20 ∧ R = fun d => ∃ ns : List Str, d = .list (ns.map PyData.str) ∧ ns.length = k ∧ Nms ns
/-- a drawn word -/
def Wd (s : Str) : Prop := 1 ≤ s.length ∧ s.length ≤ 7 ∧ Lett s
theorem joinL_nil : ∀ ps : List (List Nat), TL.joinL [] ps = ps.flatten
  | [] => rfl
  | [p] => by
    show p = p ++ []
    rw [List.append_nil]
  | p :: q :: r => by
    show p ++ ([] ++ TL.joinL [] (q :: r)) = p ++ (q :: r).flatten
    rw [List.nil_append, joinL_nil (q :: r)]
theorem join_nil (ss : List Str) : (Txt.join "" ss).cps.toList = (ss.map fun s => s.cps.toList).flatten := by
  rw [TL.join_eq]
  have := TL.tl_join "" ss
  rw [show TL.tl "" = [] from rfl, joinL_nil] at this
  exact this
/-- a text of signs of the alphabet -/
theorem wd_join {ss : List Str} (h : ∀ s ∈ ss, ∃ c : Nat, s = ⟨#[c]⟩ ∧ 97 ≤ c ∧ c ≤ 122) (h1 : 1 ≤ ss.length) (h7 : ss.length ≤ 7) : Wd (Txt.join "" ss) := by
  have e : (ss.map fun s => s.cps.toList).flatten.length = ss.length := by
    clear h1 h7
    induction ss with
    | nil => rfl
    | cons s ss ih =>
      obtain ⟨c, rfl, _⟩ := h s List.mem_cons_self
      rw [List.map_cons, List.flatten_cons, List.length_append, ih fun t ht => h t (List.mem_cons_of_mem _ ht), List.length_cons]
      rw [Nat.add_comm]
      rfl
  refine ⟨?_, ?_, fun c hc => ?_⟩
  · rw [str_len, join_nil, e]
    exact h1
  · rw [str_len, join_nil, e]
    exact h7
  · rw [join_nil] at hc
    obtain ⟨l, hl, hc⟩ := List.mem_flatten.mp hc
    obtain ⟨s, hs, rfl⟩ := List.mem_map.mp hl
    obtain ⟨c', rfl, h2, h3⟩ := h s hs
    have : c = c' := by simpa using hc
    omega
theorem letters_sig {d : PD} (h : d ∈ signsD letters) : ∃ c : Nat, d = .str ⟨#[c]⟩ ∧ 97 ≤ c ∧ c ≤ 122 := by
  obtain ⟨c, hc, rfl⟩ := List.mem_map.mp h
  rw [letters_ok] at hc
  obtain ⟨i, hi, rfl⟩ := List.mem_map.mp hc
  have := List.mem_range.mp hi
  exact ⟨_, rfl, by omega, by omega⟩
theorem sig_list : ∀ es : List PD, (∀ d ∈ es, ∃ c : Nat, d = .str ⟨#[c]⟩ ∧ 97 ≤ c ∧ c ≤ 122) → ∃ ss : List Str, es = ss.map PyData.str ∧ ∀ s ∈ ss, ∃ c : Nat, s = ⟨#[c]⟩ ∧ 97 ≤ c ∧ c ≤ 122
  | [], _ => ⟨[], rfl, fun _ h => absurd h List.not_mem_nil⟩
  | d :: es, h => by
    obtain ⟨c, e, h1, h2⟩ := h d List.mem_cons_self
    obtain ⟨ss, e2, h3⟩ := sig_list es fun d hd => h d (List.mem_cons_of_mem _ hd)
    refine ⟨⟨#[c]⟩ :: ss, by rw [e, e2]; rfl, fun s hs => ?_⟩
    rcases List.mem_cons.mp hs with z | z
    · exact ⟨c, z, h1, h2⟩
    · exact h3 s z
theorem plain_wd {s : Str} (h : s ∈ (["plan", "kinds", "lines", "full"] : List Str)) : Wd s := by
  have q : ∀ s ∈ (["plan", "kinds", "lines", "full"] : List Str), (1 ≤ s.length ∧ s.length ≤ 7) ∧ s.cps.toList.all (fun c => decide (97 ≤ c) && decide (c ≤ 122)) = true := by decide +kernel
  have := q s h
  refine ⟨this.1.1, this.1.2, fun c hc => ?_⟩
  have := List.all_eq_true.mp this.2 c hc
  simpa using this
theorem sig_letters : signsD letters = (List.range 26).map fun i => PyData.str ⟨#[97 + i]⟩ := by
  unfold signsD
  rw [letters_ok, List.map_map]
  rfl
theorem i_letters {X : Cx} {C : Ct} {L : Ls} {δ : Dl} {n m : Nat} {e tg : Expr} (h : Ed X C L δ e n m (.str letters)) : Wi X C L δ tg e n m ((List.range 26).map fun i => PyData.str ⟨#[97 + i]⟩) := by
  have q := i_str (tg := tg) h
  rw [sig_letters] at q
  exact q
def notIn (ns : List Str) : PD → Bool
  | .str s => !decide (s ∈ ns)
  | _ => false
theorem small6 {d : PD} (h : d ∈ ([.int 0, .int 0, .int 0, .int 1, .int 2, .int 6] : List PD)) : ∃ j : Int, d = .int j ∧ (0 ≤ j ∧ j ≤ 6) := by
  simp only [List.mem_cons, List.not_mem_nil, or_false] at h
  rcases h with rfl | rfl | rfl | rfl | rfl | rfl <;> exact ⟨_, rfl, by decide, by decide⟩
theorem law_names (z : Bt mg) (hTk : Knw P w K mg base CX0 1 "_law_take" ["pot", "upto"] (SpQ K okTake)) (hOf : Knw P w K mg base CX0 2 "_law_of" ["pot", "some"] (SpQ K okOf)) (hOfS : Knw P w K mg base CX0 2 "_law_of" ["pot", "some"] (SpQ K okOfS))
    (F : Fun K "_law_names" "_law_names" (topS 30) f fd) : Gd P w K mg base CX0 3 f fd ["pot", "many"] (SpQ K okNames) := by
  refine okQ F sc30 (fun ds c R ⟨_, e, _⟩ => by rw [e]; rfl) fun cdv A outer s H E p B ds c R n fm D0 ⟨k, e1, e2, e3, e4⟩ hz gu hr hC hw => ?_
  subst e1 e3 e4
  have hP : fm.C.P = some p := by rw [hC]
  refine r_pairNS (s := letters) 2 3 rfl sc30.nd fun D => ?_
  refine r_for (tgd := .name 4) (ds := rangeD 0 (((k : Nat) : Int)).toNat)
    (fun i cf => ∃ ns, ns.length = i ∧ Nms ns ∧ ∃ (x1 x2 x3 x4 x5 : Option SV) (m : Nat), m ≤ n + i * 20 ∧ cf = ⟨[(D, ns.map PyData.str)], [some (.v (.ref p)), some (.d (.int (k : Nat))), some (.v (.ref D)), some (.d (.str letters)), x1, x2, x3, x4, x5], m⟩)
    rfl PassesOwn.never (i_range z.range (e_var 1) ⟨by omega, by omega⟩) (g_name 4 sc30.nd) ⟨[], rfl, ⟨List.nodup_nil, fun _ h => absurd h List.not_mem_nil⟩, none, none, none, none, none, n, by omega, rfl⟩ (fun k cf ⟨_, _, _, _, _, _, _, _, _, _, e⟩ => by rw [e]; rfl) ?_ ?_
  · rintro i d cf H1 hd ⟨ns, hl, hn, x1, x2, x3, x4, x5, m, hm, rfl⟩
    have hi : i < k := by
      have := (List.getElem?_eq_some_iff.mp hd).1
      simpa [rangeD] using this
    refine ⟨_, rfl, ?_⟩
    -- word = "".join([..])
    refine r_setR (m := m + 1 + 7 * 1) 5 (R := fun sv => ∃ s, sv = .d (.str s) ∧ Wd s) (e_imp (e_joinR (R := fun ss => (∀ s ∈ ss, ∃ c : Nat, s = ⟨#[c]⟩ ∧ 97 ≤ c ∧ c ≤ 122) ∧ 1 ≤ ss.length ∧ ss.length ≤ 7) (m := m) e_str
      (e_imp (e_lcX (i := 6) (m := m + 1) (Rd := fun ds => ∃ i : Int, (1 ≤ i ∧ i ≤ 7) ∧ ds = rangeD 0 i.toNat) (S := fun d => ∃ c : Nat, d = .str ⟨#[c]⟩ ∧ 97 ≤ c ∧ c ≤ 122) 7 1 rfl sc30.nd
        (i_rangeX z.range (e_imp (e_addIR e_int (e_imp (e_callQ hOf gu hr (by decide) hP (e_var 0) (a_cons (e_lst (a_cons e_int (a_cons e_int (a_cons e_int (a_cons e_int (a_cons e_int (a_cons e_int a_nil))))))) a_nil) ⟨_, rfl, by simp, Nat.le_of_ble_eq_true rfl, rfl, rfl⟩ (by omega)) fun sv ⟨d, e, hd⟩ => (⟨d, e, small6 hd⟩ : ∃ d, sv = SV.d d ∧ ∃ j : Int, d = .int j ∧ (0 ≤ j ∧ j ≤ 6)))) fun sv ⟨d, e, j, e2, h0, h1⟩ => ⟨d, e, 1 + j, e2, by omega, by omega⟩) fun i h => ⟨by omega, by omega⟩)
        (blkOk_by (own := [("sign", 6)]) (N := ["pot", "many", "found", "signs", "lap", "word", "sign", "some", "one"]) (sc := defScope (topS 30)) (by decide +kernel)) (fun _ _ _ _ _ => g_name 6 sc30.nd)
        (fun s' H' Cc cl fp D acc j d hj => ?_) (fun ds ⟨i, h, e⟩ => ?_) (by decide)) fun sv ⟨es, ds, e1, ⟨i', h, e2⟩, e3, e4⟩ => ?_) (fun ss h => ?_)) (fun sv ⟨ss, e, h⟩ => ⟨_, e, wd_join h.1 h.2.1 h.2.2⟩)) (fun sv ⟨s1, q, hs1⟩ => ?_) sc30.nd
    · rw [show ∀ a : Nat, a + (j + 1) * 1 = a + j * 1 + 1 from fun a => by omega]
      exact e_imp (e_callQ hOfS gu hr (by decide) hP (e_var 0) (a_cons (e_var 3) a_nil) ⟨letters, rfl, by decide, by decide, rfl, rfl⟩ (by omega)) fun sv ⟨d, e, hd⟩ => ⟨d, e, letters_sig hd⟩
    · rw [e]
      simp [rangeD]
      omega
    · obtain ⟨ss, rfl, hss⟩ := sig_list es e4
      have l1 : ss.length = i'.toNat := by
        rw [e2] at e3
        simpa [rangeD] using e3
      exact ⟨ss, e1, hss, by omega, by omega⟩
    · have := h.2.2
      have hsum : ∀ ss : List Str, (∀ s ∈ ss, ∃ c : Nat, s = ⟨#[c]⟩ ∧ 97 ≤ c ∧ c ≤ 122) → (ss.map (·.length)).sum = ss.length := by
        intro ss
        induction ss with
        | nil => intro _; rfl
        | cons s ss ih =>
          intro h
          obtain ⟨c, rfl, _⟩ := h s List.mem_cons_self
          rw [List.map_cons, List.sum_cons, ih fun t ht => h t (List.mem_cons_of_mem _ ht), List.length_cons, Nat.add_comm]
          rfl
      rw [hsum ss h.1]
      show ss.length + ss.length * 0 ≤ _
      omega
    subst q
    refine r_setR (m := m + 1 + 7 * 1 + 1 + 1) 5 (R := fun sv => ∃ s, sv = .d (.str s) ∧ Wd s) (e_ifX (x_eqI (e_callQ hTk gu hr (by decide) hP (e_var 0) (a_cons e_int a_nil) ⟨9, rfl, by decide, by decide +kernel, rfl, rfl⟩ (by omega)) e_int) (fun _ => e_imp (e_callQ hOf gu hr (by decide) hP (e_var 0) (a_cons (e_lst (a_cons e_str (a_cons e_str (a_cons e_str (a_cons e_str a_nil))))) a_nil) ⟨(["plan", "kinds", "lines", "full"] : List Str).map PyData.str, rfl, by simp, by decide, rfl, rfl⟩ (by omega)) fun sv ⟨d, e, hd⟩ => ?_) (fun _ => e_imp (e_mono (e_var 5) (Nat.le_succ _)) fun sv e => ⟨s1, e.symm, hs1⟩)) (fun sv ⟨s2, q, hs2⟩ => ?_) sc30.nd
    · obtain ⟨s, hs, rfl⟩ := List.mem_map.mp hd
      exact ⟨s, e, plain_wd hs⟩
    subst q
    have hlen : ns.length ≤ 20 := by omega
    refine r_lcFN (n := m + 1 + 7 * 1 + 1 + 1) (m := m + 1 + 7 * 1 + 1 + 1) (i := 8) (ds := (ways s2).map PyData.str) 7 (notIn ns) id rfl sc30.nd (i_list (e_eq (e_catD (e_lst (a_cons (e_var 5) a_nil)) (e_lcM (i := 6) (l := List.range 26) (g := fun i => .str ⟨#[97 + i]⟩) (fun i => .str (s2 ++ ⟨#[97 + i]⟩)) rfl sc30.nd ?_ (blkOk_by (own := [("sign", 6)]) (N := ["pot", "many", "found", "signs", "lap", "word", "sign", "some", "one"]) (sc := defScope (topS 30)) (by decide +kernel)) (fun _ _ _ _ _ => g_name 6 sc30.nd) (fun s' H' Cc cl fp D acc c hc => ?_) (by rw [List.length_range]; decide)) (by rw [List.length_map, List.length_range]; show 1 + 26 ≤ _; decide)) ?_)) (blkOk_by (own := [("one", 8)]) (N := ["pot", "many", "found", "signs", "lap", "word", "sign", "some", "one"]) (sc := defScope (topS 30)) (by decide +kernel)) (fun _ _ _ _ _ => g_name 8 sc30.nd)
      (fun s' H' Cc cl fp D acc d hd => ?_) (fun s' H' Cc cl fp D acc d hd hk => e_var 8) (by rw [List.length_map, ways_len]; decide) ?_
    · exact i_letters (e_var 3)
    · exact e_addS (e_var 5) (e_var 6) (by have := hs2.2.1; show s2.length + 1 ≤ _; omega)
    · refine congrArg PyData.list ?_
      show PyData.str s2 :: _ = PyData.str s2 :: _
      rw [List.map_map]
      rfl
    · obtain ⟨s, hs, rfl⟩ := List.mem_map.mp hd
      exact t_notM (List.mem_cons_of_mem _ List.mem_cons_self) (e_var 8) (e_var 2)
    have e1 : ((((ways s2).map PyData.str).filter (notIn ns)).map id) = ((ways s2).filter fun s => !decide (s ∈ ns)).map PyData.str := by
      rw [List.map_id, List.filter_map]
      rfl
    rw [e1]
    obtain ⟨s3, rest, hf⟩ := free_one s2 (ns := ns) (by omega)
    have h3 : s3 ∈ free s2 ns := by rw [hf]; exact List.mem_cons_self
    obtain ⟨h31, h32, h33⟩ := free_mem.mp h3
    have hw3 := ways_nm hs2.1 hs2.2.1 hs2.2.2 h31
    refine r_append (m := m + 1 + 7 * 1 + 1 + 1) (d := .str s3) (e_var 2) (e_ixL (ds := (free s2 ns).map PyData.str) (e_eq (e_lcFN (i := 8) (ds := ((ways s2).filter fun s => !decide (s ∈ ns)).map PyData.str) (notIn reserved) id rfl sc30.nd (i_list (e_var 7)) (blkOk_by (own := [("one", 8)]) (N := ["pot", "many", "found", "signs", "lap", "word", "sign", "some", "one"]) (sc := defScope (topS 30)) (by decide +kernel)) (fun _ _ _ _ _ => g_name 8 sc30.nd)
      (fun s' H' Cc cl fp D acc d hd => ?_) (fun s' H' Cc cl fp D acc d hd hk => e_var 8) ?_) ?_) (e_int (i := 0)) ?_) (by rw [List.length_map]; omega) (r_end (J := _) ?_)
    · obtain ⟨s, hs, rfl⟩ := List.mem_map.mp hd
      exact t_notT (ss := reserved) (e_var 8) (e_tup (a_cons e_str (a_cons e_str (a_cons e_str a_nil))))
    · rw [List.length_map]
      have := List.length_filter_le (fun s => !decide (s ∈ ns)) (ways s2)
      rw [ways_len] at this
      omega
    · refine congrArg PyData.list ?_
      rw [List.map_id, List.filter_map]
      rfl
    · rw [hf]
      exact atI_nat (j := 0) rfl
    · refine ⟨ns ++ [s3], by rw [List.length_append, hl]; rfl, ⟨?_, ?_⟩, _, _, _, _, _, m + 1 + 7 * 1 + 1 + 1, by omega, by rw [List.map_append]; rfl⟩
      · refine List.nodup_append.mpr ⟨hn.nd, List.nodup_cons.mpr ⟨List.not_mem_nil, List.nodup_nil⟩, fun a ha b hb e => ?_⟩
        rw [List.mem_singleton.mp hb] at e
        exact h32 (by rw [← e]; exact ha)
      · intro s hs
        rcases List.mem_append.mp hs with q | q
        · exact hn.ok s q
        · rw [List.mem_singleton.mp q]
          exact ⟨hw3.1, hw3.2.1, hw3.2.2, h33⟩
  · rintro cf ⟨ns, hl, hn, x1, x2, x3, x4, x5, m, hm, rfl⟩
    have e : (rangeD 0 (((k : Nat) : Int)).toNat).length = k := by simp [rangeD]
    rw [e] at hl hm
    exact r_retM hw (e_var 2) List.mem_cons_self ⟨hm, _, rfl, ns, rfl, hl, hn⟩
end
end N0
namespace Wk
open PySem PySem.Spec PyProof.Rows L2
def tFoX (K : PySem.W.Frag) (F : Fm) (L : Ls) (Rd : List PD → Prop) (Iv : Nat → Cf → Prop) (tgd : Tg) (D0 : Ends) : TS := fun D σ H => ∃ ds i d c' H1 δ', Rd ds ∧ ds[i]? = some d ∧ Iv i c' ∧ tgd.put d c'.δ = some δ' ∧
  tB K (F.add (Bs F.C L) H1) ⟨c'.L, δ', c'.n⟩ { D0 with nx := Post K (F.add (Bs F.C L) H1) (Iv (i + 1)), ct := Post K (F.add (Bs F.C L) H1) (Iv (i + 1)), bk := fun _ _ => False } D σ H
section
variable {X : Cx} {F : Fm} {L : Ls} {δ : Dl} {n m k l : Nat} {D0 : Ends} {rest : List Stmt} {st : Stmt} {e : Expr} {es : List Expr} {pos p q : Pos} {x : Str} {ds : List PD}
theorem r_forX {tg iter : Expr} {body : List Stmt} {tgd : Tg} {Rd : List PD → Prop} (Iv : Nat → Cf → Prop) (hc : X.calm = true) (hp : PassesOwn (model X.prog X.w) X.A X.env X.xe) (hi : WX X F.C L δ tg iter n m Rd) (hg : PG X tg (gT X.K F.C tgd)) (h0 : Iv 0 ⟨L, δ, m⟩)
    (hL : ∀ i c', Iv i c' → c'.L.map (·.1) = L.map (·.1))
    (hb : ∀ ds i d c' H1, Rd ds → ds[i]? = some d → Iv i c' → ∃ δ', tgd.put d c'.δ = some δ' ∧ Bk X (F.add (Bs F.C L) H1) ⟨c'.L, δ', c'.n⟩ { D0 with nx := Post X.K (F.add (Bs F.C L) H1) (Iv (i + 1)), ct := Post X.K (F.add (Bs F.C L) H1) (Iv (i + 1)), bk := fun _ _ => False } body)
    (g : ∀ ds c', Rd ds → Iv ds.length c' → Bk X F c' D0 rest) (hs : ∀ x, foldedSetIterable iter X.env x = pure x := by intro _; rfl) : Bk X F ⟨L, δ, n⟩ D0 (.For tg iter body [] pos :: rest) := by
  have hB : PSs X body (tFoX X.K F L Rd Iv tgd D0) :=
    ⟨fun pins s σ H D I ⟨ds, i, d, c', H1, δ', h0, h1, h2, h3, q⟩ => by
      obtain ⟨δ2, h4, bk⟩ := hb ds i d c' H1 h0 h1 h2
      rw [h3] at h4
      cases h4
      exact bk.run pins s σ H D I q⟩
  refine r_cons (fun c' => ∃ ds, Rd ds ∧ Iv ds.length c') (PS.imp (ps_for hp hc hi hg hB hs) fun D σ H ⟨le, ii⟩ => ⟨ii.at_, fun J H1 ds k1 h1 rd goes => ?_⟩) fun c' ⟨ds, h1, h2⟩ => g ds c' h1 h2
  obtain ⟨G, g0, gGrow, gKeep, wk⟩ := goes.ex
  have i1 := ii.go k1 h1
  have bsE : ∀ i c', Iv i c' → Bs F.C c'.L = Bs F.C L := fun i c' h => by unfold Bs; rw [hL i c' h]
  have bdE : ∀ i c', Iv i c' → Bd F.C c'.L = Bd F.C L := fun i c' h => by unfold Bd; rw [bsE i c' h]
  have gAt : ∀ {i c' σ H}, Iv i c' → In X.K (F.add (Bs F.C L) H1) c' σ H → G (Bd F.C L) H := fun {i c' σ H} h j => gKeep _ _ _ g0 ((j.an (Bs F.C L, H1) List.mem_cons_self).wider bs_bd)
  refine for_it (g := gT X.K F.C tgd) (tb := tFoX X.K F L Rd Iv tgd D0) (D := D) (σ := σ) (H := H1) (wk (Bd F.C L)) (fun i σ H => Post X.K (F.add (Bs F.C L) H1) (Iv i) σ H) ⟨_, h0, ?_⟩ (fun i σ H _ ⟨c', hi, j⟩ => gAt hi j) ?_ fun σ2 H2 ⟨c', hi, j⟩ => le.nx _ _ ⟨c', ⟨ds, rd, hi⟩, j.less⟩
  · refine ⟨fun a ha => ?_, fun a ha => ?_, i1.at_⟩
    · rcases List.mem_cons.mp ha with e | ha
      · rw [e]
        exact .refl _ _
      · exact i1.an a ha
    · rcases List.mem_cons.mp ha with e | ha
      · rw [e]
        exact fun b hb => .inl hb
      · exact i1.fr a ha
  · rintro i x σ2 H2 H3 hlt ⟨c', hiv, j⟩ y
    obtain ⟨sm, d, hd, dv⟩ := y fun b hb => j.at_.hold.known (by show b ∈ Bd F.C c'.L; rw [bdE i c' hiv]; exact hb)
    obtain ⟨δ', hput, _⟩ := hb ds i d c' H1 rd hd hiv
    have j3 := j.same sm
    refine ⟨c'.L, c'.δ, c'.n, d, δ', j3.at_, (by show Dv _ (Bd F.C c'.L) _ _ _; rw [bdE i c' hiv]; exact dv), hput, fun σ' t' _ => ⟨ds, i, d, c', H1, δ', rd, hd, hiv, hput, ⟨fun _ _ z => z, le.rt, fun _ _ z => z.elim, fun _ _ z => z⟩, j3.slots t'⟩⟩
theorem r_itemR {S : PD → Prop} {D : Addr} {ds : List PD} {o i a : Expr} {z : Int} {j : Nat} {sp : Pos} (ha : E X F.C ((D, ds) :: L) δ a n m (fun sv => ∃ d, sv = .d d ∧ S d)) (ho : Ev X F.C ((D, ds) :: L) δ o m m (.ref D)) (hi : Ed X F.C ((D, ds) :: L) δ i m m (.int z)) (hj : ixN ds.length z = some j) (g : ∀ d, S d → Bk X F ⟨(D, ds.set j d) :: L, δ, m⟩ D0 rest)
    (hg : ∀ v, assign (.Subscript o i sp) X.env v = (do
      let ov ← holding [v] (eval o X.env)
      let iv ← holding [v, ov] (eval i X.env)
      standAt sp
      holding [v, ov, iv] (setItem ov iv v)
      release [v, ov, iv] []) := by intro _; rfl)
    (hs : swapsWithSole [.Subscript o i sp] a pos.line X.env = pure false := by rfl) (hw : swappedStores [.Subscript o i sp] a X.env = pure none := by rfl) (h1 : (assignEach [.Subscript o i sp] X.env).map (·.2) = [assign (.Subscript o i sp) X.env] := by rfl) :
    Bk X F ⟨(D, ds) :: L, δ, n⟩ D0 (.Assign [.Subscript o i sp] a pos :: rest) :=
  r_cons (fun c' => ∃ d, S d ∧ c' = ⟨(D, ds.set j d) :: L, δ, m⟩) (PS.imp (ps_asg ha (pg_sub ho hi set_list hg) hs hw h1) fun DD σ H ⟨le, ii⟩ => ⟨ii.at_, fun v H2 sv k1 h1 r1 s1 => by
    obtain ⟨d, rfl, hd⟩ := r1
    have i1 := ii.go k1 h1
    refine ⟨i1.at_, fun w H3 sw k2 h2 r2 s2 => ⟨(i1.go k2 h2).at_, fun y H4 sy k3 h3 r3 s3 => ?_⟩⟩
    subst r2 r3
    have e0 : w = .ref D := s2
    subst e0
    cases s3
    obtain ⟨ys, hy, gy⟩ := h3.ls D ds List.mem_cons_self
    have i3 := (i1.go k2 h2).go k3 h3
    have kD : Keep (Bs F.C ((D, ds) :: L)) H4 (upd H4 D (.lst (ys.set j v))) := keep_upd List.mem_cons_self
    refine ⟨D, ys, z, j, rfl, rfl, hy, by rw [gy.length]; exact hj, le.nx _ _ ⟨_, ⟨d, hd, rfl⟩, fun a ha => keep_anchor (i3.an a ha) (i3.fr a ha) kD, i3.fr, i3.at_.sl.keep (kD.wider bs_bd), h3.put (gy.set j (Dv.keep s1 ((k2.trans k3).wider bs_bd)))⟩⟩⟩) fun c' ⟨d, hd, ec⟩ => by subst ec; exact g d hd
end
section
variable {X : Cx} {C : Ct} {L : Ls} {δ : Dl} {n m k l : Nat} {a b c e f tg : Expr} {es : List Expr} {pos p : Pos} {d : PD} {ds : List PD} {x : Str} {ps : List Str}
theorem i_listX {Rd : List PD → Prop} (h : E X C L δ e n m (fun sv => ∃ ds, sv = .d (.list ds) ∧ Rd ds)) : WX X C L δ tg e n m Rd := PI.imp (pi_list h) fun σ H R ⟨t, q⟩ => ⟨t, fun v H2 sv k1 h1 e1 s1 => by
  obtain ⟨ds, rfl, hd⟩ := e1
  cases (show Dv X.K (Bd C L) H2 v (.list ds) from s1) with
  | lst r g => exact ⟨_, rfl, ⟨_, r.sq⟩, q _ H2 ds k1 h1 hd (goes_list r g)⟩⟩
/-- a call that draws, of arguments that are drawn -/
theorem e_callQR {r : Nat} {ok : List PD → Nat → (PD → Prop) → Prop} {RA : List SV → Prop} {S : PD → Prop} {w : Addr} {u : Nat} (F : Kn X CX0 k x ps (SpQ X.K ok)) (gu : X.A.guards = some []) (hr : Room r X.A) (hk : k ≤ r) (hp : C.P = some w)
    (h0 : Ev X C L δ e n n (.ref w)) (ha : Ar X C L δ es n m RA) (h : ∀ svs, RA svs → ∃ ds R u', svs = ds.map SV.d ∧ u' ≤ u ∧ ok ds u' R ∧ ∀ d, R d → S d) (hz : m + u ≤ 1000000) (hg : Gl X x := by rfl)
    (hdb : (x == ("__debug__" : Str)) = false := by decide) (he : starEach (e :: es) X.env = (false, eval e X.env) :: starEach es X.env := by rfl) (hpl : (backTo pos (starEach es X.env)).any (·.1) = false := by rfl) :
    E X C L δ (.Call (.Name x p) (e :: es) [] pos) n (m + u) (fun sv => ∃ d, sv = .d d ∧ S d) := by
  refine PE.imp (pe_callG F gu (hr.mono hk) hg pass0 (ar_cons (h0 : E X C L δ e n n _) ha he) hdb he hpl) fun σ H Q ⟨t, q⟩ => ⟨t, fun vs H2 svs k1 h1 e1 s1 => ?_⟩
  obtain ⟨sv, rest, rfl, rfl, hra⟩ := e1
  obtain ⟨ds, R, u', rfl, hu, hok, himp⟩ := h rest hra
  cases s1 with
  | @cons v0 ws _ _ a b =>
    have e0 : v0 = .ref w := a
    subst e0
    have hw : w ∈ Bs C L := List.mem_append_right _ (by rw [hp]; simp)
    refine ⟨w, Bd C L, ws, m, u', ds, R, rfl, bs_bd _ hw, fun b hb => h1.known hb, b.data, h1.pot w hp, by omega, hok, fun v H3 d kp po hR g => ?_⟩
    have kb : Keep (Bs C L) H2 H3 := kp.wider fun b hb => by
      have e : b = w := by simpa using hb
      rw [e]
      exact hw
    have ho : Hold X.K C L (m + u') H3 := h1.drawn hp kp po
    exact q v H3 _ (k1.trans kb) (ho.mono (by omega)) ⟨d, rfl, himp d hR⟩ g
theorem mt_lindexD (hu : X.A.units + 66 < cLine) : MtR X "list.index" (fun x xs H Q => ∃ (r : Addr) (y : V) (d : PD) (ds : List PD), x = .ref r ∧ xs = [y] ∧ Dp X.K H (.ref r) (.list ds) ∧ Dp X.K H y d ∧ SeqAt.shaped d = true ∧ SeqAt.shaped (.list ds) = true ∧
    true ∈ ds.map (fun z => PyData.eqv z d) ∧ Q (.int (((ds.map (fun z => PyData.eqv z d)).idxOf true : Nat) : Int)) H) := by
  intro pins s σ H x xs v us Q I rx rxs h
  obtain ⟨r, y, d, ds, rfl, rfl, h1, h2, s1, s2, hm, hq⟩ := h
  cases rx
  obtain ⟨u, rfl, ry⟩ := vals1 rxs
  cases h1 with
  | lst hs ha =>
    obtain ⟨its, rv, pl, hz⟩ := I.list hs
    obtain ⟨as, ra⟩ := Dp.readsAll I ds _ its ha rv
    obtain ⟨bs, rb⟩ := Dp.reads I d y u h2 ry
    have cl2 : PyData.canLayAll0 ds = true := SeqAt.canLay_of_shaped s2
    have len : its.length = ds.length := by
      have e1 := rv.length
      have e2 : ∀ {vs : List V} {es : List PD}, DpAll X.K H vs es → vs.length = es.length := by
        intro vs es g
        induction es generalizing vs with
        | nil => cases g; rfl
        | cons e es ih =>
          cases g with
          | cons _ g => rw [List.length_cons, List.length_cons, ih g]
      rw [← e1, e2 ha]
    have items : ∀ {vs : List Value} {es : List PD} {cs : List Addr}, ReadsAll s.heap vs es cs → PyData.canLayAll0 es = true → ∀ j (g1 : j < vs.length) (g2 : j < es.length), SeqAt.EqAt X.A.in1 s vs[j] u (PyData.eqv es[j] d) := by
      intro vs es cs g
      induction es generalizing vs cs with
      | nil => intro _ j _ g2; exact absurd g2 (Nat.not_lt_zero _)
      | cons e es ih =>
        cases g with
        | cons q1 q2 =>
          intro hc j g1 g2
          have hc2 : (PyData.canLay0 e && PyData.canLayAll0 es) = true := hc
          rw [Bool.and_eq_true] at hc2
          cases j with
          | zero =>
            refine SeqAt.eqAt_reads e d X.A.in1 s _ u _ bs q1 rb hc2.1 (SeqAt.canLay_of_shaped s1) ?_
            have := SeqAt.depth_of_shaped s1
            have h3 : min e.depth d.depth ≤ d.depth := Nat.min_le_right _ _
            show X.A.units + 1 + min e.depth d.depth < cLine
            omega
          | succ j => exact ih q2 hc2.2 j (Nat.lt_of_succ_lt_succ g1) (Nat.lt_of_succ_lt_succ g2)
    refine SeqAt.call_list_index (ks := ds.map (fun z => PyData.eqv z d)) (k := true) pl.isList ⟨by rw [List.length_map]; exact len, fun j g1 g2 => ?_⟩ (by rw [List.length_map, ← len, ← rv.length]; exact hz) hm ⟨.int _, H, I.tok _, ⟨_, rfl⟩, hq⟩
    rw [List.length_map] at g2
    rw [List.getElem_map]
    exact (items ra cl2 j g1 g2).cast (by cases PyData.eqv ds[j] d <;> rfl)
theorem e_dindexL {r : Nat} {o : Expr} {apos cpos : Pos} (hr : Room r X.A) (s2 : SeqAt.shaped (.list ds) = true) (ho : Ed X C L δ o n m (.list ds)) (ha : Ed X C L δ a m k d) (s1 : SeqAt.shaped d = true) (hm : true ∈ ds.map (fun z => PyData.eqv z d))
    (hbase : attributeBase o "index" X.env (eval o X.env) = eval o X.env := by rfl)
    (hfew : ((backTo cpos (starEach [a] X.env)).all (fun x => !x.1) && (backToKw cpos (keywordEach [] X.env)).all (fun x => x.1.isSome)
      && decide ([a].length + ([] : List Keyword).length + (if ([] : List Keyword).isEmpty then 0 else 1) < 30)) = true := by rfl)
    (hline : (apos.endLine == cpos.line) = true := by rfl) (hst : starEach [a] X.env = (false, eval a X.env) :: starEach [] X.env := by rfl) (hplain : (backTo cpos (starEach [] X.env)).any (·.1) = false := by rfl) :
    Ed X C L δ (.Call (.Attribute o "index" apos) [a] [] cpos) n k (.int (((ds.map (fun z => PyData.eqv z d)).idxOf true : Nat) : Int)) :=
  PE.imp (pe_bm PySem.F.plainAttrs_list PySem.F.slot_list_index PySem.F.type_list_index (mt_lindexD (by have := hr.un; omega)) ho (a_cons ha a_nil hst) hbase hfew hline hst hplain) fun σ H Q ⟨t, q⟩ => ⟨t, fun v H2 sv k1 h1 r1 sv1 => by
    subst r1
    cases sv1 with
    | @lst r xs _ rd g =>
      refine ⟨.inl ⟨rfl, _, rd.sq⟩, t.go k1 h1, fun vs H3 svs k2 h2 r2 sv2 => ?_⟩
      subst r2
      obtain ⟨y, rfl, gy⟩ := DvAll.one sv2
      have kb := (k2 : Keep (Bs C L) H2 H3).wider bs_bd
      exact ⟨r, y, d, ds, rfl, rfl, .lst (rd.keep kb).sq (DvAll.dp _ _ (nd_shapedL s2) (g.keep kb)), Dv.dp _ _ (nd_shaped s1) gy, s1, s2, hm, q _ H3 _ (k1.trans k2) h2 rfl (Dv.int _)⟩⟩
theorem e_neg {i : Int} (h : Ed X C L δ a n m (.int i)) : Ed X C L δ (.UnaryOp .USub a pos) n m (.int (-i)) := PE.imp (pe_un un_neg h) fun σ H Q ⟨t, q⟩ => ⟨t, fun v H2 sv k1 h1 e1 s1 => by
  subst e1
  cases s1
  exact ⟨i, rfl, q _ H2 _ k1 h1 rfl (.int _)⟩⟩
end
theorem ixN_at {n j : Nat} (h : j < n) : ixN n ((j : Nat) : Int) = some j := by
  unfold ixN
  rw [if_pos (by omega), if_pos (by omega)]
  simp
end Wk
namespace N0
open PySem PySem.Spec PyProof.Rows L2 Wk
def many (s : Nat) : Nat := if s = 1 then 2 else 8
/-- what a cell of a book may be: blank, full, a kind in a motion -/
def CellOk (s k : Nat) (d : PD) : Prop := d = .none ∨ d = .str "full" ∨ ∃ a m : Nat, d = .tuple [.int (a : Nat), .int (m : Nat)] ∧ a < k ∧ m < many s
section
variable {P : Program} {w : World} {K : PySem.W.Frag} {mg : Str → Option Value} {base : Heap} {f : Addr} {fd : FuncData}
theorem sc31 : FnScope ["pot", "kinds", "sides", "seldom", "way", "motion"] ["pot", "kinds", "sides", "seldom"] (defScope (topS 31)) := ⟨rfl, rfl, rfl, by decide +kernel, rfl, by decide +kernel, by decide +kernel⟩
def okWord : List PD → Nat → (PD → Prop) → Prop := fun ds c R => ∃ k s v : Nat, ds = [.int (k : Nat), .int (s : Nat), .int (v : Nat)] ∧ 1 ≤ k ∧ k ≤ 8 ∧ (s = 1 ∨ s = 2) ∧ 1 ≤ v ∧ v ≤ 100 ∧ c = 4 ∧ R = CellOk s k
theorem many_ifN {X : Cx} {C : Ct} {L : Ls} {δ : Dl} {c : Expr} {p1 p2 p : Pos} {j1 j2 : Nat} {s k : Nat} (hs : s = 1 ∨ s = 2) (h : T X C L δ c k k (decide (((s : Nat) : Int) = 2))) : Ed X C L δ (.IfExp c (.Constant (.int 8) j1 p1) (.Constant (.int 2) j2 p2) p) k k (.int (many s : Nat)) := by
  rcases hs with rfl | rfl
  · exact e_if h (fun h => absurd h (by decide)) (fun _ => e_int)
  · exact e_if h (fun _ => e_int) (fun h => absurd h (by decide))
theorem law_word (z : Bt mg) (hTk : Knw P w K mg base CX0 1 "_law_take" ["pot", "upto"] (SpQ K okTake)) (F : Fun K "_law_word" "_law_word" (topS 31) f fd) : Gd P w K mg base CX0 2 f fd ["pot", "kinds", "sides", "seldom"] (SpQ K okWord) := by
  refine okQ F sc31 (fun ds c R ⟨_, _, _, e, _⟩ => by rw [e]; rfl) fun cdv A outer s H E p B ds c R n fm D0 ⟨k, S, v, e1, k1, k2, hs, v1, v2, e2, e3⟩ hz gu hr hC hw => ?_
  subst e1 e2 e3
  have hP : fm.C.P = some p := by rw [hC]
  have mn : 0 < many S ∧ many S ≤ 8 := by rcases hs with rfl | rfl <;> decide
  refine r_setR 4 (e_callQ hTk gu hr (by decide) hP (e_var 0) (a_cons e_int a_nil) ⟨8, rfl, by decide, by decide +kernel, rfl, rfl⟩ (by omega)) (fun sv ⟨d, q, i, hi, i0, i1⟩ => ?_) sc31.nd
  subst q hi
  refine r_ifR (t_lt (e_var 4) e_int) (fun h => r_ret hw e_non fun sv e => ⟨by omega, _, e.symm, .inl rfl⟩) (fun h => ?_)
  refine r_ifR (t_eqI (e_var 4) e_int) (fun h => r_ret hw e_str fun sv e => ⟨by omega, _, e.symm, .inr (.inl rfl)⟩) (fun h => ?_)
  refine r_setR (m := n + 1 + 1 + 1) 5 (R := fun sv => ∃ d, sv = .d d ∧ ∃ m : Nat, d = .int (m : Nat) ∧ m < many S) (e_ifX (m := n + 1 + 1) (x_eqI (e_callQ hTk gu hr (by decide) hP (e_var 0) (a_cons (e_var 3) a_nil) ⟨(v : Nat), rfl, by omega, Nat.lt_of_le_of_lt (by omega : _ ≤ 100) (by decide +kernel), rfl, rfl⟩ (by omega)) e_int)
    (fun _ => e_imp (e_callQ hTk gu hr (by decide) hP (e_var 0) (a_cons (many_ifN hs (t_eqI (e_var 2) e_int)) a_nil) ⟨(many S : Nat), rfl, by omega, Nat.lt_of_le_of_lt (by omega : _ ≤ 8) (by decide +kernel), rfl, rfl⟩ (by omega)) fun sv ⟨d, e, j, ej, j0, j1⟩ => ⟨d, e, j.toNat, by rw [ej]; congr 1; omega, by omega⟩)
    (fun _ => e_imp (e_mono e_int (Nat.le_succ _)) fun sv e => ⟨_, e.symm, 0, rfl, mn.1⟩)) (fun sv ⟨d, q, m, em, hm⟩ => ?_) sc31.nd
  subst q em
  refine r_ret (m := n + 1 + 1 + 1 + 1) hw (e_imp (e_tupR (ar_cons (e_callQ hTk gu hr (by decide) hP (e_var 0) (a_cons (e_var 1) a_nil) ⟨(k : Nat), rfl, by omega, Nat.lt_of_le_of_lt (by omega : _ ≤ 8) (by decide +kernel), rfl, rfl⟩ (by omega)) (ar_cons (e_eq (d := .int (m : Nat)) (e_var 5) rfl) ar_nil)) (fun svs h => ?_)) fun sv ⟨ds, e, h⟩ => ?_) (fun sv h => ⟨by omega, h⟩)
  · obtain ⟨_, _, rfl, ⟨d1, rfl, _⟩, _, _, rfl, rfl, rfl⟩ := h
    exact ⟨[d1, _], rfl, Nat.le_of_ble_eq_true rfl⟩
  · obtain ⟨_, _, h, ⟨d1, rfl, j, ej, j0, j1⟩, _, _, rfl, rfl, rfl⟩ := h
    match ds, h with
    | [a, b], h =>
      cases h
      exact ⟨_, e, .inr (.inr ⟨j.toNat, m, by rw [ej, show ((j.toNat : Nat) : Int) = j by omega], by omega, hm⟩)⟩
/-! _law_block -/
theorem sc32 : FnScope ["pot", "sides", "base", "kinds", "seldom", "spots", "way", "block", "at", "fill", "some", "spot"] ["pot", "sides", "base", "kinds", "seldom"] (defScope (topS 32)) := ⟨rfl, rfl, rfl, by decide +kernel, rfl, by decide +kernel, by decide +kernel⟩
def size (s b : Nat) : Nat := if s = 1 then b else b * b
theorem spots_len {s b : Nat} (hs : s = 1 ∨ s = 2) : (spots s b).length = size s b := by
  rcases hs with rfl | rfl
  · show (spots1 b).length = b
    simp [spots1]
  · show (spots2 b b).length = b * b
    exact spots2_len b b
def BlockOk (s b k : Nat) (ds : List PD) : Prop := ds.length = size s b ∧ ∀ d ∈ ds, CellOk s k d
def okBlock : List PD → Nat → (PD → Prop) → Prop := fun ds c R => ∃ s b k v : Nat, ds = [.int (s : Nat), .int (b : Nat), .int (k : Nat), .int (v : Nat)] ∧ (s = 1 ∨ s = 2) ∧ 2 ≤ b ∧ b ≤ 4 ∧ 1 ≤ k ∧ k ≤ 8 ∧ 1 ≤ v ∧ v ≤ 100 ∧ c = 100 ∧ R = fun d => ∃ bs, d = .list bs ∧ BlockOk s b k bs
theorem set_ok {s b k : Nat} {ds : List PD} {d : PD} {j : Nat} (h : BlockOk s b k ds) (hd : CellOk s k d) : BlockOk s b k (ds.set j d) := by
  refine ⟨by rw [List.length_set]; exact h.1, fun e he => ?_⟩
  rcases List.mem_or_eq_of_mem_set he with q | q
  · exact h.2 e q
  · rw [q]
    exact hd
theorem size_le {s b : Nat} (hs : s = 1 ∨ s = 2) (h : b ≤ 4) : size s b ≤ 16 := by
  rcases hs with rfl | rfl
  · show b ≤ 16
    omega
  · show b * b ≤ 16
    have := Nat.mul_le_mul h h
    omega
theorem combos {s b : Nat} (hs : s = 1 ∨ s = 2) (h2 : 2 ≤ b) (h4 : b ≤ 4) {p : Nat → Nat → Prop} (h : p 1 2 ∧ p 1 3 ∧ p 1 4 ∧ p 2 2 ∧ p 2 3 ∧ p 2 4) : p s b := by
  have : b = 2 ∨ b = 3 ∨ b = 4 := by omega
  rcases hs with rfl | rfl <;> rcases this with rfl | rfl | rfl
  · exact h.1
  · exact h.2.1
  · exact h.2.2.1
  · exact h.2.2.2.1
  · exact h.2.2.2.2.1
  · exact h.2.2.2.2.2
theorem spots_shaped {s b : Nat} (hs : s = 1 ∨ s = 2) (h2 : 2 ≤ b) (h4 : b ≤ 4) : SeqAt.shaped (.list (spots s b)) = true :=
  combos (p := fun s b => SeqAt.shaped (.list (spots s b)) = true) hs h2 h4 (by decide +kernel)
theorem spots_each {s b : Nat} (hs : s = 1 ∨ s = 2) (h2 : 2 ≤ b) (h4 : b ≤ 4) : (spots s b).all (fun d => SeqAt.shaped d && ((spots s b).map fun z => PyData.eqv z d).contains true) = true :=
  combos (p := fun s b => (spots s b).all (fun d => SeqAt.shaped d && ((spots s b).map fun z => PyData.eqv z d).contains true) = true) hs h2 h4 (by decide +kernel)
theorem spot_in {s b : Nat} (hs : s = 1 ∨ s = 2) (h2 : 2 ≤ b) (h4 : b ≤ 4) {d : PD} (hd : d ∈ spots s b) : SeqAt.shaped d = true ∧ true ∈ (spots s b).map fun z => PyData.eqv z d := by
  have h := List.all_eq_true.mp (spots_each hs h2 h4) d hd
  rw [Bool.and_eq_true] at h
  exact ⟨h.1, List.contains_iff_mem.mp h.2⟩
/-- the cells of a side, or of a diagonal -/
def onIt (w : Int) : PD → Bool
  | .tuple [.int a] => decide (a = if w = 4 then a else 0)
  | .tuple [.int a, .int b] => decide (a = if w = 4 then b else 0)
  | _ => false
theorem spots_form {s b : Nat} (hs : s = 1 ∨ s = 2) {d : PD} (hd : d ∈ spots s b) : (∃ a : Int, d = .tuple [.int a]) ∨ ∃ a b : Int, d = .tuple [.int a, .int b] := by
  rcases hs with rfl | rfl
  · obtain ⟨c, _, rfl⟩ := List.mem_map.mp (show d ∈ spots1 b from hd)
    exact .inl ⟨_, rfl⟩
  · have : ∀ r, d ∈ spots2 b r → ∃ a b : Int, d = .tuple [.int a, .int b] := by
      intro r
      induction r with
      | zero => intro h; exact absurd h List.not_mem_nil
      | succ r ih =>
        intro h
        rcases List.mem_append.mp (show d ∈ spots2 b r ++ _ from h) with q | q
        · exact ih q
        · obtain ⟨c, _, rfl⟩ := List.mem_map.mp q
          exact ⟨_, _, rfl⟩
    exact .inr (this b hd)
theorem Picks.sub {ds es ls : List PD} (h : Picks ds es ls) : (∀ d ∈ es, d ∈ ds) ∧ ∀ d ∈ ls, d ∈ ds := by
  induction h with
  | nil => exact ⟨fun d h => absurd h List.not_mem_nil, fun d h => h⟩
  | snoc h hj ih =>
    refine ⟨fun d hd => ?_, fun d hd => ih.2 d (List.mem_of_mem_eraseIdx hd)⟩
    rcases List.mem_append.mp hd with q | q
    · exact ih.1 d q
    · rw [List.mem_singleton.mp q]
      exact ih.2 _ (List.getElem_mem hj)
theorem law_block (z : Bt mg) (hTk : Knw P w K mg base CX0 1 "_law_take" ["pot", "upto"] (SpQ K okTake)) (hSp : Knw P w K mg base CX0 1 "_law_spots" ["sides", "size"] (SpP K okSpots)) (hSo : Knw P w K mg base CX0 2 "_law_some" ["pot", "pool", "many"] (SpQ K okSome)) (hWd : Knw P w K mg base CX0 2 "_law_word" ["pot", "kinds", "sides", "seldom"] (SpQ K okWord))
    (F : Fun K "_law_block" "_law_block" (topS 32) f fd) : Gd P w K mg base CX0 3 f fd ["pot", "sides", "base", "kinds", "seldom"] (SpQ K okBlock) := by
  refine okQ F sc32 (fun ds c R ⟨_, _, _, _, e, _⟩ => by rw [e]; rfl) fun cdv A outer s H E p B ds c R n fm D0 ⟨S, b, k, v, e1, hs, b2, b4, k1, k8, v1, v2, e2, e3⟩ hz gu hr hC hw => ?_
  subst e1 e2 e3
  have hP : fm.C.P = some p := by rw [hC]
  have sl := spots_len (b := b) hs
  have sz := size_le hs b4
  have word : ∀ {X : Cx} {L : Ls} {δ : Dl} {m : Nat}, True := fun {_ _ _ _} => trivial
  refine r_set (m := n) 5 (e_callP hSp gu hr (by decide) (a_cons (e_var 1) (a_cons (e_var 2) a_nil)) ⟨S, b, hs, by omega, rfl, rfl⟩) ?_ sc32.nd
  refine r_setR (m := n + 1) 6 (R := fun sv => ∃ d, sv = .d d ∧ ∃ i : Int, d = .int i ∧ 0 ≤ i) (e_if (t_lt (e_lenL z.len (e_var 5)) e_int) (fun _ => e_imp (e_callQ hTk gu hr (by decide) hP (e_var 0) (a_cons e_int a_nil) ⟨6, rfl, by decide, by decide +kernel, rfl, rfl⟩ (by omega)) fun sv ⟨d, e, i, ei, h0, _⟩ => ⟨d, e, i, ei, h0⟩)
    (fun _ => e_imp (e_addIR e_int (e_callQ hTk gu hr (by decide) hP (e_var 0) (a_cons e_int a_nil) ⟨3, rfl, by decide, by decide +kernel, rfl, rfl⟩ (by omega))) fun sv ⟨d, e, j, ej, h0, _⟩ => ⟨d, e, 3 + j, ej, by omega⟩)) (fun sv ⟨d, q, wy, ew, w0⟩ => ?_) sc32.nd
  subst q ew
  refine r_ifR (t_lt (e_var 6) e_int) (fun h => ?_) (fun h => ?_)
  · refine r_ret (m := n + 1 + (spots S b).length * 4) hw (e_lcNR (i := 11) 4 (fun _ _ e => CellOk S k e) rfl sc32.nd (i_list (e_var 5)) (blkOk_by (own := [("spot", 11)]) (N := ["pot", "sides", "base", "kinds", "seldom", "spots", "way", "block", "at", "fill", "some", "spot"]) (sc := defScope (topS 32)) (by decide +kernel)) (fun _ _ _ _ _ => g_name 11 sc32.nd)
      (fun s' H' Cc cl fp D acc j d hd => ?_) (by omega)) fun sv ⟨es, e, h1, h2⟩ => ⟨by omega, _, e, es, rfl, by rw [h1, sl], fun d hd => ?_⟩
    · have hj := (List.getElem?_eq_some_iff.mp hd).1
      rw [show ∀ a : Nat, a + (j + 1) * 4 = a + j * 4 + 4 from fun a => by omega]
      exact e_callQ hWd gu hr (by decide) hP (e_var 0) (a_cons (e_var 3) (a_cons (e_var 1) (a_cons (e_var 4) a_nil))) ⟨k, S, v, rfl, k1, k8, hs, v1, v2, rfl, rfl⟩ (by omega)
    · obtain ⟨j, hj, rfl⟩ := List.mem_iff_getElem.mp hd
      exact h2 j _ _ (List.getElem?_eq_getElem (by rw [← h1]; exact hj)) (List.getElem?_eq_getElem hj)
  refine r_rep 7 e_non (e_lenL z.len (e_var 5)) ⟨by omega, by omega⟩ (fun D => ?_) sc32.nd
  have hb0 : BlockOk S b k (List.replicate (((spots S b).length : Nat) : Int).toNat PyData.none) := ⟨by rw [List.length_replicate, Int.toNat_natCast, sl], fun d hd => .inl (List.eq_of_mem_replicate hd)⟩
  refine r_ifR (t_eqI (e_var 6) e_int) (fun h => ?_) (fun h => ?_)
  · refine r_forX (m := n + 1 + 1 + 2) (tgd := .name 8) (Rd := fun fs => fs.length ≤ 2 ∧ ∀ d ∈ fs, ∃ j : Nat, d = .int (j : Nat) ∧ j < size S b)
      (fun i cf => ∃ bs, BlockOk S b k bs ∧ ∃ (m : Nat) (x1 : Option SV), m ≤ n + 4 + i * 4 ∧ cf = ⟨[(D, bs)], [some (.v (.ref p)), some (.d (.int (S : Nat))), some (.d (.int (b : Nat))), some (.d (.int (k : Nat))), some (.d (.int (v : Nat))), some (.d (.list (spots S b))), some (.d (.int wy)), some (.v (.ref D)), x1, none, none, none], m⟩)
      rfl PassesOwn.never (i_listX (e_imp (e_callQR (S := fun d => ∃ fs, d = .list fs ∧ (fs.length ≤ 2 ∧ ∀ d ∈ fs, ∃ j : Nat, d = .int (j : Nat) ∧ j < size S b)) (C := fm.C) hSo gu hr (by decide) hP (e_var 0) (ar_cons (e_listRg (i := ((spots S b).length : Nat)) z rfl ⟨by omega, by omega⟩ (e_lenL (ds := spots S b) z.len (e_var 5))) (ar_cons (e_addIR e_int (e_callQ (C := fm.C) hTk gu hr (by decide) hP (e_var 0) (a_cons e_int a_nil) ⟨2, rfl, by decide, by decide +kernel, rfl, rfl⟩ (by omega))) ar_nil)) (fun svs h => ?_) (by omega)) fun sv ⟨d, e, fs, ef, hf⟩ => ⟨fs, by rw [e, ef], hf⟩)) (g_name 8 sc32.nd) ⟨_, hb0, n + 1 + 1 + 2, none, by omega, rfl⟩ (fun i cf ⟨_, _, _, _, _, e⟩ => by rw [e]; rfl) ?_ ?_
    · obtain ⟨_, _, rfl, rfl, _, _, rfl, ⟨_, rfl, j, rfl, j0, j1⟩, rfl⟩ := h
      refine ⟨[_, _], fun d => ∃ fs ls, d = .list fs ∧ Picks (rangeD 0 (((spots S b).length : Nat) : Int).toNat) fs ls ∧ fs.length = (1 + j).toNat, (1 + j).toNat, rfl, by omega, ⟨_, (1 + j).toNat, by rw [show (((1 + j).toNat : Nat) : Int) = 1 + j by omega], ?_, ?_, rfl, rfl⟩, fun d ⟨fs, ls, e, hp, hl⟩ => ⟨fs, e, by omega, fun d hd => ?_⟩⟩
      · simp only [rangeD, List.length_map, List.length_range]
        have : 2 ≤ size S b := by
          rcases hs with rfl | rfl
          · exact b2
          · have := Nat.mul_le_mul b2 b2
            show 2 ≤ b * b
            omega
        omega
      · simp only [rangeD, List.length_map, List.length_range]
        omega
      · have := hp.sub.1 d hd
        rw [Int.toNat_natCast, range_ints] at this
        obtain ⟨j', hj', rfl⟩ := List.mem_map.mp this
        exact ⟨j', rfl, by rw [← sl]; exact List.mem_range.mp hj'⟩
    · rintro fs i d cf H1 ⟨hf1, hf2⟩ hd ⟨bs, hb, m, x1, hm, rfl⟩
      obtain ⟨j, rfl, hj⟩ := hf2 d (List.mem_of_getElem? hd)
      have hi : i < fs.length := (List.getElem?_eq_some_iff.mp hd).1
      refine ⟨_, rfl, ?_⟩
      refine r_itemR (S := CellOk S k) (e_callQ (C := fm.C) hWd gu hr (by decide) hP (e_var 0) (a_cons (e_var 3) (a_cons (e_var 1) (a_cons (e_var 4) a_nil))) ⟨k, S, v, rfl, k1, k8, hs, v1, v2, rfl, rfl⟩ (by show m + 4 ≤ 1000000; omega)) (e_var 7) (e_var 8) (ixN_at (by rw [hb.1]; exact hj)) fun d hd => r_end (J := _) ⟨_, set_ok hb hd, _, _, ?_, rfl⟩
      show m + 4 ≤ n + 4 + (i + 1) * 4
      omega
    · rintro fs cf ⟨hf1, hf2⟩ ⟨bs, hb, m, x1, hm, rfl⟩
      exact r_retM hw (e_var 7) List.mem_cons_self ⟨by omega, _, rfl, bs, rfl, hb⟩
  refine r_setR 9 (e_callQ (C := fm.C) hWd gu hr (by decide) hP (e_var 0) (a_cons (e_var 3) (a_cons (e_var 1) (a_cons (e_var 4) a_nil))) ⟨k, S, v, rfl, k1, k8, hs, v1, v2, rfl, rfl⟩ (by omega)) (fun sv ⟨fill, q, hfill⟩ => ?_) sc32.nd
  subst q
  refine r_lcFN (i := 11) (ds := spots S b) 10 (onIt wy) id rfl sc32.nd (i_list (e_var 5)) (blkOk_by (own := [("spot", 11)]) (N := ["pot", "sides", "base", "kinds", "seldom", "spots", "way", "block", "at", "fill", "some", "spot"]) (sc := defScope (topS 32)) (by decide +kernel)) (fun _ _ _ _ _ => g_name 11 sc32.nd)
    (fun s' H' Cc cl fp D acc d hd => ?_) (fun s' H' Cc cl fp D acc d hd hk => e_var 11) (by omega) ?_
  · rcases spots_form hs hd with ⟨a, rfl⟩ | ⟨a, c, rfl⟩
    · exact t_eqI (e_ixT (e_var 11) (e_int (i := 0))) (e_if (t_eqI (e_var 6) e_int) (fun h => e_eq (e_ixT (e_var 11) (e_neg e_int)) (by rw [if_pos (of_decide_eq_true h)])) (fun h => e_eq e_int (by rw [if_neg (of_decide_eq_false h)])))
    · exact t_eqI (e_ixT (e_var 11) (e_int (i := 0))) (e_if (t_eqI (e_var 6) e_int) (fun h => e_eq (e_ixT (e_var 11) (e_neg e_int)) (by rw [if_pos (of_decide_eq_true h)])) (fun h => e_eq e_int (by rw [if_neg (of_decide_eq_false h)])))
  refine r_forX (m := n + 1 + 4 + 1) (tgd := .name 11) (Rd := fun fs => ∀ d ∈ fs, d ∈ spots S b)
    (fun i cf => ∃ bs, BlockOk S b k bs ∧ ∃ (x1 x2 : Option SV), cf = ⟨[(D, bs)], [some (.v (.ref p)), some (.d (.int (S : Nat))), some (.d (.int (b : Nat))), some (.d (.int (k : Nat))), some (.d (.int (v : Nat))), some (.d (.list (spots S b))), some (.d (.int wy)), some (.v (.ref D)), none, some (.d fill), x1, x2], n + 1 + 4 + 1⟩)
    rfl PassesOwn.never (i_listX (e_ifX (x_gtI (e_callQ (C := fm.C) hTk gu hr (by decide) hP (e_var 0) (a_cons e_int a_nil) ⟨5, rfl, by decide, by decide +kernel, rfl, rfl⟩ (by omega)) e_int) (fun _ => e_imp (e_var 10) fun sv e => ⟨_, e.symm, fun d hd => ?_⟩) (fun _ => e_imp (e_var 5) fun sv e => ⟨_, e.symm, fun d hd => hd⟩))) (g_name 11 sc32.nd) ⟨_, hb0, _, none, rfl⟩ (fun i cf ⟨_, _, _, _, e⟩ => by rw [e]; rfl) ?_ ?_
  · rw [List.map_id] at hd
    exact (List.mem_filter.mp hd).1
  · rintro fs i d cf H1 hf hd ⟨bs, hb, x1, x2, rfl⟩
    have hd := hf d (List.mem_of_getElem? hd)
    have hsp := spot_in hs b2 b4 hd
    refine ⟨_, rfl, ?_⟩
    refine r_item (e_var 9) (e_var 7) (e_dindexL hr (spots_shaped hs b2 b4) (e_var 5) (e_var 11) hsp.1 hsp.2) (ixN_at (j := ((spots S b).map fun z => PyData.eqv z d).idxOf true) ?_) (r_end (J := _) ⟨_, set_ok hb hfill, _, _, rfl⟩)
    rw [hb.1, ← sl, ← List.length_map (f := fun z => PyData.eqv z d)]
    exact List.idxOf_lt_length_iff.mpr hsp.2
  · rintro fs cf hf ⟨bs, hb, x1, x2, rfl⟩
    exact r_retM hw (e_var 7) List.mem_cons_self ⟨by omega, _, rfl, bs, rfl, hb⟩
/-! _law_made: a drawn book of one's own -/
theorem sc33 : FnScope ["pot", "sides", "base", "kinds", "seldom", "blocks", "kind"] ["pot", "sides", "base", "kinds", "seldom"] (defScope (topS 33)) := ⟨rfl, rfl, rfl, by decide +kernel, rfl, by decide +kernel, by decide +kernel⟩
/-- a book of one's own: so many sides, base; names and blocks of its kinds -/
structure Own where
  s : Nat
  b : Nat
  ns : List Str
  bl : List (List PD)
def Own.kvs (o : Own) : List (Str × PD) := [("sides", .int (o.s : Nat)), ("base", .int (o.b : Nat)), ("names", .list (o.ns.map PyData.str)), ("blocks", .list (o.bl.map PyData.list))]
abbrev Own.ob (o : Own) : Ob := obD o.kvs
structure OwnOk (o : Own) : Prop where
  s : o.s = 1 ∨ o.s = 2
  b : 2 ≤ o.b ∧ o.b ≤ 4
  ns : Nms o.ns
  k : 1 ≤ o.ns.length ∧ o.ns.length ≤ 8
  len : o.bl.length = o.ns.length
  bl : ∀ bs ∈ o.bl, BlockOk o.s o.b o.ns.length bs
def okMade : List SV → Nat → (SV → Prop) → Prop := fun ds c R => ∃ s b k v : Nat, ds = [.d (.int (s : Nat)), .d (.int (b : Nat)), .d (.int (k : Nat)), .d (.int (v : Nat))] ∧ (s = 1 ∨ s = 2) ∧ 2 ≤ b ∧ b ≤ 4 ∧ 1 ≤ k ∧ k ≤ 8 ∧ 1 ≤ v ∧ v ≤ 100 ∧ c = 1000 ∧ R = fun sv => ∃ o, sv = .o (Own.ob o) ∧ OwnOk o ∧ o.s = s ∧ o.b = b ∧ o.ns.length = k
theorem lists_of {s b k : Nat} : ∀ es : List PD, (∀ e ∈ es, ∃ bs, e = .list bs ∧ BlockOk s b k bs) → ∃ bl : List (List PD), es = bl.map PyData.list ∧ bl.length = es.length ∧ ∀ bs ∈ bl, BlockOk s b k bs
  | [], _ => ⟨[], rfl, rfl, fun _ h => absurd h List.not_mem_nil⟩
  | e :: es, h => by
    obtain ⟨bs, e1, h1⟩ := h e List.mem_cons_self
    obtain ⟨bl, e2, h2, h3⟩ := lists_of es fun d hd => h d (List.mem_cons_of_mem _ hd)
    refine ⟨bs :: bl, by rw [e1, e2]; rfl, by rw [List.length_cons, List.length_cons, h2], fun c hc => ?_⟩
    rcases List.mem_cons.mp hc with z | z
    · rw [z]
      exact h1
    · exact h3 c z
theorem law_made (z : Bt mg) (hBl : Knw P w K mg base CX0 3 "_law_block" ["pot", "sides", "base", "kinds", "seldom"] (SpQ K okBlock)) (hNm : Knw P w K mg base CX0 3 "_law_names" ["pot", "many"] (SpQ K okNames))
    (F : Fun K "_law_made" "_law_made" (topS 33) f fd) : Gd P w K mg base CX0 4 f fd ["pot", "sides", "base", "kinds", "seldom"] (SpW K okMade) := by
  refine okW F sc33 (fun ds c R ⟨_, _, _, _, e, _⟩ => by rw [e]; rfl) fun cdv A outer s H E p B ds c R n fm D0 ⟨S, b, k, v, e1, hs, b2, b4, k1, k8, v1, v2, e2, e3⟩ hz gu hr hC hw => ?_
  subst e1 e2 e3
  have hP : fm.C.P = some p := by rw [hC]
  refine r_ps (p_lcNR (i := 6) 5 100 (fun _ _ e => ∃ bs, e = .list bs ∧ BlockOk S b k bs) rfl sc33.nd (i_rangeN (y := k) z.range (e_var 3) (by omega)) (blkOk_by (own := [("kind", 6)]) (N := ["pot", "sides", "base", "kinds", "seldom", "blocks", "kind"]) (sc := defScope (topS 33)) (by decide +kernel)) (fun _ _ _ _ _ => g_name 6 sc33.nd)
    (fun s' H' Cc cl fp D acc j d hd => ?_) (by rw [List.length_map, List.length_range]; omega)) (fun sv ⟨es, q, hl, hb⟩ => ?_)
  · have hj : j < k := by
      have := (List.getElem?_eq_some_iff.mp hd).1
      simpa using this
    rw [show ∀ a : Nat, a + (j + 1) * 100 = a + j * 100 + 100 from fun a => by omega]
    exact e_callQ hBl gu hr (by decide) hP (e_var 0) (a_cons (e_var 1) (a_cons (e_var 2) (a_cons (e_var 3) (a_cons (e_var 4) a_nil)))) ⟨S, b, k, v, rfl, hs, b2, b4, k1, k8, v1, v2, rfl, rfl⟩ (by omega)
  subst q
  obtain ⟨bl, rfl, hl2, hb2⟩ := lists_of (s := S) (b := b) (k := k) es fun e he => by
    obtain ⟨j, hj, rfl⟩ := List.mem_iff_getElem.mp he
    exact hb j _ _ (List.getElem?_eq_getElem (by rw [← hl]; exact hj)) (List.getElem?_eq_getElem hj)
  have hl : bl.length = k := by
    rw [hl2]
    simpa using hl
  have hb := hb2
  rw [List.length_map, List.length_range]
  refine r_ret (m := n + k * 100 + k * 20) hw (e_disp4 (R1 := fun d => d = .int (S : Nat)) (R2 := fun d => d = .int (b : Nat)) (R3 := fun d => ∃ ns : List Str, d = .list (ns.map PyData.str) ∧ ns.length = k ∧ Nms ns) (R4 := fun d => d = .list (bl.map PyData.list)) (by decide +kernel) (e_imp (e_var 1) fun sv e => ⟨_, e.symm, rfl⟩) (e_imp (e_var 2) fun sv e => ⟨_, e.symm, rfl⟩)
    (e_callQ hNm gu hr (by decide) hP (e_var 0) (a_cons (e_var 3) a_nil) ⟨k, rfl, k8, rfl, rfl⟩ (by omega)) (e_imp (e_var 5) fun sv e => ⟨_, e.symm, rfl⟩)) fun sv ⟨d1, d2, d3, d4, e, h1, h2, ⟨ns, h3, hn, hN⟩, h4⟩ => ⟨by omega, ⟨S, b, ns, bl⟩, ?_, ⟨hs, ⟨b2, b4⟩, hN, by show 1 ≤ ns.length ∧ ns.length ≤ 8; omega, by show bl.length = ns.length; omega, by show ∀ bs ∈ bl, BlockOk S b ns.length bs; rw [hn]; exact hb⟩, rfl, rfl, hn⟩
  rw [e, h1, h2, h3, h4]
  rfl
end
end N0
namespace Wk
open PySem PySem.Spec PyProof.Rows L2
/-- (x, y), (x', y'), .. as long as there are both -/
def zipD (ds fs : List PD) : List PD := (ds.zip fs).map fun z => .tuple [z.1, z.2]
theorem goes_zip {K : PySem.W.Frag} {B : List Addr} {H : Hp} {a b : Addr} {xs ys : List V} {ds fs : List PD} (r : RdL K B H a xs) (g : DvAll K B H xs ds) (r' : RdL K B H b ys) (g' : DvAll K B H ys fs) : Goes K B (Itz K a b) (zipD ds fs) H := by
  refine ⟨fun B H => (RdL K B H a xs ∧ DvAll K B H xs ds) ∧ RdL K B H b ys ∧ DvAll K B H ys fs, ⟨⟨r, g⟩, r', g'⟩, fun B H p h f => ⟨⟨h.1.1.grow f, h.1.2.grow f⟩, h.2.1.grow f, h.2.2.grow f⟩, fun B H H' h k => ⟨⟨h.1.1.keep k, h.1.2.keep k⟩, h.2.1.keep k, h.2.2.keep k⟩, fun B => ?_⟩
  refine (walk_zip (n := (zipD ds fs).length) (xs := xs) (ys := ys) (by rw [g.length, g'.length]; simp [zipD])).mono (fun H h => ⟨h.1.1.sq, h.2.1.sq⟩) fun i H x H' hi h y kn => ?_
  obtain ⟨T, y1, y2, rfl, nT, rfl, e1, e2⟩ := y
  obtain ⟨d, e3, hd⟩ := h.1.2.vget e1
  obtain ⟨f, e4, hf⟩ := h.2.2.vget e2
  have sm := same_new (o := .tup [y1, y2]) nT
  refine ⟨sm, .tuple [d, f], ?_, .tup (.inl ⟨fun z => kn _ z nT, .inl upd_same⟩) (.cons (hd.keep (.same sm)) (.cons (hf.keep (.same sm)) .nil))⟩
  unfold zipD
  rw [List.getElem?_map, (List.getElem?_zip_eq_some (z := (d, f))).mpr ⟨e3, e4⟩]
  rfl
section
variable {X : Cx} {C : Ct} {L : Ls} {δ : Dl} {n m k : Nat} {a b c e o tg : Expr} {es : List Expr} {pos p : Pos} {ds fs : List PD} {d : PD} {s : Str}
theorem i_zip {elts : List Expr} {kk : Nat} {tpos : Pos} (hm : X.mg "zip" = none) (h : Ed X C L δ a n m (.list ds)) (h' : Ed X C L δ b m k (.list fs)) (hg : Gl X "zip" := by rfl) (hs : starEach [a, b] X.env = (false, eval a X.env) :: starEach [b] X.env := by rfl) (hs2 : starEach [b] X.env = (false, eval b X.env) :: starEach [] X.env := by rfl) (hpl : (backTo pos (starEach [b] X.env)).any (·.1) = false := by rfl) :
    Wi X C L δ (.Tuple elts kk tpos) (.Call (.Name "zip" p) [a, b] [] pos) n k (zipD ds fs) := PI.imp (pi_zip hg hm (a_cons h (a_cons h' a_nil hs2) hs) hs hpl) fun σ H R ⟨t, q⟩ => ⟨t, fun vs H2 svs k1 h1 e1 s1 => by
  subst e1
  obtain ⟨v, w, rfl, g, g'⟩ := DvAll.two s1
  cases g with
  | lst r gx =>
    cases g' with
    | lst r' gy => exact ⟨_, _, _, _, rfl, r.sq, r'.sq, q _ H2 k1 h1 (goes_zip r gx r' gy)⟩⟩
def stepD (lo c : Int) (n : Nat) : List PD := (List.range n).map fun i => .int (lo + (i : Nat) * c)
theorem goes_step {K : PySem.W.Frag} {B : List Addr} {H : Hp} {lo c : Int} {n : Nat} : Goes K B (Itc lo c n) (stepD lo c n) H := by
  refine ⟨fun _ _ => True, trivial, fun _ _ _ _ _ => trivial, fun _ _ _ _ _ => trivial, fun B => ?_⟩
  rw [show (stepD lo c n).length = n by simp [stepD]]
  exact walk_rangeC.mono (fun _ h => h) fun i H x H' hi h y kn => by
    obtain ⟨rfl, rfl⟩ := y
    exact ⟨.refl _, .int (lo + (i : Nat) * c), by simp [stepD, hi], .int _⟩
theorem t_chain {da db dc : PD} {op op' : CmpOp} {r r' : R2} {u v : Bool} (ho : OpR X (compareOp op) r) (ho' : OpR X (compareOp op') r') (h1 : V2 X.K C L n r da db (.bool u)) (h2 : V2 X.K C L n r' db dc (.bool v))
    (ha : Ed X C L δ a n n da) (hb : Ed X C L δ b n n db) (hc : u = true → Ed X C L δ c n n dc) (hm : lastMarks [op, op'] [b, c] = false := by with_unfolding_all rfl) : T X C L δ (.Compare a [op, op'] [b, c] pos) n n (u && v) := by
  cases u with
  | false =>
    have hF : PE X c (fun _ _ _ => False) := ⟨fun _ _ _ _ _ _ h => h.elim⟩
    refine PT.imp (pt_chain ho ho' ha hb hF hm) fun σ H Q ⟨t, q⟩ => ⟨t, fun v1 H2 sv k1 g1 e1 s1 => ⟨t.go k1 g1, fun u1 H3 su k2 g2 e2 s2 => ?_⟩⟩
    subst e1 e2
    refine h1 v1 u1 H3 _ g2 (Dv.keep s1 (k2.wider bs_bd)) s2 fun z H4 s z' => ?_
    cases z'
    exact ⟨false, rfl, iteF ⟨_, rfl, q H4 (k1.trans (k2.trans (.same s))) (g2.same s)⟩⟩
  | true =>
    refine PT.imp (pt_chain ho ho' ha hb (hc rfl) hm) fun σ H Q ⟨t, q⟩ => ⟨t, fun v1 H2 sv k1 g1 e1 s1 => ⟨t.go k1 g1, fun u1 H3 su k2 g2 e2 s2 => ?_⟩⟩
    subst e1 e2
    refine h1 v1 u1 H3 _ g2 (Dv.keep s1 (k2.wider bs_bd)) s2 fun z H4 s z' => ?_
    cases z'
    refine ⟨true, rfl, iteT ⟨(t.go k1 g1).go (k2.trans (.same s)) (g2.same s), fun w1 H5 sw k3 g3 e3 s3 => ?_⟩⟩
    subst e3
    refine h2 u1 w1 H5 _ g3 (Dv.keep s2 ((Keep.same s).trans (k3.wider bs_bd))) s3 fun z H6 s' z' => ?_
    cases z'
    exact ⟨_, rfl, q H6 (k1.trans (k2.trans ((Keep.same s).trans (k3.trans (.same s'))))) (g3.same s')⟩
theorem ad_nil : Ad X C L δ [] n n [] := PA.imp ar_nil fun σ H Q ⟨t, q⟩ => ⟨t, fun vs H2 svs k1 h1 e1 s1 => q vs H2 svs k1 h1 e1.symm s1⟩
theorem ad_cons {sa : SV} {ss : List SV} (h : E X C L δ e n m (Eq sa)) (g : Ad X C L δ es m k ss) (he : starEach (e :: es) X.env = (false, eval e X.env) :: starEach es X.env := by rfl) : Ad X C L δ (e :: es) n k (sa :: ss) :=
  PA.imp (ar_cons h g he) fun σ H Q ⟨t, q⟩ => ⟨t, fun vs H2 svs k1 h1 e1 s1 => q vs H2 svs k1 h1 (by
    obtain ⟨s, r, e2, e3, e4⟩ := e1
    rw [e2, e3, e4]) s1⟩
theorem i_range3 {i j l : Int} {cnt : Nat} {k2 : Nat} (hm : X.mg "range" = none) (ha : Ed X C L δ a n m (.int i)) (hb : Ed X C L δ b m k (.int j)) (hc : Ed X C L δ c k k2 (.int l)) (hr : RgC i j l cnt) (hg : Gl X "range" := by rfl)
    (hs : starEach [a, b, c] X.env = (false, eval a X.env) :: starEach [b, c] X.env := by rfl) (hs2 : starEach [b, c] X.env = (false, eval b X.env) :: starEach [c] X.env := by rfl) (hs3 : starEach [c] X.env = (false, eval c X.env) :: starEach [] X.env := by rfl) (hpl : (backTo pos (starEach [b, c] X.env)).any (·.1) = false := by rfl) :
    Wi X C L δ tg (.Call (.Name "range" p) [a, b, c] [] pos) n k2 (stepD i l cnt) := PI.imp (pi_range3 hg hm (a_cons ha (a_cons hb (a_cons hc a_nil hs3) hs2) hs) hs hpl) fun σ H R ⟨t, q⟩ => ⟨t, fun vs H2 svs k1 h1 e1 s1 => by
  subst e1
  have g := s1.data
  have e : vs = [.int i, .int j, .int l] := DvAll.ints (ns := [i, j, l]) g
  subst e
  exact ⟨i, j, l, cnt, rfl, hr, q _ H2 k1 h1 goes_step⟩⟩
/-- sep.join(a list that is being filled) -/
theorem e_joinM {r : Addr} {ss : List Str} {apos cpos : Pos} (hl : (r, Cont.lst (ss.map PyData.str)) ∈ L) (ho : Ed X C L δ o n m (.str s)) (ha : Ev X C L δ a m k (.ref r)) (hz : (ss.map (·.length)).sum + ss.length * s.length ≤ 100000)
    (hs : starEach [a] X.env = [(false, eval a X.env)] := by rfl) (hbase : attributeBase o "join" X.env (eval o X.env) = eval o X.env := by rfl) (hline : (apos.endLine == cpos.line) = true := by rfl) :
    Ed X C L δ (.Call (.Attribute o "join" apos) [a] [] cpos) n k (.str (Txt.join s ss)) :=
  PE.imp (pe_join ho ha hs hbase hline) fun σ H Q ⟨t, q⟩ => ⟨t, fun v H2 sv k1 h1 e1 s1 => by
    subst e1
    cases s1
    refine ⟨⟨_, rfl⟩, t.go k1 h1, fun w H3 sw k2 h2 e2 s2 => ?_⟩
    subst e2
    have e0 : w = .ref r := s2
    subst e0
    obtain ⟨xs, hx, gx⟩ := h2.ls r _ hl
    have e := gx.strs
    subst e
    exact ⟨s, r, ss, rfl, rfl, .inl (.inl (.inl hx)), Nat.le_trans hz (by decide), q _ H3 _ (k1.trans k2) h2 rfl (Dv.str _)⟩⟩
end
section
variable {X : Cx} {F : Fm} {L : Ls} {δ : Dl} {n m k : Nat} {D0 : Ends} {rest : List Stmt} {x y : Str} {pos p q : Pos} {a : Expr} {d : PD}
/-- x = [e], to be filled further -/
theorem r_new1 {S : PD → Prop} (i : Nat) (ha : E X F.C L δ a n m (fun sv => ∃ d, sv = .d d ∧ S d)) (g : ∀ D d, S d → Bk X F ⟨(D, [d]) :: L, δ.set i (some (.v (.ref D))), m⟩ D0 rest) (hN : X.N.Nodup) (hi : X.N[i]? = some x := by rfl) (hx : Loc X.env.scope x := by first | exact Or.inl rfl | exact Or.inr rfl)
    (hst : starEach [a] X.env = (false, eval a X.env) :: starEach [] X.env := by rfl) (hs : swapsWith (.List [a] p) (some (.Name x q)) pos.line X.env = pure false := by rfl) (hf : X.fn x = true ∨ X.env.scope.names.lookup x = some .local := by first | exact .inl rfl | exact .inr rfl) : Bk X F ⟨L, δ, n⟩ D0 (.Assign [.Name x q] (.List [a] p) pos :: rest) :=
  r_cons (fun c' => ∃ D d, S d ∧ c' = ⟨(D, [d]) :: L, δ.set i (some (.v (.ref D))), m⟩) (PS.imp (ps_set hN hi hx (pe_lst (ar_cons ha ar_nil hst)) hs hf) fun D σ H ⟨le, ii⟩ => ⟨ii.at_, fun vs H2 svs k1 h1 r1 s1 => by
    obtain ⟨sv, r, rfl, ⟨d, rfl, hd⟩, rfl⟩ := r1
    obtain ⟨w, rfl, gw⟩ := DvAll.one (d := d) s1
    refine ⟨(by show 1 ≤ sizeLine; decide), fun r nr => ?_⟩
    have i1 := (ii.go k1 h1).push nr (.cons gw .nil)
    exact le.nx _ _ ⟨_, ⟨r, d, hd, rfl⟩, i1.slots ⟨i1.at_.sl.set (sv := .v (.ref r)) rfl, i1.at_.hold⟩⟩⟩) fun c' ⟨D, d, hd, ec⟩ => by subst ec; exact g D d hd
end
end Wk
namespace N0
open PySem PySem.Spec PyProof.Rows L2 Wk
/-- the word of a cell -/
def cellT (o : Own) : PD → Str
  | .none => "."
  | .tuple [.int a, .int m] => o.ns.getD a.toNat "" ++ (if 0 < m then ("/" : Str) ++ (toString m : Str) else ("" : Str))
  | _ => "#"
theorem find_sides (o : Own) : findD o.kvs "sides" = some (.int (o.s : Nat)) := rfl
theorem find_base (o : Own) : findD o.kvs "base" = some (.int (o.b : Nat)) := rfl
theorem find_names (o : Own) : findD o.kvs "names" = some (.list (o.ns.map PyData.str)) := rfl
theorem find_blocks (o : Own) : findD o.kvs "blocks" = some (.list (o.bl.map PyData.list)) := rfl
theorem mo_len {m : Nat} (h : m < 8) : (toString ((m : Nat) : Int) : Str).length = 1 := by
  have : ∀ m : Nat, m < 8 → (toString ((m : Nat) : Int) : Str).length = 1 := by decide +kernel
  exact this m h
theorem mo_len2 {m : Nat} (h : m < 8) : (if (0 : Int) < ((m : Nat) : Int) then ("/" : Str) ++ toString ((m : Nat) : Int) else "").length ≤ 2 := by
  split
  · rw [app_len, mo_len h]
    exact Nat.le_refl _
  · exact Nat.zero_le _
theorem cellT_at (o : Own) (a m : Nat) : cellT o (.tuple [.int (a : Nat), .int (m : Nat)]) = o.ns.getD a "" ++ (if (0 : Int) < ((m : Nat) : Int) then ("/" : Str) ++ (toString ((m : Nat) : Int) : Str) else ("" : Str)) := rfl
theorem sh_str {s : Str} (h : PyData.strOk s = true) : SeqAt.shaped (.str s) = true := by
  show (PyData.canLay0 (.str s) && decide ((PyData.str s).depth ≤ 64)) = true
  rw [Bool.and_eq_true]
  exact ⟨by simp only [PyData.canLay0]; exact h, decide_eq_true (Nat.zero_le _)⟩
theorem sh_two (a b : Int) : SeqAt.shaped (.tuple [.int a, .int b]) = true := by
  show (PyData.canLay0 (.tuple [.int a, .int b]) && decide ((PyData.tuple [.int a, .int b]).depth ≤ 64)) = true
  rw [Bool.and_eq_true]
  exact ⟨by simp only [PyData.canLay0, PyData.canLayAll0, Bool.and_self], decide_eq_true (Nat.le_of_ble_eq_true rfl)⟩
section
variable {P : Program} {w : World} {K : PySem.W.Frag} {mg : Str → Option Value} {base : Heap} {f : Addr} {fd : FuncData}
theorem sc34 : FnScope ["own", "cell"] ["own", "cell"] (defScope (topS 34)) := ⟨rfl, rfl, rfl, by decide +kernel, rfl, by decide +kernel, by decide +kernel⟩
def okCT : List SV → (SV → Prop) → Prop := fun ds R => ∃ (o : Own) (d : PD), ds = [.o (Own.ob o), .d d] ∧ OwnOk o ∧ CellOk o.s o.ns.length d ∧ R = Eq (SV.d (.str (cellT o d)))
theorem mo_lt {s m : Nat} (h : m < many s) : m < 8 := by
  unfold many at h
  split at h <;> omega
theorem law_cell_text (z : Bt mg) (F : Fun K "_law_cell_text" "_law_cell_text" (topS 34) f fd) : Gd P w K mg base CX0 1 f fd ["own", "cell"] (SpV K okCT) := by
  refine okV F sc34 (fun ds R ⟨_, _, e, _⟩ => by rw [e]; rfl) fun cdv A outer s H E B ds R fm D0 ⟨o, d, e1, ho, hd, e2⟩ gu hr hC hw => ?_
  subst e1 e2
  rcases hd with rfl | rfl | ⟨a, m, rfl, ha, hm⟩
  · exact r_ifT (m := 0) (t_isN (e_var 1)) rfl (r_ret hw e_str fun sv e => e)
  · exact r_ifF (m := 0) (t_isN (e_var 1)) rfl (r_ifT (m := 0) (t_eqD (da := .str "full") hr (sh_str (by decide +kernel)) (sh_str (by decide +kernel)) (e_var 1) e_str) (by decide +kernel) (r_ret hw e_str fun sv e => e))
  · refine r_ifF (m := 0) (t_isN (e_var 1)) rfl (r_ifF (m := 0) (t_eqD hr (sh_two _ _) (sh_str (by decide +kernel)) (e_var 1) e_str) (by rfl) ?_)
    have hm8 := mo_lt hm
    have hin : a < (o.ns.map PyData.str).length := by rw [List.length_map]; exact ha
    have hget : atI (o.ns.map PyData.str) ((a : Nat) : Int) = some (.str (o.ns.getD a "")) := by
      refine atI_nat ?_
      rw [List.getElem?_map, List.getElem?_eq_getElem ha]
      simp [List.getD, ha]
    have hnm : (o.ns.getD a "").length ≤ 8 := by
      have : o.ns.getD a "" ∈ o.ns := by
        simp [List.getD, ha]
      exact (ho.ns.ok _ this).2.1
    refine r_ret (m := 0) hw (e_addS (s := o.ns.getD a "") (t := if (0 : Int) < ((m : Nat) : Int) then ("/" : Str) ++ (toString ((m : Nat) : Int) : Str) else ("" : Str)) (e_ixL (e_dget hr (e_var 0) (find_names o)) (e_ixT (e_var 1) (e_int (i := 0))) hget) (e_if (t_gt (e_ixT (e_var 1) (e_int (i := 1))) e_int) (fun h => e_eq (e_addS e_str (e_strI z.str (e_intI z.int (e_ixT (e_var 1) (e_int (i := 1)))) ?_) ?_) ?_) (fun h => e_eq e_str ?_)) ?_) fun sv e => (by rw [← e, cellT_at])
    · exact Nat.lt_of_lt_of_le (log_small (Nat.lt_of_lt_of_le (show _ < 8 by omega) (by decide +kernel))) (by decide)
    · rw [mo_len hm8]
      decide
    · rw [if_pos (of_decide_eq_true h)]
    · rw [if_neg (of_decide_eq_false h)]
    · have := mo_len2 hm8
      omega
end
end N0
namespace N0
open PySem PySem.Spec PyProof.Rows L2 Wk
/-! ### the text of a book -/
def head (o : Own) : Str := (if o.s = 2 then ("plane " : Str) else ("line " : Str)) ++ (toString ((o.b : Nat) : Int) : Str)
def cnt (o : Own) : Nat := if o.s = 1 then 1 else o.b
def rowT (o : Own) (bs : List PD) (r : Nat) : Str := Txt.join " " (((bs.map (cellT o)).drop (r * o.b)).take o.b)
def rows (o : Own) (bs : List PD) : List Str := (List.range (cnt o)).map (rowT o bs)
def kindT (o : Own) (z : Str × List PD) : List Str := (("kind " : Str) ++ z.1) :: rows o z.2
def linesTo (o : Own) (i : Nat) : List Str := head o :: ((o.ns.zip o.bl).take i).flatMap (kindT o)
def bookT (o : Own) : Str := Txt.join "\n" (linesTo o o.ns.length)
theorem rg_ok {s b : Nat} (hs : s = 1 ∨ s = 2) (h2 : 2 ≤ b) (h4 : b ≤ 4) : RgC 0 ((size s b : Nat) : Int) ((b : Nat) : Int) (if s = 1 then 1 else b) :=
  combos (p := fun s b => RgC 0 ((size s b : Nat) : Int) ((b : Nat) : Int) (if s = 1 then 1 else b)) hs h2 h4 ⟨⟨by decide, by decide, by rfl, by rfl⟩, ⟨by decide, by decide, by rfl, by rfl⟩, ⟨by decide, by decide, by rfl, by rfl⟩, ⟨by decide, by decide, by rfl, by rfl⟩, ⟨by decide, by decide, by rfl, by rfl⟩, ⟨by decide, by decide, by rfl, by rfl⟩⟩
theorem cellT_len {o : Own} (ho : OwnOk o) {d : PD} (hd : CellOk o.s o.ns.length d) : (cellT o d).length ≤ 10 := by
  rcases hd with rfl | rfl | ⟨a, m, rfl, ha, hm⟩
  · exact Nat.le_of_ble_eq_true rfl
  · exact Nat.le_of_ble_eq_true rfl
  · rw [cellT_at, app_len]
    have := mo_len2 (mo_lt hm)
    have : o.ns.getD a "" ∈ o.ns := by simp [List.getD, ha]
    have := (ho.ns.ok _ this).2.1
    omega
theorem sum_le {α : Type} {g : α → Nat} {c : Nat} : ∀ l : List α, (∀ a ∈ l, g a ≤ c) → (l.map g).sum ≤ l.length * c
  | [], _ => Nat.zero_le _
  | a :: l, h => by
    rw [List.map_cons, List.sum_cons, List.length_cons, Nat.succ_mul]
    have h1 := h a List.mem_cons_self
    have h2 := sum_le l fun b hb => h b (List.mem_cons_of_mem _ hb)
    omega
theorem joinL_len (sp : List Nat) : ∀ ps : List (List Nat), (TL.joinL sp ps).length ≤ (ps.map List.length).sum + ps.length * sp.length
  | [] => Nat.zero_le _
  | [p] => by
    show p.length ≤ (p.length + 0) + 1 * sp.length
    omega
  | p :: q :: r => by
    show (p ++ (sp ++ TL.joinL sp (q :: r))).length ≤ _
    have := joinL_len sp (q :: r)
    rw [List.length_append, List.length_append, List.map_cons, List.sum_cons, List.length_cons, Nat.succ_mul]
    omega
theorem join_len (sp : Str) (ss : List Str) : (Txt.join sp ss).length ≤ (ss.map (·.length)).sum + ss.length * sp.length := by
  rw [str_len, TL.join_eq]
  have e := TL.tl_join sp ss
  show (TL.tl (Str.join sp ss)).length ≤ _
  rw [e]
  have := joinL_len (TL.tl sp) (ss.map TL.tl)
  rw [List.map_map, List.length_map] at this
  have e2 : (List.length ∘ TL.tl) = fun s : Str => s.length := by
    funext s
    exact (str_len s).symm
  rw [e2] at this
  have e3 : (TL.tl sp).length = sp.length := (str_len sp).symm
  rw [e3] at this
  exact this
theorem take_sub {α : Type} {l : List α} {i j : Nat} {a : α} (h : a ∈ (l.drop i).take j) : a ∈ l := List.mem_of_mem_drop (List.mem_of_mem_take h)
theorem row_sum {o : Own} (ho : OwnOk o) {bs : List PD} (hb : BlockOk o.s o.b o.ns.length bs) (r : Nat) : ((((bs.map (cellT o)).drop (r * o.b)).take o.b).map (·.length)).sum + (((bs.map (cellT o)).drop (r * o.b)).take o.b).length * 1 ≤ 50 := by
  have h1 := sum_le (g := fun s : Str => s.length) (c := 10) (((bs.map (cellT o)).drop (r * o.b)).take o.b) fun s hs => by
    obtain ⟨d, hd, rfl⟩ := List.mem_map.mp (take_sub hs)
    exact cellT_len ho (hb.2 d hd)
  have h2 : (((bs.map (cellT o)).drop (r * o.b)).take o.b).length ≤ 4 := by
    have := List.length_take_le o.b ((bs.map (cellT o)).drop (r * o.b))
    have := ho.b.2
    omega
  omega
theorem row_len {o : Own} (ho : OwnOk o) {bs : List PD} (hb : BlockOk o.s o.b o.ns.length bs) (r : Nat) : (rowT o bs r).length ≤ 50 :=
  Nat.le_trans (join_len " " _) (row_sum ho hb r)
theorem cut_nat {ds : List PD} {i b : Nat} : Wk.cutD ds (some ((i : Nat) : Int)) (some (((i + b : Nat)) : Int)) = (ds.drop i).take b := by
  unfold Wk.cutD
  rw [HT.sIx_nat, HT.sIx_nat]
  by_cases h : i ≤ ds.length
  · rw [Nat.min_eq_left h]
    by_cases h2 : i + b ≤ ds.length
    · rw [Nat.min_eq_left h2, Nat.add_sub_cancel_left]
    · rw [Nat.min_eq_right (by omega), List.take_of_length_le (by rw [List.length_drop]; omega), List.take_of_length_le (by rw [List.length_drop]; omega)]
  · have e1 : min i ds.length = ds.length := Nat.min_eq_right (by omega)
    have e2 : min (i + b) ds.length = ds.length := Nat.min_eq_right (by omega)
    rw [e1, e2, List.drop_of_length_le (Nat.le_refl _), List.drop_of_length_le (show ds.length ≤ i by omega), List.take_nil, List.take_nil]
theorem cut_row {ws : List Str} {r b : Nat} : Wk.cutD (ws.map PyData.str) (some ((0 : Int) + ((r : Nat) : Int) * ((b : Nat) : Int))) (some ((0 : Int) + ((r : Nat) : Int) * ((b : Nat) : Int) + ((b : Nat) : Int))) = ((ws.drop (r * b)).take b).map PyData.str := by
  have e1 : (0 : Int) + ((r : Nat) : Int) * ((b : Nat) : Int) = ((r * b : Nat) : Int) := by
    rw [Int.zero_add, Int.natCast_mul]
  have e2 : (0 : Int) + ((r : Nat) : Int) * ((b : Nat) : Int) + ((b : Nat) : Int) = ((r * b + b : Nat) : Int) := by
    rw [e1, Int.natCast_add]
  rw [e2, e1, cut_nat, List.map_take, List.map_drop]
section
variable {P : Program} {w : World} {K : PySem.W.Frag} {mg : Str → Option Value} {base : Heap} {f : Addr} {fd : FuncData}
theorem sc35 : FnScope ["own", "lines", "name", "block", "words", "row", "cell"] ["own"] (defScope (topS 35)) := ⟨rfl, rfl, rfl, by decide +kernel, rfl, by decide +kernel, by decide +kernel⟩
def okText : List SV → (SV → Prop) → Prop := fun ds R => ∃ o : Own, ds = [.o (Own.ob o)] ∧ OwnOk o ∧ R = Eq (SV.d (.str (bookT o)))
theorem lines_next {o : Own} {i : Nat} {z : Str × List PD} (h : (o.ns.zip o.bl)[i]? = some z) : linesTo o (i + 1) = linesTo o i ++ kindT o z := by
  unfold linesTo
  rw [take_next h, List.flatMap_append]
  simp
theorem zip_ok {o : Own} (ho : OwnOk o) {z : Str × List PD} (h : z ∈ o.ns.zip o.bl) : Nm z.1 ∧ BlockOk o.s o.b o.ns.length z.2 := by
  obtain ⟨a, b⟩ := z
  have := List.of_mem_zip h
  exact ⟨ho.ns.ok _ this.1, ho.bl _ this.2⟩
theorem cnt_le {o : Own} (ho : OwnOk o) : cnt o ≤ 4 := by
  have := ho.b.2
  unfold cnt
  split <;> omega
theorem head_len {o : Own} (ho : OwnOk o) : (head o).length ≤ 60 := by
  have := ho.b
  unfold head
  rw [app_len, mo_len (by omega)]
  split <;> decide
theorem line_len {o : Own} (ho : OwnOk o) {i : Nat} : ∀ s ∈ linesTo o i, s.length ≤ 60 := fun s hs => by
  rcases List.mem_cons.mp hs with e | h
  · rw [e]
    exact head_len ho
  · obtain ⟨z, hz, h⟩ := List.mem_flatMap.mp h
    have q := zip_ok ho (List.mem_of_mem_take hz)
    rcases List.mem_cons.mp h with e | h
    · rw [e, app_len]
      have := q.1.2.1
      show 5 + z.1.length ≤ 60
      omega
    · obtain ⟨r, _, rfl⟩ := List.mem_map.mp h
      have := row_len ho q.2 r
      omega
theorem lines_len {o : Own} (ho : OwnOk o) {i : Nat} : (linesTo o i).length ≤ 41 := by
  unfold linesTo
  rw [List.length_cons, List.length_flatMap]
  have h1 := sum_le (g := fun z => (kindT o z).length) (c := 5) ((o.ns.zip o.bl).take i) fun z _ => by
    have := cnt_le ho
    show (rows o z.2).length + 1 ≤ 5
    unfold rows
    rw [List.length_map, List.length_range]
    omega
  have h2 : ((o.ns.zip o.bl).take i).length ≤ 8 := by
    have := List.length_take_le i (o.ns.zip o.bl)
    have h3 := List.length_take_le' i (o.ns.zip o.bl)
    have h4 : (o.ns.zip o.bl).length ≤ o.ns.length := by rw [List.length_zip]; omega
    have := ho.k.2
    omega
  omega
theorem law_book_text (z : Bt mg) (hzip : mg "zip" = none) (hC1 : Knw P w K mg base CX0 1 "_law_cell_text" ["own", "cell"] (SpV K okCT)) (F : Fun K "_law_book_text" "_law_book_text" (topS 35) f fd) : Gd P w K mg base CX0 2 f fd ["own"] (SpV K okText) := by
  refine okV F sc35 (fun ds R ⟨_, e, _⟩ => by rw [e]; rfl) fun cdv A outer s H E B ds R fm D0 ⟨o, e1, ho, e2⟩ gu hr hC hw => ?_
  subst e1 e2
  have hb4 := ho.b
  refine r_new1 (m := 0) (S := fun d => d = .str (head o)) 1 (e_imp (e_addS (s := if o.s = 2 then ("plane " : Str) else ("line " : Str)) (t := (toString ((o.b : Nat) : Int) : Str)) (e_if (t_eqI (e_dget hr (e_var 0) (find_sides o)) e_int) (fun h => e_eq e_str ?_) (fun h => e_eq e_str ?_)) (e_strI z.str (e_intI z.int (e_dget hr (e_var 0) (find_base o))) ?_) ?_) fun sv e => ⟨_, e.symm, rfl⟩) (fun D d ed => ?_) sc35.nd
  · have := of_decide_eq_true h
    rw [if_pos (by omega)]
  · have := of_decide_eq_false h
    rw [if_neg (by omega)]
  · exact Nat.lt_of_lt_of_le (log_small (Nat.lt_of_lt_of_le (show _ < 8 by omega) (by decide +kernel))) (by decide)
  · rw [mo_len (by omega)]
    split <;> decide
  subst ed
  refine r_for (tgd := .tup [.name 2, .name 3]) (ds := zipD (o.ns.map PyData.str) (o.bl.map PyData.list))
    (fun i cf => ∃ x1 x2 x3 x4 x5 : Option SV, cf = ⟨[(D, (linesTo o i).map PyData.str)], [some (.o (Own.ob o)), some (.v (.ref D)), x1, x2, x3, x4, x5], 0⟩)
    rfl PassesOwn.never (i_zip hzip (e_dget hr (e_var 0) (find_names o)) (e_dget hr (e_var 0) (find_blocks o))) (g_tup rfl (gs_cons (g_name 2 sc35.nd) (gs_cons (g_name 3 sc35.nd) gs_nil))) ⟨none, none, none, none, none, rfl⟩ (fun k cf ⟨_, _, _, _, _, e⟩ => by rw [e]; rfl) ?_ ?_
  · rintro i d cf H1 hd ⟨x1, x2, x3, x4, x5, rfl⟩
    have hlen : (zipD (o.ns.map PyData.str) (o.bl.map PyData.list)).length = (o.ns.zip o.bl).length := by simp [zipD]
    have hi : i < (o.ns.zip o.bl).length := by
      rw [← hlen]
      exact (List.getElem?_eq_some_iff.mp hd).1
    obtain ⟨⟨nm, bs⟩, hz⟩ : ∃ q, (o.ns.zip o.bl)[i]? = some q := ⟨_, List.getElem?_eq_getElem hi⟩
    have ed : d = .tuple [.str nm, .list bs] := by
      unfold zipD at hd
      rw [List.zip_map, List.map_map, List.getElem?_map, hz] at hd
      exact (Option.some.inj hd).symm
    subst ed
    have hq := zip_ok ho (List.mem_of_getElem? hz)
    have hb : BlockOk o.s o.b o.ns.length bs := hq.2
    have hnm : nm.length ≤ 8 := hq.1.2.1
    refine ⟨_, rfl, ?_⟩
    refine r_append (m := 0) (d := .str (("kind " : Str) ++ nm)) (e_var 1) (e_addS e_str (e_var 2) (by show 5 + nm.length ≤ _; omega)) (by rw [List.length_map]; have := lines_len ho (i := i); omega) ?_
    refine r_lcM (i := 6) (l := bs) (g := id) 4 (fun d => .str (cellT o d)) rfl sc35.nd (i_list (e_eq (e_var 3) (by rw [List.map_id]))) (blkOk_by (own := [("cell", 6)]) (N := ["own", "lines", "name", "block", "words", "row", "cell"]) (sc := defScope (topS 35)) (by decide +kernel)) (fun _ _ _ _ _ => g_name 6 sc35.nd)
      (fun s' H' Cc cl fp D acc c hc => e_callV hC1 gu hr (by decide) (ad_cons (e_var 0) (ad_cons (e_var 6) ad_nil)) ⟨o, c, rfl, ho, hb.2 c hc, rfl⟩) (by rw [hb.1]; have := size_le ho.s hb4.2; omega) ?_
    have hn := lines_next (o := o) hz
    have el : (((bs.map fun d => PyData.str (cellT o d)).length : Nat) : Int) = ((size o.s o.b : Nat) : Int) := by rw [List.length_map, hb.1]
    have ew : (bs.map fun d => PyData.str (cellT o d)) = (bs.map (cellT o)).map PyData.str := by rw [List.map_map]; rfl
    refine r_for (tgd := .name 5) (ds := stepD 0 ((o.b : Nat) : Int) (cnt o))
      (fun j cf => ∃ x5 x6 : Option SV, cf = ⟨[(D, (linesTo o i ++ ((("kind " : Str) ++ nm) :: ((List.range j).map (rowT o bs)))).map PyData.str)], [some (.o (Own.ob o)), some (.v (.ref D)), some (.d (.str nm)), some (.d (.list bs)), some (.d (.list (bs.map fun d => PyData.str (cellT o d)))), x5, x6], 0⟩)
      rfl PassesOwn.never (i_range3 (m := 0) z.range e_int (e_eq (e_lenL z.len (e_var 4)) (by rw [el])) (e_dget hr (e_var 0) (find_base o)) (rg_ok ho.s hb4.1 hb4.2)) (g_name 5 sc35.nd) ⟨_, _, by rw [List.map_append]; rfl⟩ (fun k cf ⟨_, _, e⟩ => by rw [e]; rfl) ?_ ?_
    · rintro j d cf H2 hd ⟨x5, x6, rfl⟩
      have hj : j < cnt o := by
        have := (List.getElem?_eq_some_iff.mp hd).1
        simpa [stepD] using this
      have ed : d = .int (0 + ((j : Nat) : Int) * ((o.b : Nat) : Int)) := by
        unfold stepD at hd
        rw [List.getElem?_map, List.getElem?_range hj] at hd
        exact (Option.some.inj hd).symm
      subst ed
      refine ⟨_, rfl, ?_⟩
      have hrs := row_sum ho hb j
      have hc4 := cnt_le ho
      refine r_append (m := 0) (d := .str (rowT o bs j)) (e_var 1) (e_join (ss := ((bs.map (cellT o)).drop (j * o.b)).take o.b) e_str (e_eq (e_slL (e_var 4) (e_var 5) (e_add (e_var 5) (e_dget hr (e_var 0) (find_base o)))) ?_) ?_) ?_ (r_end (J := _) ⟨some (.d (.int (0 + ((j : Nat) : Int) * ((o.b : Nat) : Int)))), x6, ?_⟩)
      · rw [ew]
        exact congrArg PyData.list cut_row
      · show _ + _ * 1 ≤ _
        omega
      · rw [List.length_map, List.length_append, List.length_cons, List.length_map, List.length_range]
        have := lines_len ho (i := i)
        omega
      · have eL : (linesTo o i ++ (("kind " : Str) ++ nm) :: (List.range (j + 1)).map (rowT o bs)).map PyData.str = (linesTo o i ++ (("kind " : Str) ++ nm) :: (List.range j).map (rowT o bs)).map PyData.str ++ [PyData.str (rowT o bs j)] := by
          rw [List.range_succ]
          simp only [List.map_append, List.map_cons, List.map_nil, List.append_assoc, List.cons_append]
        rw [eL]
        rfl
    · rintro cf ⟨x5, x6, rfl⟩
      have e : (stepD 0 ((o.b : Nat) : Int) (cnt o)).length = cnt o := by simp [stepD]
      rw [e]
      refine r_end (J := _) ⟨some (.d (.str nm)), some (.d (.list bs)), some (.d (.list (bs.map fun d => PyData.str (cellT o d)))), x5, x6, ?_⟩
      rw [hn]
      rfl
  · rintro cf ⟨x1, x2, x3, x4, x5, rfl⟩
    have e : (zipD (o.ns.map PyData.str) (o.bl.map PyData.list)).length = o.ns.length := by simp [zipD, ho.len]
    rw [e]
    refine r_ret (m := 0) hw (e_joinM List.mem_cons_self e_str (e_var 1) ?_) fun sv e => e
    have h1 := sum_le (g := fun s : Str => s.length) (c := 60) (linesTo o o.ns.length) (line_len ho)
    have h2 := lines_len ho (i := o.ns.length)
    show _ + _ * 1 ≤ _
    omega
end
end N0
namespace N0
open PySem PySem.Spec PyProof.Rows L2 Wk
/-! ### names, as the program looks at them -/
def letT (t : Str) : Bool := (!decide (t.cps.toList < ("a" : Str).cps.toList)) && !decide (("z" : Str).cps.toList < t.cps.toList)
def letD : PD → PD
  | .str t => .bool (letT t)
  | _ => .none
def letB : PD → Bool
  | .str t => letT t
  | _ => false
def isNm (s : Str) : Bool := (decide ((1 : Int) ≤ ((s.length : Nat) : Int)) && decide (((s.length : Nat) : Int) ≤ 8)) && (signsD s).all letB
def isKN (s : Str) : Bool := isNm s && !decide (s ∈ reserved)
section
variable {P : Program} {w : World} {K : PySem.W.Frag} {mg : Str → Option Value} {base : Heap} {f : Addr} {fd : FuncData}
theorem sc3 : FnScope ["value", "letter"] ["value"] (defScope (topS 3)) := ⟨rfl, rfl, rfl, by decide +kernel, rfl, by decide +kernel, by decide +kernel⟩
def okNm : List PD → SV → Prop := fun ds sv => ∃ s : Str, ds = [.str s] ∧ s.length ≤ 100000 ∧ sv = .d (.bool (isNm s))
theorem all_let : ∀ l : List Nat, ((l.map fun c => letD (.str ⟨#[c]⟩)) = (l.map fun c => letT ⟨#[c]⟩).map PyData.bool) := fun l => by
  rw [List.map_map]
  rfl
theorem v_leS {K : PySem.W.Frag} {C : Ct} {L : Ls} {n : Nat} {i j : Str} : V2 K C L n (fun x y H Q => ∃ i j, x = .str i ∧ y = .str j ∧ Q (.bl (!decide (j.cps.toList < i.cps.toList))) H) (.str i) (.str j) (.bool (!decide (j.cps.toList < i.cps.toList))) := fun x y H Q h hx hy q => by
  cases hx; cases hy
  exact ⟨i, j, rfl, rfl, q _ H (.refl H) (.bl _)⟩
theorem is_name (z : Bt mg) {t : Tok} (g1 : mg "MOST_LETTERS" = some (.int 8 t)) (F : Fun K "is_name" "is_name" (topS 3) f fd) : Gd P w K mg base CX0 1 f fd ["value"] (SpP K okNm) := by
  refine okP F sc3 (fun ds sv ⟨_, e, _⟩ => by rw [e]; rfl) fun cdv A outer s H E B ds sv fm D0 ⟨x, e1, hz, e2⟩ gu hr hC hw hn => ?_
  subst e1 e2
  by_cases h : (decide ((1 : Int) ≤ ((x.length : Nat) : Int)) && decide (((x.length : Nat) : Int) ≤ 8)) = true
  · refine r_ifF (m := 0) (t_of (w_or (t_not (t_val (e_isStr z (e_var 0)))) (fun _ => w_or1 (t_not (t_chain op_le op_le (v_I0 fun _ _ => .bl _) (v_I0 fun _ _ => .bl _) e_int (e_lenS z.len (e_var 0) hz) fun _ => e_glob (v := .int 8) (d := .int 8) g1 ⟨_, rfl⟩ fun _ _ => .int 8))))) ?_ ?_
    · rw [h]
      rfl
    · refine r_retD hw (e_all (bs := x.cps.toList.map fun c => letT ⟨#[c]⟩) rfl z.all (e_eq (e_lcN (i := 1) letD rfl sc3.nd (i_str (e_var 0)) (blkOk_by (own := [("letter", 1)]) (N := ["value", "letter"]) (sc := defScope (topS 3)) (by decide +kernel)) (fun _ _ _ _ _ => g_name 1 sc3.nd) (fun s' H' Cc cl fp D acc d hd => ?_) ?_) ?_)) ?_
      · obtain ⟨c, hc, rfl⟩ := List.mem_map.mp hd
        exact e_chain op_le_str op_le_str v_leS v_leS e_str (e_var 1) fun _ => e_str
      · unfold signsD
        rw [List.length_map, ← str_len]
        exact hz
      · unfold signsD
        rw [List.map_map, ← all_let]
        rfl
      · unfold isNm
        rw [h, Bool.true_and]
        unfold signsD
        rw [List.all_map, List.all_map]
        rfl
  · have h2 : (decide ((1 : Int) ≤ ((x.length : Nat) : Int)) && decide (((x.length : Nat) : Int) ≤ 8)) = false := by simpa using h
    refine r_ifT (m := 0) (t_of (w_or (t_not (t_val (e_isStr z (e_var 0)))) (fun _ => w_or1 (t_not (t_chain op_le op_le (v_I0 fun _ _ => .bl _) (v_I0 fun _ _ => .bl _) e_int (e_lenS z.len (e_var 0) hz) fun _ => e_glob (v := .int 8) (d := .int 8) g1 ⟨_, rfl⟩ fun _ _ => .int 8))))) ?_ (r_retD hw e_bl ?_)
    · rw [h2]
      rfl
    · unfold isNm
      rw [h2]
      rfl
theorem sc4 : FnScope ["value"] ["value"] (defScope (topS 4)) := ⟨rfl, rfl, rfl, by decide +kernel, rfl, by decide +kernel, by decide +kernel⟩
def okKN : List PD → SV → Prop := fun ds sv => ∃ s : Str, ds = [.str s] ∧ s.length ≤ 100000 ∧ sv = .d (.bool (isKN s))
theorem is_kind_name (z : Bt mg) {aR : Addr} (g1 : mg "RESERVED" = some (.ref aR)) (kt : KT K aR (reserved.map PyData.str)) (h1 : Knw P w K mg base CX0 1 "is_name" ["value"] (SpP K okNm)) (F : Fun K "is_kind_name" "is_kind_name" (topS 4) f fd) : Gd P w K mg base CX0 2 f fd ["value"] (SpP K okKN) := by
  refine okP F sc4 (fun ds sv ⟨_, e, _⟩ => by rw [e]; rfl) fun cdv A outer s H E B ds sv fm D0 ⟨x, e1, hz, e2⟩ gu hr hC hw hn => ?_
  subst e1 e2
  exact r_retD hw (e_and (e_callP h1 gu hr (by decide) (a_cons (e_var 0) a_nil) ⟨x, rfl, hz, rfl⟩) fun _ => e_one (e_notT (ss := reserved) (e_var 0) (e_kt kt (e_globV g1 rfl)))) rfl
end
end N0
namespace Wk
open PySem PySem.Spec PyProof.Rows L2
section
variable {X : Cx} {C : Ct} {L : Ls} {δ : Dl} {n m k : Nat} {a b : Expr} {pos : Pos} {d : PD} {s : Str}
/-- a dict of the text, read by a text -/
theorem t_notKD {w : Addr} {es : Array DictEntry} {q : Nat} {r : Option Value} (D : KDict X.K X.w w es q) (ha : Ed X C L δ a n m (.str s)) (hb : Ev X C L δ b m k (.ref w)) (hr : PySem.W.nsIn X.K w s = some r) (hm : behindInMarks .NotIn b = false := by with_unfolding_all rfl) : T X C L δ (.Compare a [.NotIn] [b] pos) n k (!r.isSome) :=
  PT.imp (pt_cmpR (op_notIn_kd D) ha hb hm) fun σ H Q ⟨t, q⟩ => ⟨t, fun v H2 sv k1 h1 e1 s1 => ⟨t.go k1 h1, fun u H3 su k2 h2 e2 s2 => by
    subst e1 e2
    cases s1
    have e0 : u = .ref w := s2
    subst e0
    exact ⟨s, r, rfl, rfl, hr, _, rfl, q H3 (k1.trans k2) h2⟩⟩⟩
theorem e_kdget {w : Addr} {es : Array DictEntry} {q : Nat} {u0 : Value} {v0 : V} (D : KDict X.K X.w w es q) (ha : Ev X C L δ a n m (.ref w)) (hb : Ed X C L δ b m k (.str s)) (hr : PySem.W.nsIn X.K w s = some (some u0)) (ru : RelV v0 u0) (hd : ∀ B H, Dv X.K B H v0 d) (hs : PlainIx b := by intro _ _; rfl) : Ed X C L δ (.Subscript a b pos) n k d :=
  PE.imp (pe_ix ix_kdict ha hb hs) fun σ H Q ⟨t, q⟩ => ⟨t, fun v H2 sv k1 h1 e1 s1 => ⟨t.go k1 h1, fun u H3 su k2 h2 e2 s2 => by
    subst e1 e2
    have e0 : v = .ref w := s1
    subst e0
    cases s2
    exact ⟨w, s, v0, rfl, rfl, ⟨_, _, u0, D.at_, D.lit, hr, ru⟩, q v0 H3 _ (k1.trans k2) h2 rfl (hd _ _)⟩⟩⟩
end
end Wk
namespace N0
open PySem PySem.Spec PyProof.Rows L2 Wk
section
variable {P : Program} {w : World} {K : PySem.W.Frag} {mg : Str → Option Value} {base : Heap} {f : Addr} {fd : FuncData}
def sideW (s : Nat) : Str := if s = 2 then "plane" else "line"
def headOf (s b : Nat) : Str := (if s = 2 then ("plane " : Str) else ("line " : Str)) ++ (toString ((b : Nat) : Int) : Str)
theorem head_split {s b : Nat} (hs : s = 1 ∨ s = 2) (h2 : 2 ≤ b) (h4 : b ≤ 4) : Txt.split (headOf s b) " " = [sideW s, (toString ((b : Nat) : Int) : Str)] ∧ (headOf s b).length ≤ 100 :=
  combos (p := fun s b => Txt.split (headOf s b) " " = [sideW s, (toString ((b : Nat) : Int) : Str)] ∧ (headOf s b).length ≤ 100) hs h2 h4 (by decide +kernel)
/-- SIDES and BASES of the text -/
structure Heads (K : PySem.W.Frag) (w : World) (mg : Str → Option Value) : Prop where
  ex : ∃ (aS aB : Addr) (eS eB : Array DictEntry) (nS nB : Nat), mg "SIDES" = some (.ref aS) ∧ KDict K w aS eS nS ∧ mg "BASES" = some (.ref aB) ∧ KDict K w aB eB nB ∧
    (∀ s : Nat, s = 1 ∨ s = 2 → ∃ t, PySem.W.nsIn K aS (sideW s) = some (some (.int (s : Nat) t))) ∧ ∀ b : Nat, 2 ≤ b → b ≤ 4 → ∃ t, PySem.W.nsIn K aB (toString ((b : Nat) : Int) : Str) = some (some (.int (b : Nat) t))
theorem sc15 : FnScope ["line", "words"] ["line"] (defScope (topS 15)) := ⟨rfl, rfl, rfl, by decide +kernel, rfl, by decide +kernel, by decide +kernel⟩
def okHead : List PD → SV → Prop := fun ds sv => ∃ s b : Nat, ds = [.str (headOf s b)] ∧ (s = 1 ∨ s = 2) ∧ 2 ≤ b ∧ b ≤ 4 ∧ sv = .d (.tuple [.int (s : Nat), .int (b : Nat)])
theorem told_head (z : Bt mg) (hh : Heads K w mg) (F : Fun K "told_head" "told_head" (topS 15) f fd) : Gd P w K mg base CX0 1 f fd ["line"] (SpP K okHead) := by
  obtain ⟨aS, aB, eS, eB, nS, nB, gS, DS, gB, DB, fS, fB⟩ := hh.ex
  refine okP F sc15 (fun ds sv ⟨_, _, e, _⟩ => by rw [e]; rfl) fun cdv A outer s H E B ds sv fm D0 ⟨S, b, e1, hs, b2, b4, e2⟩ gu hr hC hw hn => ?_
  subst e1 e2
  obtain ⟨hsp, hl⟩ := head_split hs b2 b4
  obtain ⟨tS, fS⟩ := fS S hs
  obtain ⟨tB, fB⟩ := fB b b2 b4
  refine r_set (m := 0) 1 (e_eq (e_split (e_var 0) e_str (by decide +kernel) (by omega)) (by rw [hsp])) ?_ sc15.nd
  refine r_ifF (m := 0) (t_of (w_or (t_neI (e_lenL z.len (e_var 1)) e_int) (fun _ => w_or (t_notKD DS (e_ixL (e_var 1) (e_int (i := 0))) (e_globV gS rfl) fS) (fun _ => w_or1 (t_notKD DB (e_ixL (e_var 1) (e_int (i := 1))) (e_globV gB rfl) fB))))) (by rfl) ?_
  exact r_retD hw (e_tup (a_cons (e_kdget (v0 := .int (S : Nat)) DS (e_globV gS rfl) (e_ixL (e_var 1) (e_int (i := 0))) fS ⟨_, rfl⟩ fun _ _ => .int _) (a_cons (e_kdget (v0 := .int (b : Nat)) DB (e_globV gB rfl) (e_ixL (e_var 1) (e_int (i := 1))) fB ⟨_, rfl⟩ fun _ _ => .int _) a_nil))) rfl
end
end N0
namespace Wk
open PySem PySem.Spec PyProof.Rows L2
/-- a dict of the text whose keys are ints -/
structure KIntD (K : PySem.W.Frag) (a : Addr) (es : Array DictEntry) (n : Nat) : Prop where
  at_ : K.lookup a = some ⟨.type "dict", none, .dict es n, #[]⟩
  keys : ∀ e, e ∈ es → ∃ (k : Int) (t : Tok), e.key = .int k t ∧ e.hash = hashInt k
section
variable {X : Cx} {C : Ct} {L : Ls} {δ : Dl} {n m k : Nat} {a b e : Expr} {pos p : Pos} {d : PD} {s : Str}
theorem ix_kint {w0 : Addr} {es : Array DictEntry} {q : Nat} (D : KIntD X.K w0 es q) : IxR X (fun x y H Q => ∃ (i : Int) (u0 : Value) (v0 : V), x = .ref w0 ∧ y = .int i ∧ findBy Value.isInt es i = some u0 ∧ RelV v0 u0 ∧ Q v0 H) := by
  intro value slice pins s σ H x y v u Q I rx ry h hs
  obtain ⟨i, u0, v0, rfl, rfl, hf, ru, q⟩ := h
  obtain rfl : v = Value.ref w0 := rx
  obtain ⟨t, rfl⟩ := ry
  have hm : s.heap.MapOf (intKind X.prog X.w) w0 (fun k => findBy Value.isInt es k) := ⟨_, es, _, I.kIn _ _ D.at_, ⟨rfl, rfl, rfl⟩, rfl, fun e he => by
    obtain ⟨k, t, e1, e2⟩ := D.keys e he
    exact ⟨k, by rw [e1]; exact intKind_is X.prog X.w k t, e2⟩, fun _ => rfl⟩
  exact tail_any hm.typeIs PySem.F.slot_dict_getitem.lookup (wpAny_getItem_of (intKind_is X.prog X.w i t) hm hf ⟨v0, H, I.tok _, ru, q⟩) hs
theorem e_kiget {w0 : Addr} {es : Array DictEntry} {q : Nat} {i : Int} {w1 : Addr} (D : KIntD X.K w0 es q) (ha : Ev X C L δ a n m (.ref w0)) (hb : Ed X C L δ b m k (.int i)) (hf : findBy Value.isInt es i = some (.ref w1)) (hs : PlainIx b := by intro _ _; rfl) : Ev X C L δ (.Subscript a b pos) n k (.ref w1) :=
  PE.imp (pe_ix (ix_kint D) ha hb hs) fun σ H Q ⟨t, q⟩ => ⟨t, fun v H2 sv k1 h1 e1 s1 => ⟨t.go k1 h1, fun u H3 su k2 h2 e2 s2 => by
    subst e1 e2
    have e0 : v = .ref w0 := s1
    subst e0
    cases s2
    exact ⟨i, _, .ref w1, rfl, rfl, hf, rfl, q _ H3 _ (k1.trans k2) h2 rfl rfl⟩⟩⟩
theorem t_truS (ha : Ed X C L δ a n m (.str s)) (hz : s.length ≤ 100000) (he : ∀ whole, isTrue a X.env whole = (do let v ← whole; standAt a.pos; holding [v] (truthy v)) := by intro _; rfl) : T X C L δ a n m ((s.length : Int) != 0) :=
  PT.imp (pt_truth ha he) fun σ H Q ⟨t, q⟩ => ⟨t, fun v H2 sv k1 h1 e1 s1 => by
    subst e1
    cases s1
    exact ⟨_, ⟨Nat.le_trans hz (by decide), rfl⟩, q H2 k1 h1⟩⟩
theorem e_intS {j : Int} (hm : X.mg "int" = none) (h : Ed X C L δ e n m (.str s)) (hi : PySem.intText? s = some j) (hz : s.length ≤ 640) (hg : Gl X "int" := by rfl) (he : starEach [e] X.env = (false, eval e X.env) :: starEach [] X.env := by rfl) : Ed X C L δ (.Call (.Name "int" p) [e] [] pos) n m (.int j) :=
  e_callTy call_int_str (R := Eq ([.str s].map SV.d)) (fun vs svs H Q h1 e1 s1 q => by
    subst e1
    obtain ⟨v, rfl, g⟩ := DvAll.one s1
    cases g
    exact ⟨s, j, rfl, hi, hz, q _ H _ (.refl H) rfl (Dv.int _)⟩) hm (by decide +kernel) (a_cons h a_nil he) hg (he := he)
end
end Wk
namespace N0
open PySem PySem.Spec PyProof.Rows L2 Wk
/-! ### the words of a row -/
def motionsT (s : Nat) : List Str := if s = 1 then ["1"] else ["1", "2", "3", "4", "5", "6", "7"]
/-- what the word of a cell tells -/
def toldD (o : Own) : PD → PD
  | .none => .tuple [.str ".", .int 0]
  | .tuple [.int a, .int m] => .tuple [.str (o.ns.getD a.toNat ""), .int m]
  | _ => .tuple [.str "#", .int 0]
theorem lett_not {s : Str} (h : Lett s) {c : Nat} (hc : c < 97) : c ∉ s.cps.toList := fun z => by
  have := h c z
  omega
theorem nm_plain {s : Str} (h : Nm s) : s ∉ ([".", "#"] : List Str) := fun z => by
  have hl := h.2.2.1
  simp only [List.mem_cons, List.not_mem_nil, or_false] at z
  rcases z with rfl | rfl
  · exact lett_not hl (c := 46) (by decide) (by decide +kernel)
  · exact lett_not hl (c := 35) (by decide) (by decide +kernel)
theorem slash_plain {s t : Str} : s ++ ("/" : Str) ++ t ∉ ([".", "#"] : List Str) := fun z => by
  have h47 : 47 ∈ (s ++ ("/" : Str) ++ t).cps.toList := by
    rw [str_app, str_app]
    exact List.mem_append_left _ (List.mem_append_right _ (by decide +kernel))
  simp only [List.mem_cons, List.not_mem_nil, or_false] at z
  rcases z with e | e <;> rw [e] at h47 <;> exact absurd h47 (by decide +kernel)
theorem letT_ok {c : Nat} (h1 : 97 ≤ c) (h2 : c ≤ 122) : letT ⟨#[c]⟩ = true := by
  unfold letT
  have a1 : ¬ (([c] : List Nat) < [97]) := by
    rw [List.cons_lt_cons_iff]
    simp
    omega
  have a2 : ¬ (([122] : List Nat) < [c]) := by
    rw [List.cons_lt_cons_iff]
    simp
    omega
  show ((!decide (([c] : List Nat) < [97])) && !decide (([122] : List Nat) < [c])) = true
  rw [decide_eq_false a1, decide_eq_false a2]
  rfl
theorem isKN_ok {s : Str} (h : Nm s) : isKN s = true := by
  obtain ⟨h1, h2, h3, h4⟩ := h
  unfold isKN isNm
  rw [decide_eq_true (show (1 : Int) ≤ ((s.length : Nat) : Int) by omega), decide_eq_true (show ((s.length : Nat) : Int) ≤ 8 by omega), decide_eq_false h4]
  have : (signsD s).all letB = true := by
    rw [List.all_eq_true]
    intro d hd
    obtain ⟨c, hc, rfl⟩ := List.mem_map.mp hd
    exact letT_ok (h3 c hc).1 (h3 c hc).2
  rw [this]
  rfl
theorem part_none {s : Str} (h : Nm s) : Txt.partition s ("/" : Str) = (s, ("" : Str), ("" : Str)) :=
  TL.partition_none (y := "/") (s := 47) (S := []) (by decide +kernel) (lett_not h.2.2.1 (by decide))
theorem part_app {s t : Str} (h : Nm s) : Txt.partition (s ++ ("/" : Str) ++ t) ("/" : Str) = (s, ("/" : Str), t) :=
  TL.partition_app (y := "/") (s := 47) (S := []) (by decide +kernel) (lett_not h.2.2.1 (by decide))
theorem mo_int {m : Nat} (h : m < 8) : PySem.intText? (toString ((m : Nat) : Int) : Str) = some ((m : Nat) : Int) := by
  have : ∀ m : Nat, m < 8 → PySem.intText? (toString ((m : Nat) : Int) : Str) = some ((m : Nat) : Int) := by decide +kernel
  exact this m h
theorem mo_in {s m : Nat} (hs : s = 1 ∨ s = 2) (h0 : 0 < m) (h : m < many s) : (toString ((m : Nat) : Int) : Str) ∈ motionsT s := by
  rcases hs with rfl | rfl
  · have : ∀ m : Nat, m < 2 → 0 < m → (toString ((m : Nat) : Int) : Str) ∈ motionsT 1 := by decide +kernel
    exact this m h h0
  · have : ∀ m : Nat, m < 8 → 0 < m → (toString ((m : Nat) : Int) : Str) ∈ motionsT 2 := by decide +kernel
    exact this m h h0
theorem str_assoc (s t u : Str) : s ++ (t ++ u) = s ++ t ++ u := TL.ext_tl (by
  show (s ++ (t ++ u)).cps.toList = (s ++ t ++ u).cps.toList
  rw [str_app, str_app, str_app, str_app, List.append_assoc])
theorem str_nil (s : Str) : s ++ ("" : Str) = s := TL.ext_tl (by
  show (s ++ ("" : Str)).cps.toList = s.cps.toList
  rw [str_app, show ("" : Str).cps.toList = [] from rfl, List.append_nil])
/-- what the text holds of words: the signs, MOTIONS_TOLD -/
structure Words (K : PySem.W.Frag) (mg : Str → Option Value) : Prop where
  ex : ∃ (t1 t2 : Tok) (aM : Addr) (es : Array DictEntry) (n : Nat), mg "BLANK_WORD" = some (.str "." t1) ∧ mg "FULL_WORD" = some (.str "#" t2) ∧ mg "MOTIONS_TOLD" = some (.ref aM) ∧ KIntD K aM es n ∧
    ∀ s : Nat, s = 1 ∨ s = 2 → ∃ aT, findBy Value.isInt es (s : Nat) = some (.ref aT) ∧ KT K aT ((motionsT s).map PyData.str)
section
variable {P : Program} {w : World} {K : PySem.W.Frag} {mg : Str → Option Value} {base : Heap} {f : Addr} {fd : FuncData}
theorem sc16 : FnScope ["word", "sides", "name", "slash", "motion"] ["word", "sides"] (defScope (topS 16)) := ⟨rfl, rfl, rfl, by decide +kernel, rfl, by decide +kernel, by decide +kernel⟩
def okTW : List PD → SV → Prop := fun ds sv => ∃ (o : Own) (d : PD), OwnOk o ∧ CellOk o.s o.ns.length d ∧ ds = [.str (cellT o d), .int (o.s : Nat)] ∧ sv = .d (toldD o d)
theorem told_word (z : Bt mg) (hw' : Words K mg) (h1 : Knw P w K mg base CX0 2 "is_kind_name" ["value"] (SpP K okKN)) (F : Fun K "told_word" "told_word" (topS 16) f fd) : Gd P w K mg base CX0 3 f fd ["word", "sides"] (SpP K okTW) := by
  obtain ⟨t1, t2, aM, es, q, g1, g2, g3, DM, fM⟩ := hw'.ex
  refine okP F sc16 (fun ds sv ⟨_, _, _, _, e, _⟩ => by rw [e]; rfl) fun cdv A outer s H E B ds sv fm D0 ⟨o, d, ho, hd, e1, e2⟩ gu hr hC hw hn => ?_
  subst e1 e2
  have hl10 := cellT_len ho hd
  rcases hd with rfl | rfl | ⟨a, m, rfl, ha, hm⟩
  · refine r_ifT (m := 0) (t_inT (ss := [".", "#"]) (e_var 0) (e_tup (a_cons (e_glob (v := .str ".") (d := .str ".") g1 ⟨_, rfl⟩ fun _ _ => .str _) (a_cons (e_glob (v := .str "#") (d := .str "#") g2 ⟨_, rfl⟩ fun _ _ => .str _) a_nil)))) (decide_eq_true (show ("." : Str) ∈ ([".", "#"] : List Str) by decide +kernel)) (r_retD hw (e_tup (a_cons (e_var 0) (a_cons e_int a_nil))) rfl)
  · refine r_ifT (m := 0) (t_inT (ss := [".", "#"]) (e_var 0) (e_tup (a_cons (e_glob (v := .str ".") (d := .str ".") g1 ⟨_, rfl⟩ fun _ _ => .str _) (a_cons (e_glob (v := .str "#") (d := .str "#") g2 ⟨_, rfl⟩ fun _ _ => .str _) a_nil)))) (decide_eq_true (show ("#" : Str) ∈ ([".", "#"] : List Str) by decide +kernel)) (r_retD hw (e_tup (a_cons (e_var 0) (a_cons e_int a_nil))) rfl)
  · have hnm : Nm (o.ns.getD a "") := ho.ns.ok _ (by simp [List.getD, ha])
    have hm8 := mo_lt hm
    generalize hN : o.ns.getD a "" = nm at hnm
    have er : toldD o (.tuple [.int (a : Nat), .int (m : Nat)]) = .tuple [.str nm, .int (m : Nat)] := by
      show PyData.tuple [.str (o.ns.getD a ""), _] = _
      rw [hN]
    rw [er] at hw
    have tnm : isKN nm = true := isKN_ok hnm
    obtain ⟨aT, fT, kT⟩ := fM o.s ho.s
    by_cases h0 : 0 < m
    · have ec : cellT o (.tuple [.int (a : Nat), .int (m : Nat)]) = nm ++ ("/" : Str) ++ (toString ((m : Nat) : Int) : Str) := by
        rw [cellT_at, hN, if_pos (show (0 : Int) < ((m : Nat) : Int) by omega), str_assoc]
      rw [ec] at hl10
      rw [ec]
      refine r_ifF (m := 0) (t_inT (ss := [".", "#"]) (e_var 0) (e_tup (a_cons (e_glob (v := .str ".") (d := .str ".") g1 ⟨_, rfl⟩ fun _ _ => .str _) (a_cons (e_glob (v := .str "#") (d := .str "#") g2 ⟨_, rfl⟩ fun _ _ => .str _) a_nil)))) (decide_eq_false slash_plain) ?_
      refine r_tup (m := 0) (R := Eq (SV.d (.tuple [.str nm, .str ("/" : Str), .str (toString ((m : Nat) : Int) : Str)]))) (ts := [.name 2, .name 3, .name 4]) rfl (g_tup rfl (gs_cons (g_name 2 sc16.nd) (gs_cons (g_name 3 sc16.nd) (gs_cons (g_name 4 sc16.nd) gs_nil)))) (e_eq (e_partition (e_var 0) e_str (by decide +kernel) (by omega)) (by rw [part_app hnm])) (fun sv e => ⟨_, _, e.symm, rfl, ?_⟩)
      refine r_ifF (m := 0) (t_not (t_val (e_callP h1 gu hr (by decide) (a_cons (e_var 2) a_nil) ⟨nm, rfl, by have := hnm.2.1; omega, rfl⟩))) (by rw [tnm]; rfl) ?_
      refine r_ifF (m := 0) (t_not (t_truS (e_var 3) (by decide +kernel))) (by decide +kernel) ?_
      exact r_retD hw (e_if (m := 0) (t_inT (e_var 4) (e_kt kT (e_kiget DM (e_globV g3 rfl) (e_var 1) fT))) (fun _ => e_tup (a_cons (e_var 2) (a_cons (e_intS z.int (e_var 4) (mo_int hm8) (by rw [mo_len hm8]; decide)) a_nil))) (fun h => absurd (mo_in ho.s h0 hm) (of_decide_eq_false h))) rfl
    · have em : m = 0 := by omega
      subst em
      have ec : cellT o (.tuple [.int (a : Nat), .int ((0 : Nat) : Nat)]) = nm := by
        rw [cellT_at, hN, if_neg (by decide), str_nil]
      rw [ec] at hl10
      rw [ec]
      refine r_ifF (m := 0) (t_inT (ss := [".", "#"]) (e_var 0) (e_tup (a_cons (e_glob (v := .str ".") (d := .str ".") g1 ⟨_, rfl⟩ fun _ _ => .str _) (a_cons (e_glob (v := .str "#") (d := .str "#") g2 ⟨_, rfl⟩ fun _ _ => .str _) a_nil)))) (decide_eq_false (nm_plain hnm)) ?_
      refine r_tup (m := 0) (R := Eq (SV.d (.tuple [.str nm, .str ("" : Str), .str ("" : Str)]))) (ts := [.name 2, .name 3, .name 4]) rfl (g_tup rfl (gs_cons (g_name 2 sc16.nd) (gs_cons (g_name 3 sc16.nd) (gs_cons (g_name 4 sc16.nd) gs_nil)))) (e_eq (e_partition (e_var 0) e_str (by decide +kernel) (by omega)) (by rw [part_none hnm])) (fun sv e => ⟨_, _, e.symm, rfl, ?_⟩)
      refine r_ifF (m := 0) (t_not (t_val (e_callP h1 gu hr (by decide) (a_cons (e_var 2) a_nil) ⟨nm, rfl, by have := hnm.2.1; omega, rfl⟩))) (by rw [tnm]; rfl) ?_
      exact r_ifT (m := 0) (t_not (t_truS (e_var 3) (by decide +kernel))) (by decide +kernel) (r_retD hw (e_tup (a_cons (e_var 2) (a_cons e_int a_nil))) rfl)
end
end N0
namespace Wk
open PySem PySem.Spec PyProof.Rows L2
section
variable {X : Cx} {C : Ct} {L : Ls} {δ : Dl} {n m k : Nat} {a b e : Expr} {pos p : Pos} {d : PD} {ds : List PD} {s : Str}
theorem v_notInD (s1 : SeqAt.shaped d = true) (s2 : SeqAt.shaped (.list ds) = true) : V2 X.K C L n (rNotInD X.K) d (.list ds) (.bool (!ds.any fun z => PyData.eqv z d)) := fun x y H Q h hx hy q =>
  ⟨d, ds, Dv.dp _ _ (nd_shaped s1) hx, Dv.dp _ _ (nd_shaped s2) hy, s1, s2, q _ H (.refl H) (.bl _)⟩
theorem t_notInD {r : Nat} (hr : Room r X.A) (s1 : SeqAt.shaped d = true) (s2 : SeqAt.shaped (.list ds) = true) (ha : Ed X C L δ a n m d) (hb : Ed X C L δ b m k (.list ds)) (hm : behindInMarks .NotIn b = false := by with_unfolding_all rfl) : T X C L δ (.Compare a [.NotIn] [b] pos) n k (!ds.any fun z => PyData.eqv z d) :=
  t_cmp (op_notInD (by have := hr.un; omega)) (v_notInD s1 s2) hm ha hb
end
end Wk
namespace N0
open PySem PySem.Spec PyProof.Rows L2 Wk
theorem strOk_of {s : Str} (h : ∀ c ∈ s.cps.toList, c < 1114112) : PyData.strOk s = true := by
  show s.cps.all (fun c => decide (c < 1114112)) = true
  rw [← Array.all_toList, List.all_eq_true]
  exact fun c hc => decide_eq_true (h c hc)
theorem nm_ok {s : Str} (h : Nm s) : PyData.strOk s = true := strOk_of fun c hc => by
  have := h.2.2.1 c hc
  omega
/-- what is told of a cell is a pair of a text and an int -/
theorem told_pair {o : Own} (ho : OwnOk o) {d : PD} (hd : CellOk o.s o.ns.length d) : ∃ (t : Str) (m : Int), toldD o d = .tuple [.str t, .int m] ∧ PyData.strOk t = true := by
  rcases hd with rfl | rfl | ⟨a, m, rfl, ha, hm⟩
  · exact ⟨_, _, rfl, by decide +kernel⟩
  · exact ⟨_, _, rfl, by decide +kernel⟩
  · exact ⟨_, _, rfl, nm_ok (ho.ns.ok _ (by simp [ha]))⟩
theorem told_shaped {o : Own} (ho : OwnOk o) {ds : List PD} (h : ∀ d ∈ ds, CellOk o.s o.ns.length d) : SeqAt.shaped (.list (ds.map (toldD o))) = true := by
  have q : PyData.canLayAll0 (ds.map (toldD o)) = true ∧ PyData.depthAll (ds.map (toldD o)) ≤ 1 := by
    induction ds with
    | nil => exact ⟨rfl, Nat.zero_le _⟩
    | cons d ds ih =>
      obtain ⟨t, m, e, ht⟩ := told_pair ho (h d List.mem_cons_self)
      have i := ih fun e he => h e (List.mem_cons_of_mem _ he)
      rw [List.map_cons, e]
      refine ⟨?_, ?_⟩
      · simp only [PyData.canLayAll0, PyData.canLay0, Bool.and_true]
        rw [ht, i.1]
        rfl
      · show max (max 0 (max 0 0) + 1) (PyData.depthAll (ds.map (toldD o))) ≤ 1
        exact Nat.max_le.mpr ⟨Nat.le_refl _, i.2⟩
  show (PyData.canLay0 (.list (ds.map (toldD o))) && decide ((PyData.list (ds.map (toldD o))).depth ≤ 64)) = true
  rw [Bool.and_eq_true]
  refine ⟨by simp only [PyData.canLay0]; exact q.1, decide_eq_true ?_⟩
  show PyData.depthAll (ds.map (toldD o)) + 1 ≤ 64
  have := q.2
  omega
section
variable {P : Program} {w : World} {K : PySem.W.Frag} {mg : Str → Option Value} {base : Heap} {f : Addr} {fd : FuncData}
theorem sc17 : FnScope ["words", "sides", "base", "row", "word"] ["words", "sides", "base"] (defScope (topS 17)) := ⟨rfl, rfl, rfl, by decide +kernel, rfl, by decide +kernel, by decide +kernel⟩
def okTR : List PD → SV → Prop := fun ds sv => ∃ (o : Own) (cs : List PD), OwnOk o ∧ (∀ d ∈ cs, CellOk o.s o.ns.length d) ∧ cs.length = o.b ∧ ds = [.list (cs.map fun d => .str (cellT o d)), .int (o.s : Nat), .int (o.b : Nat)] ∧ sv = .d (.list (cs.map (toldD o)))
theorem sh_none : SeqAt.shaped .none = true := by
  show (PyData.canLay0 .none && decide (PyData.none.depth ≤ 64)) = true
  rw [Bool.and_eq_true]
  exact ⟨by simp only [PyData.canLay0], decide_eq_true (Nat.zero_le _)⟩
theorem told_row (z : Bt mg) (h1 : Knw P w K mg base CX0 3 "told_word" ["word", "sides"] (SpP K okTW)) (F : Fun K "told_row" "told_row" (topS 17) f fd) : Gd P w K mg base CX0 4 f fd ["words", "sides", "base"] (SpP K okTR) := by
  refine okP F sc17 (fun ds sv ⟨_, _, _, _, _, e, _⟩ => by rw [e]; rfl) fun cdv A outer s H E B ds sv fm D0 ⟨o, cs, ho, hc, hl, e1, e2⟩ gu hr hC hw hn => ?_
  subst e1 e2
  have hb4 := ho.b
  refine r_lcM (m := 0) (i := 4) (l := cs) (g := fun d => .str (cellT o d)) 3 (toldD o) rfl sc17.nd (i_list (e_var 0)) (blkOk_by (own := [("word", 4)]) (N := ["words", "sides", "base", "row", "word"]) (sc := defScope (topS 17)) (by decide +kernel)) (fun _ _ _ _ _ => g_name 4 sc17.nd)
    (fun s' H' Cc cl fp D acc c hcm => e_callP h1 gu hr (by decide) (a_cons (e_var 4) (a_cons (e_var 1) a_nil)) ⟨o, c, ho, hc c hcm, rfl, rfl⟩) (by omega) ?_
  refine r_retD hw (e_if (m := 0) (t_of (w_and (t_eqI (e_lenL z.len (e_var 3)) (e_var 2)) (fun _ => w_and1 (t_notInD hr sh_none (told_shaped ho hc) e_non (e_var 3))))) (fun _ => e_var 3) (fun h => ?_)) rfl
  have a1 : decide ((((cs.map (toldD o)).length : Nat) : Int) = ((o.b : Nat) : Int)) = true := decide_eq_true (by rw [List.length_map, hl])
  have a2 : ((cs.map (toldD o)).any fun z => PyData.eqv z .none) = false := by
    rw [List.any_map, List.any_eq_false]
    intro d hd
    obtain ⟨t, m, e, _⟩ := told_pair ho (hc d hd)
    show ¬ PyData.eqv (toldD o d) .none = true
    rw [e]
    exact Bool.false_ne_true
  rw [a1, a2] at h
  cases h
end
end N0
namespace Wk
open PySem PySem.Spec PyProof.Rows L2
section
variable {X : Cx} {C : Ct} {L : Ls} {δ : Dl} {n m k : Nat} {e1 e2 : Expr} {pos p : Pos} {d1 : PD} {x : Str} {ps : List Str}
/-- a call that reads a list which is being filled, and answers with a truth value -/
theorem e_callDM {r : Nat} {ok : List PD → SV → Prop} {w : Addr} {ds : List PD} {u : Bool} (F : Kn X CX0 k x ps (SpP X.K ok)) (gu : X.A.guards = some []) (hr : Room r X.A) (hk : k ≤ r) (hl : (w, Cont.lst (ds)) ∈ L) (h1 : Ed X C L δ e1 n n d1) (h2 : Ev X C L δ e2 n m (.ref w)) (h : ok [d1, .list ds] (.d (.bool u))) (hg : Gl X x := by rfl)
    (hdb : (x == ("__debug__" : Str)) = false := by decide) (he2 : starEach [e2] X.env = (false, eval e2 X.env) :: starEach [] X.env := by rfl) (he : starEach [e1, e2] X.env = (false, eval e1 X.env) :: starEach [e2] X.env := by rfl) (hpl : (backTo pos (starEach [e2] X.env)).any (·.1) = false := by rfl) :
    Ed X C L δ (.Call (.Name x p) [e1, e2] [] pos) n m (.bool u) :=
  PE.imp (pe_callG F gu (hr.mono hk) hg pass0 (ad_cons h1 (ad_cons h2 ad_nil he2) he) hdb he hpl) fun σ H Q ⟨t, q⟩ => ⟨t, fun vs H2 svs k1 g1 r1 s1 => by
    subst r1
    cases s1 with
    | cons a s1 =>
      cases s1 with
      | cons b s1 =>
        cases s1
        have e0 : _ = V.ref w := b
        subst e0
        obtain ⟨xs, hx, gx⟩ := g1.ls w ds hl
        have none_in : ∀ b, b ∈ ([] : List Addr) → b ∈ Bd C L := fun b hb => absurd hb List.not_mem_nil
        refine ⟨[], [d1, .list ds], .d (.bool u), fun b hb => absurd hb List.not_mem_nil, .cons (Dv.less a none_in) (.cons (Dv.lst (.inl ⟨List.not_mem_nil, .inl hx⟩) (DvAll.less gx none_in)) .nil), h, fun v H3 sm g => ?_⟩
        have ev : v = .bl u := by
          cases (show Dv X.K [] H3 v (.bool u) from g)
          rfl
        subst ev
        exact q _ H3 _ (k1.trans (.same sm)) (g1.same sm) rfl (Dv.bl u)⟩
theorem e_notLD {a b : Expr} {s : Str} {ss : List Str} (ha : Ed X C L δ a n m (.str s)) (hb : Ed X C L δ b m k (.list (ss.map PyData.str))) (hm : behindInMarks .NotIn b = false := by with_unfolding_all rfl) : Ed X C L δ (.Compare a [.NotIn] [b] pos) n k (.bool (!decide (s ∈ ss))) := e_cmp op_notIn_seq v_notL hm ha hb
end
end Wk
namespace N0
open PySem PySem.Spec PyProof.Rows L2 Wk
section
variable {P : Program} {w : World} {K : PySem.W.Frag} {mg : Str → Option Value} {base : Heap} {f : Addr} {fd : FuncData}
theorem sc18 : FnScope ["words", "names"] ["words", "names"] (defScope (topS 18)) := ⟨rfl, rfl, rfl, by decide +kernel, rfl, by decide +kernel, by decide +kernel⟩
def okCan : List PD → SV → Prop := fun ds sv => ∃ (nm : Str) (ns : List Str), Nm nm ∧ nm ∉ ns ∧ ns.length ≤ 100 ∧ ds = [.list [.str ("kind" : Str), .str nm], .list (ns.map PyData.str)] ∧ sv = .d (.bool true)
theorem can_be_told (z : Bt mg) {t : Tok} (g1 : mg "MOST_KINDS" = some (.int 200 t)) (h1 : Knw P w K mg base CX0 2 "is_kind_name" ["value"] (SpP K okKN)) (F : Fun K "can_be_told" "can_be_told" (topS 18) f fd) : Gd P w K mg base CX0 3 f fd ["words", "names"] (SpP K okCan) := by
  refine okP F sc18 (fun ds sv ⟨_, _, _, _, _, e, _⟩ => by rw [e]; rfl) fun cdv A outer s H E B ds sv fm D0 ⟨nm, ns, hnm, hni, hl, e1, e2⟩ gu hr hC hw hn => ?_
  subst e1 e2
  have a3 : decide ((((ns.map PyData.str).length : Nat) : Int) = 200) = false := decide_eq_false (by rw [List.length_map]; omega)
  refine r_ifF (m := 0) (t_of (w_or (t_neI (e_lenL z.len (e_var 0)) e_int) (fun _ => w_or (t_neS (e_ixL (e_var 0) (e_int (i := 0))) e_str) (fun _ => w_or1 (t_eqI (e_lenL z.len (e_var 1)) (e_glob (v := .int 200) (d := .int 200) g1 ⟨_, rfl⟩ fun _ _ => .int 200)))))) ?_ ?_
  · rw [a3, decide_eq_true (show ("kind" : Str) = "kind" from rfl)]
    rfl
  · refine r_retD hw (e_and (e_callP h1 gu hr (by decide) (a_cons (e_ixL (e_var 0) (e_int (i := 1))) a_nil) ⟨nm, rfl, by have := hnm.2.1; omega, rfl⟩) fun _ => e_one (e_notLD (e_ixL (e_var 0) (e_int (i := 1))) (e_var 1))) ?_
    rw [isKN_ok hnm, decide_eq_false hni]
    rfl
end
end N0
namespace Wk
open PySem PySem.Spec PyProof.Rows L2
section
variable {X : Cx} {C : Ct} {L : Ls} {δ : Dl} {n m k : Nat} {a b : Expr} {pos p : Pos} {d : PD} {x : Str} {kvs : List (Str × PD)}
/-- own[x], x any text that is a key -/
theorem e_dgetV {r : Nat} (hr : Room r X.A) (ha : E X C L δ a n m (Eq (SV.o (obD kvs)))) (hb : Ed X C L δ b m k (.str x)) (hx : findD kvs x = some d) (hs : NoSl b := by intro _ _; rfl) : Ed X C L δ (.Subscript a b pos) n k d :=
  PE.imp (pe_dget (hu_of hr) ha hb hs) fun σ H Q ⟨t, q⟩ => ⟨t, fun v H2 sv k1 h1 e1 s1 => by
    subst e1
    refine ⟨t.go k1 h1, fun w H3 sw k2 h2 e2 s2 => ?_⟩
    subst e2
    cases s2
    obtain ⟨r', vs, rfl, nr, hd, g⟩ := (obD kvs).keep s1 (k2.wider bs_bd)
    obtain ⟨v, h3, h4⟩ := ent_find g hx
    exact ⟨r', v, rfl, .inl ⟨_, Sum.inr x, .inl hd, rfl, h3.symm⟩, q v H3 _ (k1.trans k2) h2 rfl h4⟩⟩
/-- x in own, x a key -/
theorem t_dinT {r : Nat} (hr : Room r X.A) (ha : Ed X C L δ a n m (.str x)) (hb : E X C L δ b m k (Eq (SV.o (obD kvs)))) (hx : findD kvs x = some d) (hm : behindInMarks .In b = false := by with_unfolding_all rfl) : T X C L δ (.Compare a [.In] [b] pos) n k true :=
  PT.imp (pt_cmp (pc_din (hu_of hr) ha hb) hm) fun σ H Q ⟨t, q⟩ => ⟨t, fun v H2 sv k1 h1 e1 s1 => by
    subst e1
    cases s1
    refine ⟨t.go k1 h1, fun w H3 sw k2 h2 e2 s2 => ?_⟩
    subst e2
    obtain ⟨r', vs, rfl, nr, hd, g⟩ := s2
    obtain ⟨v, h3, h4⟩ := ent_find g hx
    exact ⟨r', some v, rfl, .inl ⟨_, Sum.inr x, .inl hd, rfl, h3.symm⟩, true, rfl, q H3 (k1.trans k2) h2⟩⟩
end
section
variable {X : Cx} {F : Fm} {L : Ls} {δ : Dl} {n m : Nat} {D0 : Ends} {rest : List Stmt} {pos : Pos}
theorem r_ifJ {u : Bool} {t : Expr} {a b : List Stmt} (J : Cf → Prop) (hc : T X F.C L δ t n m u) (hu : u = true) (ga : Bk X F ⟨L, δ, m⟩ { D0 with nx := Post X.K F J } a) (g : ∀ c', J c' → Bk X F c' D0 rest) : Bk X F ⟨L, δ, n⟩ D0 (.If t a b pos :: rest) := r_if J hc (fun _ => ga) (fun h => by rw [hu] at h; cases h) g
theorem r_elJ {u : Bool} {t : Expr} {a b : List Stmt} (J : Cf → Prop) (hc : T X F.C L δ t n m u) (hu : u = false) (gb : Bk X F ⟨L, δ, m⟩ { D0 with nx := Post X.K F J } b) (g : ∀ c', J c' → Bk X F c' D0 rest) : Bk X F ⟨L, δ, n⟩ D0 (.If t a b pos :: rest) := r_if J hc (fun h => by rw [hu] at h; cases h) (fun _ => gb) g
end
end Wk
namespace N0
open PySem PySem.Spec PyProof.Rows L2 Wk
/-- the numbers of the kinds -/
def numK (ns : List Str) : List (Str × PD) := ns.mapIdx fun i s => (s, .int (i : Nat))
theorem numK_find {ns : List Str} (h : ns.Nodup) {a : Nat} (ha : a < ns.length) : findD (numK ns) ns[a] = some (.int (a : Nat)) := by
  unfold findD numK
  have e : (ns.mapIdx fun i s => ((s, PyData.int (i : Nat)) : Str × PD)).find? (fun z => decide (z.1 = ns[a])) = some (ns[a], .int (a : Nat)) := by
    rw [List.find?_eq_some_iff_getElem]
    refine ⟨by simp, a, by simpa using ha, by simp, fun j hj => ?_⟩
    have hj2 : j < ns.length := Nat.lt_trans hj ha
    simp only [List.getElem_mapIdx, Bool.not_eq_true', decide_eq_false_iff_not]
    intro z
    have := (List.getElem_inj h).mp z
    omega
  rw [e]
  rfl
section
variable {P : Program} {w : World} {K : PySem.W.Frag} {mg : Str → Option Value} {base : Heap} {f : Addr} {fd : FuncData}
theorem sc20 : FnScope ["number", "row", "kinds", "drawn", "name", "motion"] ["number", "row", "kinds"] (defScope (topS 20)) := ⟨rfl, rfl, rfl, by decide +kernel, rfl, by decide +kernel, by decide +kernel⟩
def okDR : List SV → (SV → Prop) → Prop := fun ds R => ∃ (o : Own) (cs : List PD) (q : Int), OwnOk o ∧ (∀ d ∈ cs, CellOk o.s o.ns.length d) ∧ cs.length ≤ 100 ∧ ds = [.d (.int q), .d (.list (cs.map (toldD o))), .o (obD (numK o.ns))] ∧ R = Eq (SV.d (.list cs))
theorem drawn_row (z : Bt mg) (hw' : Words K mg) (F : Fun K "drawn_row" "drawn_row" (topS 20) f fd) : Gd P w K mg base CX0 1 f fd ["number", "row", "kinds"] (SpV K okDR) := by
  obtain ⟨t1, t2, aM, es, q, g1, g2, g3, DM, fM⟩ := hw'.ex
  refine okV F sc20 (fun ds R ⟨_, _, _, _, _, _, e, _⟩ => by rw [e]; rfl) fun cdv A outer s H E B ds R fm D0 ⟨o, cs, q, ho, hc, hl, e1, e2⟩ gu hr hC hw => ?_
  subst e1 e2
  refine r_new 3 (fun D => ?_) sc20.nd
  refine r_for (m := 0) (tgd := .tup [.name 4, .name 5]) (ds := cs.map (toldD o))
    (fun i cf => ∃ x1 x2 : Option SV, cf = ⟨[(D, cs.take i)], [some (.d (.int q)), some (.d (.list (cs.map (toldD o)))), some (.o (obD (numK o.ns))), some (.v (.ref D)), x1, x2], 0⟩)
    rfl PassesOwn.never (i_list (e_var 1)) (g_tup rfl (gs_cons (g_name 4 sc20.nd) (gs_cons (g_name 5 sc20.nd) gs_nil))) ⟨none, none, rfl⟩ (fun k cf ⟨_, _, e⟩ => by rw [e]; rfl) ?_ ?_
  · rintro i d cf H1 hd ⟨x1, x2, rfl⟩
    have hi : i < cs.length := by
      have := (List.getElem?_eq_some_iff.mp hd).1
      simpa using this
    have hget : cs[i]? = some cs[i] := List.getElem?_eq_getElem hi
    rw [List.getElem?_map, hget] at hd
    cases hd
    have hok := hc cs[i] (List.getElem_mem hi)
    have nx := take_next hget
    have hlt : (cs.take i).length ≤ 100000 := by
      have := List.length_take_le i cs
      have := List.length_take_le' i cs
      omega
    generalize hcc : cs[i] = c at hok nx ⊢
    have blank : ∀ {X : Cx} {C : Ct} {L : Ls} {δ : Dl} {n : Nat} {p : Pos}, X.K = K → X.mg = mg → Gl X "BLANK_WORD" → Ed X C L δ (.Name "BLANK_WORD" p) n n (.str ".") := fun h1 h2 h3 => e_glob (v := .str ".") (by rw [h2]; exact g1) ⟨_, rfl⟩ (fun _ _ => .str _) h3
    have full : ∀ {X : Cx} {C : Ct} {L : Ls} {δ : Dl} {n : Nat} {p : Pos}, X.K = K → X.mg = mg → Gl X "FULL_WORD" → Ed X C L δ (.Name "FULL_WORD" p) n n (.str "#") := fun h1 h2 h3 => e_glob (v := .str "#") (by rw [h2]; exact g2) ⟨_, rfl⟩ (fun _ _ => .str _) h3
    rcases hok with rfl | rfl | ⟨a, m, rfl, ha, hm⟩
    · refine ⟨_, rfl, ?_⟩
      exact r_ifJ (m := 0) _ (t_eqS (e_var 4) (blank rfl rfl rfl)) (decide_eq_true rfl) (r_append (m := 0) (d := .none) (e_var 3) e_non hlt (r_end (J := _) rfl)) fun c' e => by subst e; exact r_end (J := _) ⟨_, _, by rw [nx]; rfl⟩
    · refine ⟨_, rfl, ?_⟩
      refine r_elJ (m := 0) _ (t_eqS (e_var 4) (blank rfl rfl rfl)) (by decide +kernel) (r_ifJ (m := 0) _ (t_eqS (e_var 4) (full rfl rfl rfl)) (decide_eq_true rfl) (r_append (m := 0) (d := .str "full") (e_var 3) e_str hlt (r_end (J := _) rfl)) fun c' e => by subst e; exact r_end (J := _) rfl) fun c' e => by subst e; exact r_end (J := _) ⟨_, _, by rw [nx]; rfl⟩
    · have hgd : o.ns.getD a "" = o.ns[a] := by simp [List.getD, ha]
      have hnm : Nm (o.ns.getD a "") := ho.ns.ok _ (by rw [hgd]; exact List.getElem_mem ha)
      have hf : findD (numK o.ns) (o.ns.getD a "") = some (.int (a : Nat)) := by
        rw [hgd]
        exact numK_find ho.ns.nd ha
      have n1 : decide (o.ns.getD a "" = ("." : Str)) = false := decide_eq_false fun z => nm_plain hnm (by rw [z]; decide +kernel)
      have n2 : decide (o.ns.getD a "" = ("#" : Str)) = false := decide_eq_false fun z => nm_plain hnm (by rw [z]; decide +kernel)
      refine ⟨_, rfl, ?_⟩
      refine r_elJ (m := 0) _ (t_eqS (s := o.ns.getD a "") (e_var 4) (blank rfl rfl rfl)) n1 (r_elJ (m := 0) _ (t_eqS (s := o.ns.getD a "") (e_var 4) (full rfl rfl rfl)) n2 (r_ifJ (m := 0) _ (t_dinT (x := o.ns.getD a "") hr (e_var 4) (e_var 2) hf) rfl (r_append (m := 0) (d := .tuple [.int (a : Nat), .int (m : Nat)]) (e_var 3) (e_tup (a_cons (e_dgetV (x := o.ns.getD a "") hr (e_var 2) (e_var 4) hf) (a_cons (e_var 5) a_nil))) hlt (r_end (J := _) rfl)) fun c' e => by subst e; exact r_end (J := _) rfl) fun c' e => by subst e; exact r_end (J := _) rfl) fun c' e => by subst e; exact r_end (J := _) ⟨_, _, by rw [nx]; rfl⟩
  · rintro cf ⟨x1, x2, rfl⟩
    refine r_retM (m := 0) hw (e_var 3) List.mem_cons_self ?_
    rw [List.length_map, List.take_length]
end
end N0
namespace N0
open PySem PySem.Spec PyProof.Rows L2 Wk
/-! ### the text of a book, read back: lines, words -/
theorem joinL_mem {sp : List Nat} {c : Nat} : ∀ {ps : List (List Nat)}, c ∈ TL.joinL sp ps → c ∈ sp ∨ ∃ p ∈ ps, c ∈ p
  | [], h => absurd h List.not_mem_nil
  | [p], h => .inr ⟨p, List.mem_cons_self, h⟩
  | p :: q :: r, h => by
    rcases List.mem_append.mp (show c ∈ p ++ (sp ++ TL.joinL sp (q :: r)) from h) with h | h
    · exact .inr ⟨p, List.mem_cons_self, h⟩
    · rcases List.mem_append.mp h with h | h
      · exact .inl h
      · rcases joinL_mem h with h | ⟨x, hx, h⟩
        · exact .inl h
        · exact .inr ⟨x, List.mem_cons_of_mem _ hx, h⟩
theorem join_mem {sp : Str} {ss : List Str} {c : Nat} (h : c ∈ (Txt.join sp ss).cps.toList) : c ∈ sp.cps.toList ∨ ∃ s ∈ ss, c ∈ s.cps.toList := by
  rw [TL.join_eq] at h
  have h2 : c ∈ TL.tl (Str.join sp ss) := h
  rw [TL.tl_join] at h2
  rcases joinL_mem h2 with h | ⟨p, hp, h⟩
  · exact .inl h
  · obtain ⟨s, hs, rfl⟩ := List.mem_map.mp hp
    exact .inr ⟨s, hs, h⟩
/-- no blank, no line feed -/
def Tight (s : Str) : Prop := ∀ c ∈ s.cps.toList, c ≠ 32 ∧ c ≠ 10
theorem tight_app {s t : Str} (h : Tight s) (g : Tight t) : Tight (s ++ t) := fun c hc => by
  rw [str_app] at hc
  rcases List.mem_append.mp hc with q | q
  · exact h c q
  · exact g c q
theorem tight_nm {s : Str} (h : Nm s) : Tight s := fun c hc => by
  have := h.2.2.1 c hc
  omega
theorem tight_mo {m : Nat} (h : m < 8) : Tight (toString ((m : Nat) : Int) : Str) := by
  have : ∀ m : Nat, m < 8 → ∀ c ∈ (toString ((m : Nat) : Int) : Str).cps.toList, c ≠ 32 ∧ c ≠ 10 := by decide +kernel
  exact this m h
theorem tight_cell {o : Own} (ho : OwnOk o) {d : PD} (hd : CellOk o.s o.ns.length d) : Tight (cellT o d) := by
  rcases hd with rfl | rfl | ⟨a, m, rfl, ha, hm⟩
  · exact (show ∀ c ∈ ("." : Str).cps.toList, c ≠ 32 ∧ c ≠ 10 by decide +kernel)
  · exact (show ∀ c ∈ ("#" : Str).cps.toList, c ≠ 32 ∧ c ≠ 10 by decide +kernel)
  · rw [cellT_at]
    refine tight_app (tight_nm (ho.ns.ok _ (by simp [ha]))) ?_
    split
    · exact tight_app (show ∀ c ∈ ("/" : Str).cps.toList, c ≠ 32 ∧ c ≠ 10 by decide +kernel) (tight_mo (mo_lt hm))
    · exact fun c hc => absurd hc List.not_mem_nil
/-- the words of a row -/
def wordsT (o : Own) (bs : List PD) (r : Nat) : List Str := ((bs.map (cellT o)).drop (r * o.b)).take o.b
theorem row_split {o : Own} (ho : OwnOk o) {bs : List PD} (hb : BlockOk o.s o.b o.ns.length bs) {r : Nat} (hr : r < cnt o) : Txt.split (rowT o bs r) (" " : Str) = wordsT o bs r := by
  have hsz : (wordsT o bs r).length = o.b := by
    unfold wordsT
    rw [List.length_take, List.length_drop, List.length_map, hb.1]
    unfold cnt at hr
    unfold size
    rcases ho.s with h | h
    · rw [if_pos h] at hr
      rw [if_pos h]
      have : r = 0 := by omega
      subst this
      omega
    · rw [if_neg (by omega)] at hr
      rw [if_neg (by omega)]
      have h1 : (r + 1) * o.b ≤ o.b * o.b := Nat.mul_le_mul_right o.b hr
      rw [Nat.succ_mul] at h1
      omega
  refine TL.split_join (y := " ") (s := 32) (S := []) (by decide +kernel) (by decide +kernel) (fun e => ?_) fun p hp => ?_
  · have h1 := congrArg List.length e
    unfold wordsT at hsz
    rw [hsz, List.length_nil] at h1
    have := ho.b.1
    omega
  · obtain ⟨d, hd, rfl⟩ := List.mem_map.mp (take_sub hp)
    exact fun z => (tight_cell ho (hb.2 d hd) 32 z).1 rfl
theorem kind_split {nm : Str} (h : Nm nm) : Txt.split (("kind " : Str) ++ nm) (" " : Str) = [("kind" : Str), nm] := by
  have e : ("kind " : Str) ++ nm = Txt.join (" " : Str) [("kind" : Str), nm] := TL.ext_tl (by
    rw [TL.join_eq, TL.tl_join]
    show (("kind " : Str) ++ nm).cps.toList = ("kind" : Str).cps.toList ++ ((" " : Str).cps.toList ++ nm.cps.toList)
    rw [str_app, ← List.append_assoc]
    rfl)
  rw [e]
  refine TL.split_join (y := " ") (s := 32) (S := []) (by decide +kernel) (by decide +kernel) (by simp) fun p hp => ?_
  rcases List.mem_cons.mp hp with e | hp
  · rw [e]
    exact (show (32 : Nat) ∉ ("kind" : Str).cps.toList by decide +kernel)
  · rw [List.mem_singleton.mp hp]
    exact fun z => (tight_nm h 32 z).1 rfl
theorem head_feed {s b : Nat} (hs : s = 1 ∨ s = 2) (h2 : 2 ≤ b) (h4 : b ≤ 4) : (10 : Nat) ∉ (headOf s b).cps.toList :=
  combos (p := fun s b => (10 : Nat) ∉ (headOf s b).cps.toList) hs h2 h4 (by decide +kernel)
theorem line_feed {o : Own} (ho : OwnOk o) {i : Nat} : ∀ s ∈ linesTo o i, (10 : Nat) ∉ s.cps.toList := fun s hs => by
  rcases List.mem_cons.mp hs with e | h
  · rw [e]
    exact head_feed ho.s ho.b.1 ho.b.2
  · obtain ⟨z, hz, h⟩ := List.mem_flatMap.mp h
    have q := zip_ok ho (List.mem_of_mem_take hz)
    rcases List.mem_cons.mp h with e | h
    · rw [e]
      intro hc
      rw [str_app] at hc
      rcases List.mem_append.mp hc with y | y
      · exact absurd y (by decide +kernel)
      · exact (tight_nm q.1 10 y).2 rfl
    · obtain ⟨r, _, rfl⟩ := List.mem_map.mp h
      intro hc
      rcases join_mem hc with y | ⟨w, hw, y⟩
      · exact absurd y (by decide +kernel)
      · obtain ⟨d, hd, rfl⟩ := List.mem_map.mp (take_sub hw)
        exact (tight_cell ho (q.2.2 d hd) 10 y).2 rfl
/-- the lines of a book's text -/
theorem text_split {o : Own} (ho : OwnOk o) : Txt.split (bookT o) ("\n" : Str) = linesTo o o.ns.length :=
  TL.split_join (y := "\n") (s := 10) (S := []) (by decide +kernel) (by decide +kernel) (by simp [linesTo]) (line_feed ho)
end N0
namespace Wk
open PySem PySem.Spec PyProof.Rows L2
/-! ### enumerate(list, start=k) -/
/-- a new pair at each turn -/
def ItLk (K : PySem.W.Frag) (a : Addr) (q0 : Int) : It where
  go := fun i H => ∃ (xs : List V) (x : V), SqL K H a xs ∧ xs[i]? = some x
  yld := fun i H v H' => ∃ T x, v = .ref T ∧ H T = none ∧ H' = upd H T (.tup [.int (q0 + (i : Nat)), x]) ∧ ∀ xs, SqL K H a xs → xs[i]? = some x
  stop := fun i H => ∃ xs : List V, SqL K H a xs ∧ xs.length ≤ i
theorem turn_Lk {P : Program} {w : World} {K : PySem.W.Frag} {elts : List Expr} {kk : Nat} {tpos : Pos} (a e it : Addr) (q0 : Int) :
    Turn P w K (.Tuple elts kk tpos) (ItLk K a q0) [e, it] e (fun i h => (∃ old, IsEnum h e it (q0 + ((i : Nat) : Int)) old) ∧ h.IsListIter it a i ∧ e ≠ it) := by
  constructor
  · simp
  · rintro i h ⟨⟨old, he⟩, ⟨o, ho, hc, hd⟩, _⟩ b hb
    have two : b = e ∨ b = it := by simpa using hb
    rcases two with rfl | rfl
    · exact ⟨_, he, fun v q => nomatch q⟩
    · exact ⟨o, ho, fun v q => by rw [hd] at q; cases q⟩
  · rintro i h h' ⟨⟨old, he⟩, hi, ne⟩ k
    exact ⟨⟨old, k e (by simp) _ he⟩, hi.at (fun o q => k it (by simp) o q), ne⟩
  · rintro X rfl rfl rfl hc i pins s σ H E I hf ⟨⟨old, he⟩, hit, ne⟩ ⟨xs, x, hq, hx⟩
    obtain ⟨its, rv, p, hz⟩ := I.list hq
    obtain ⟨u, hu, ru⟩ := rv.get hx
    have hel : e < s.heap.objs.size := Heap.lt_size he
    have hil : it < s.heap.objs.size := by
      obtain ⟨_, q, _⟩ := hit
      exact Heap.lt_size q
    have hpT : s.heap.IsList a its.toArray := p.isList
    have ha : a ≠ it := by
      rintro rfl
      obtain ⟨o1, q1, c1, _⟩ := hpT
      obtain ⟨o2, q2, c2, _⟩ := hit
      rw [q1] at q2
      cases q2
      rw [c1] at c2
      injection c2 with c3
      exact absurd c3 (by decide)
    have hae : a ≠ e := by
      rintro rfl
      obtain ⟨o1, q1, c1, _⟩ := hpT
      have q2 : s.heap.get? a = some _ := he
      rw [q1] at q2
      cases q2
      injection c1 with c3
      exact absurd c3 (by decide)
    have hlt : i < its.toArray.size := by
      have := (List.getElem?_eq_some_iff.mp hu).1
      simpa using this
    have D := Draws.list (prog := X.prog) (w := X.w) (A := X.A.in1) (I.ok.hd hc) it a ha its.toArray
    refine wpAny_pyNext_enum_itemC D he ⟨hit, hpT⟩ hlt ne (by simp only [List.mem_cons, List.not_mem_nil, or_false]; exact fun z => z.elim ne (fun z => hae z.symm)) fun y h' tk hy ho ⟨hit', hT'⟩ hT hsz hk => ?_
    have ey : y = u := by
      have h1 : its.toArray[i]? = some y := hy
      have h2 : its.toArray[i]? = some u := by simpa using hu
      rw [h1] at h2
      exact Option.some.inj h2
    subst ey
    refine ⟨_, rfl, wpAny_letOwnedTupleGo_enum (s := { s with heap := h', toks := tk + 1 }) ho fun h'' he' sb => ?_⟩
    have newT : h''.get? s.heap.objs.size = some { cls := .type "tuple", data := .seq #[.int (q0 + (i : Nat)) tk, y] } := (sb.2 _ (Nat.ne_of_gt hel)).trans hT
    have okT : ObjOk X.prog X.w (upd H s.heap.objs.size (.tup [.int (q0 + (i : Nat)), x])) h'' s.heap.objs.size (.tup [.int (q0 + (i : Nat)), x]) := by
      refine ⟨?_, [.int (q0 + (i : Nat)) tk, y], .cons ⟨_, rfl⟩ (.cons ru .nil), ⟨_, newT, rfl, _, rfl⟩⟩
      show 2 ≤ sizeLine
      decide
    have I1 : Inv X pins σ (upd H s.heap.objs.size (.tup [.int (q0 + (i : Nat)), x])) { s with heap := h'', toks := tk + 1 } :=
      I.turnedNew (ch := [e, it]) (fun b ob hb q => (sb.2 b (fun z => hb (by simp [z]))).trans (hk b ob (fun z => hb (by simp [z])) (fun z => hb (by simp [z])) q)) hf (Nat.le_refl _) okT
    refine ⟨.ref s.heap.objs.size, _, I1, rfl, ⟨_, x, rfl, I.hok.fresh (Nat.le_refl _), rfl, fun ys hy2 => ?_⟩, ⟨⟨y, ?_⟩, hit'.at fun o q => (sb.2 it (Ne.symm ne)).trans q, ne⟩, fun b hb => ?_⟩
    · rw [I.list_inj hy2 hq]
      exact hx
    · have e1 : q0 + ((i + 1 : Nat) : Int) = q0 + (i : Int) + 1 := by omega
      rw [e1]
      exact he'
    · have two : b = e ∨ b = it := by simpa using hb
      have lt : b < s.heap.objs.size := by rcases two with z | z <;> (rw [z]; assumption)
      rw [upd_ne (Nat.ne_of_lt lt)]
      exact (hf b hb).1
  · rintro X rfl rfl rfl hc i pins s σ H E I hf ⟨⟨old, he⟩, hit, ne⟩ ⟨xs, hq, hx⟩
    obtain ⟨its, rv, p, hz⟩ := I.list hq
    have hpT : s.heap.IsList a its.toArray := p.isList
    obtain ⟨f0, f1, f2, f3, f4, f5⟩ := hf it (by simp)
    have hl := rv.length
    have hT : s.TypeIs (.ref e) "enumerate" := ⟨_, he, rfl⟩
    unfold pyNext
    refine wpAny_bind (wpAny_attempt (wpAny_callSpecial?_slot (name := Str.ofString "__next__") hT F.slot_enumerate_next (wpAny_call_entry F.slot_enumerate_next hT F.entry_enumerate_next ?_ (F.args_enumerate_next_1 _))))
    show wpAny _ _ (field (.ref e) 2 >>= _) _ _ _
    refine wpAny_bind (wpAny_field he rfl (x := .ref it) rfl (wpAny_bind (wpAny_nextOf_list_end (I.ok.hd hc) hit hpT (by simp; omega) fun h' x ext hx' => ?_)))
    obtain ⟨o, ho, hc'⟩ := hx'
    exact wpAny_bind (wpAny_isInstance (T := "StopIteration") (b := true) ⟨o, ho, hc'⟩ isSubtype_stop (wpAny_pure ⟨rfl, I.turned (t' := s.toks) (fun b o hb q => ext b o hb q) f0 f1 f3 f4 f5⟩))
  · rintro A i s Q E ⟨⟨_, he⟩, _⟩ h
    exact wpAny_pyIter_enum he h
theorem walk_Lk {K : PySem.W.Frag} {a : Addr} {q0 : Int} {xs : List V} : Walk (ItLk K a q0) xs.length (fun H => SqL K H a xs) (YPair (fun i => some (.int (q0 + (i : Nat)))) (fun i => xs[i]?)) := by
  constructor
  · exact fun i _ hi q => ⟨xs, xs[i], q, by simp [hi]⟩
  · exact fun _ q => ⟨xs, q, Nat.le_refl _⟩
  · rintro i H v H' _ q ⟨T, x, h1, h2, h3, h4⟩
    exact ⟨T, .int (q0 + (i : Nat)), x, h1, h2, h3, rfl, h4 xs q⟩
def pairsK (q0 : Int) (ds : List PD) : List PD := ds.mapIdx fun i d => .tuple [.int (q0 + (i : Nat)), d]
theorem goes_Lk {K : PySem.W.Frag} {B : List Addr} {H : Hp} {a : Addr} {q0 : Int} {xs : List V} {ds : List PD} (r : RdL K B H a xs) (g : DvAll K B H xs ds) : Goes K B (ItLk K a q0) (pairsK q0 ds) H := by
  refine ⟨fun B H => RdL K B H a xs ∧ DvAll K B H xs ds, ⟨r, g⟩, fun B H p h f => ⟨h.1.grow f, h.2.grow f⟩, fun B H H' h k => ⟨h.1.keep k, h.2.keep k⟩, fun B => ?_⟩
  rw [show (pairsK q0 ds).length = xs.length by rw [g.length]; simp [pairsK]]
  exact walk_Lk.mono (fun H h => h.1.sq) fun i H x H' hi h y kn => by
    obtain ⟨T, y1, y2, rfl, nT, rfl, e1, e2⟩ := y
    cases e1
    obtain ⟨d, e3, hd⟩ := h.2.vget e2
    have sm := same_new (o := .tup [.int (q0 + (i : Nat)), y2]) nT
    refine ⟨sm, .tuple [.int (q0 + (i : Nat)), d], by simp [pairsK, e3], .tup (.inl ⟨fun z => kn _ z nT, .inl upd_same⟩) (.cons (.int _) (.cons (hd.keep (.same sm)) .nil))⟩
/-- a built-in class called with keywords -/
theorem ty_kw {M : Model} {A : Around} {E : Value → Shared → Prop} {s : Shared} {pos : Pos} {T : String} {tr : Sem Value} {ks : List (Option Str × Sem Value)} {Q : Value → Shared → Prop} (hall : ks.all (·.1.isSome) = true) (hkw : ks.any (·.1.isNone) = false)
    (h : wpAny M A (spliced [(false, tr)]) (fun us t => wpAny M A (evalAll (ks.map (·.2))) (fun ws t2 => wpAny M A (call (.type T) us ((ks.filterMap (·.1)).zip ws)) Q E t2) E t) E s) : wpAny M A (callWith pos (.type T) [] [(false, tr)] ks) Q E s := by
  have args := evalArgs_kwB (f := .type T) (Q := fun a t => wpAny M A (call (.type T) a.pos a.kw) Q E t) hall h
  unfold callWith
  refine wpAny_bind (wpAny_holding (wpAny_mono args (fun a t g => wpAny_bind (wpAny_standAt ?_)) fun _ _ z => z))
  simp only [List.any_cons, List.any_nil, hkw, Bool.or_false]
  refine wpAny_bind (wpAny_pure ?_)
  refine wpAny_bind (wpAny_mono g (fun r t2 hr => ?_) fun _ _ z => z)
  exact wpAny_bind (wpAny_holding (wpAny_point (wpAny_pure hr)))
def iLk (K : PySem.W.Frag) (q0 : Int) (ta : TA) : TI := fun σ H R => ta σ H fun vs H1 => ∃ a xs, vs = [.ref a] ∧ SqL K H1 a xs ∧ R (ItLk K a q0) H1
theorem pi_Lk {X : Cx} {e : Expr} {ta : TA} {p pos tpos kp ks : Pos} {elts : List Expr} {kk jk : Nat} {q0 : Int} (hg : Gl X "enumerate") (hm : X.mg "enumerate" = none) (ha : PA X [e] ta) (hq : -(2 ^ 63) ≤ q0 ∧ q0 < 2 ^ 63) (hs : starEach [e] X.env = [(false, eval e X.env)] := by rfl) :
    PI X (.Tuple elts kk tpos) (.Call (.Name "enumerate" p) [e] [⟨some "start", .Constant (.int q0) jk kp, ks⟩] pos) (iLk X.K q0 ta) := by
  constructor
  intro pins s σ H R I h
  refine wpAny_Call_Name_kw (ld_blt I hg hm boot_enumerate ?_)
  have hA := ha.run pos pins s σ H _ I h
  rw [hs] at hA ⊢
  refine ty_kw (by rfl) (by rfl) (thn hA ?_)
  rintro us s1 ⟨vs, H1, I1, r1, a, xs, rfl, hq2, q⟩
  cases r1 with
  | cons r rr =>
    cases rr
    cases r
    refine kws_cons (thn ((pe_int (X := X) (i := q0)).run pins s1 σ H1 (fun v H' => v = .int q0 ∧ H' = H1) I1 ⟨rfl, rfl⟩) ?_)
    rintro u s2 ⟨v, H2, I2, rv, rfl, rfl⟩
    obtain ⟨t, rfl⟩ := rv
    refine kws_nil ?_
    obtain ⟨its, rv2, p', hz⟩ := I2.list hq2
    refine enum_begins_start (begins_list a its.toArray) p'.isList hq.1 hq.2 fun h' he hit hsz hk => wpAny_pyIter_enum he ?_
    have I3 : Inv X pins σ H2 { s2 with heap := h' } := I2.kept (t' := s2.toks) hk
    have he0 : IsEnum h' (s2.heap.objs.size + 1) s2.heap.objs.size (q0 + ((0 : Nat) : Int)) .none := by
      rw [show q0 + ((0 : Nat) : Int) = q0 by omega]
      exact he
    refine ⟨s2.heap.objs.size + 1, [s2.heap.objs.size + 1, s2.heap.objs.size], _, _, H2, rfl, I3, turn_Lk a _ _ q0, ⟨⟨.none, he0⟩, ⟨_, hit, rfl, rfl⟩, Nat.succ_ne_self _⟩, fun b hb => ?_, q⟩
    have two : b = s2.heap.objs.size + 1 ∨ b = s2.heap.objs.size := by simpa using hb
    have le : s2.heap.objs.size ≤ b := by
      rcases two with z | z
      · rw [z]
        exact Nat.le_add_right _ _
      · rw [z]
        exact Nat.le_refl _
    exact I2.fpOk le (I2.hok.fresh le)
theorem i_Lk {X : Cx} {C : Ct} {L : Ls} {δ : Dl} {n m : Nat} {e : Expr} {pos p kp ks : Pos} {jk : Nat} {q0 : Int} {ds : List PD} {elts : List Expr} {kk : Nat} {tpos : Pos} (hm : X.mg "enumerate" = none) (h : Ed X C L δ e n m (.list ds)) (hq : -(2 ^ 63) ≤ q0 ∧ q0 < 2 ^ 63) (hg : Gl X "enumerate" := by rfl) (hs : starEach [e] X.env = [(false, eval e X.env)] := by rfl) (hs2 : starEach [e] X.env = (false, eval e X.env) :: starEach [] X.env := by rfl) :
    Wi X C L δ (.Tuple elts kk tpos) (.Call (.Name "enumerate" p) [e] [⟨some "start", .Constant (.int q0) jk kp, ks⟩] pos) n m (pairsK q0 ds) := PI.imp (pi_Lk hg hm (a_cons h a_nil hs2) hq hs) fun σ H R ⟨t, q⟩ => ⟨t, fun vs H2 svs k1 h1 e1 s1 => by
  subst e1
  obtain ⟨v, rfl, g⟩ := DvAll.one s1
  cases g with
  | lst r g => exact ⟨_, _, rfl, r.sq, q _ H2 k1 h1 (goes_Lk r g)⟩⟩
end Wk
namespace Wk
open PySem PySem.Spec PyProof.Rows L2
section
variable {X : Cx} {C : Ct} {L : Ls} {δ : Dl} {n m k : Nat} {a b c e : Expr} {pos p : Pos} {ds : List PD} {d : PD}
/-- xs[i:] -/
theorem e_from {i : Nat} {p2 : Pos} (ha : Ed X C L δ a n m (.list ds)) (hb : Ed X C L δ b m k (.int (i : Nat))) : Ed X C L δ (.Subscript a (.Slice (some b) none none p2) pos) n k (.list (ds.drop i)) :=
  PE.imp (pe_slice sl_list ha (po_some hb) po_none) fun σ H Q ⟨t, q⟩ => ⟨t, fun v H2 sv k1 h1 r1 s1 => ⟨t.go k1 h1, fun w H3 sw k2 h2 r2 s2 => by
    subst r1 r2
    cases s2
    have s3 := Dv.keep s1 (k2.wider bs_bd)
    cases s3 with
    | @lst r xs _ r' g =>
      refine ⟨_, rfl, r, xs, rfl, r'.sq, fun y ny => ?_⟩
      have sm := same_new (o := .lst (cutV xs (some (i : Int)) none)) ny
      refine q _ _ _ (k1.trans (k2.trans (.same sm))) (h2.same sm) rfl (Dv.lst (.inl ⟨h2.fresh ny, .inl upd_same⟩) (DvAll.keep ?_ (.same sm)))
      unfold cutV
      rw [HT.sIx_nat, HT.sIx_none]
      have g2 := cut_data (min i xs.length) (xs.length - min i xs.length) g
      have e1 : (ds.drop (min i xs.length)).take (xs.length - min i xs.length) = ds.drop i := by
        rw [g.length]
        by_cases h : i ≤ ds.length
        · rw [Nat.min_eq_left h, List.take_of_length_le (by rw [List.length_drop]; omega)]
        · rw [Nat.min_eq_right (by omega), List.drop_of_length_le (Nat.le_refl _), List.drop_of_length_le (show ds.length ≤ i by omega), List.take_nil]
      rw [e1] at g2
      exact g2⟩⟩
/-- the truth of a list that is being filled -/
theorem t_truM {r : Addr} (hl : (r, Cont.lst (ds)) ∈ L) (ha : Ev X C L δ a n m (.ref r)) (he : ∀ whole, isTrue a X.env whole = (do let v ← whole; standAt a.pos; holding [v] (truthy v)) := by intro _; rfl) : T X C L δ a n m (!ds.isEmpty) :=
  PT.imp (pt_truth ha he) fun σ H Q ⟨t, q⟩ => ⟨t, fun v H2 sv k1 h1 e1 s1 => by
    subst e1
    have e0 : v = .ref r := s1
    subst e0
    obtain ⟨xs, hx, gx⟩ := h1.ls r _ hl
    have e2 : xs.isEmpty = ds.isEmpty := by
      cases gx <;> rfl
    exact ⟨_, .inl ⟨xs, .inl (.inl hx), rfl⟩, by rw [e2]; exact q H2 k1 h1⟩⟩
end
section
variable {X : Cx} {F : Fm} {L : Ls} {δ : Dl} {n m k : Nat} {D0 : Ends} {rest : List Stmt} {x y : Str} {pos p q : Pos} {e : Expr} {ds fs : List PD} {d : PD}
/-- append to the second of the lists that are filled -/
theorem r_append2 {D E : Addr} {o a : Expr} {apos cpos : Pos} (ho : Ev X F.C ((E, fs) :: (D, ds) :: L) δ o n n (.ref D)) (ha : Ed X F.C ((E, fs) :: (D, ds) :: L) δ a n m d) (hz : ds.length ≤ 100000) (g : Bk X F ⟨(E, fs) :: (D, ds ++ [d]) :: L, δ, m⟩ D0 rest)
    (hbase : attributeBase o "append" X.env (eval o X.env) = eval o X.env := by rfl)
    (hfew : ((backTo cpos (starEach [a] X.env)).all (fun x => !x.1) && (backToKw cpos (keywordEach [] X.env)).all (fun x => x.1.isSome)
      && decide ([a].length + ([] : List Keyword).length + (if ([] : List Keyword).isEmpty then 0 else 1) < 30)) = true := by rfl)
    (hline : (apos.endLine == cpos.line) = true := by rfl) (hst : starEach [a] X.env = (false, eval a X.env) :: starEach [] X.env := by rfl) (hplain : (backTo cpos (starEach [] X.env)).any (·.1) = false := by rfl)
    (hs : swapsWith (.Call (.Attribute o "append" apos) [a] [] cpos) none pos.line X.env = pure false := by rfl) : Bk X F ⟨(E, fs) :: (D, ds) :: L, δ, n⟩ D0 (.Expr (.Call (.Attribute o "append" apos) [a] [] cpos) pos :: rest) :=
  r_cons (fun c' => c' = ⟨(E, fs) :: (D, ds ++ [d]) :: L, δ, m⟩) (PS.imp (ps_expr (pe_bm PySem.F.plainAttrs_list PySem.F.slot_list_append PySem.F.type_list_append mt_append ho (a_cons ha a_nil hst) hbase hfew hline hst hplain) hs) fun DD σ H ⟨le, ii⟩ => ⟨ii.at_, fun v H2 sv k1 h1 r1 s1 => by
    subst r1
    have e0 : v = .ref D := s1
    subst e0
    have mem2 : (D, Cont.lst ds) ∈ (((E, Cont.lst fs) :: (D, Cont.lst ds) :: L) : Ls) := List.mem_cons_of_mem _ List.mem_cons_self
    obtain ⟨xs, hx, gx⟩ := h1.ls D ds mem2
    refine ⟨.inl ⟨rfl, _, .inl (.inl hx)⟩, (ii.go k1 h1).at_, fun vs H3 svs k2 h2 r2 s2 => ?_⟩
    subst r2
    obtain ⟨w, rfl, gw⟩ := DvAll.one s2
    obtain ⟨ys, hy, gy⟩ := h2.ls D ds mem2
    have i3 := (ii.go k1 h1).go k2 h2
    have kD : Keep (Bs F.C ((E, fs) :: (D, ds) :: L)) H3 (upd H3 D (.lst (ys ++ [w]))) := keep_upd (List.mem_cons_of_mem _ List.mem_cons_self)
    refine ⟨D, ys, w, rfl, rfl, hy, ?_, le.nx _ _ ⟨_, rfl, ?_⟩⟩
    · rw [gy.length]
      exact Nat.lt_of_le_of_lt hz (by decide)
    · exact ⟨fun a ha => keep_anchor (i3.an a ha) (i3.fr a ha) kD, i3.fr, i3.at_.sl.keep (kD.wider bs_bd), Hold.putAt (A := [(E, fs)]) (B := L) h2 (gy.app (.cons gw .nil))⟩⟩) fun c' h => by subst h; exact g
/-- return a, b: both lists that were filled here -/
theorem r_retM2 {R : Nat → SV → Prop} {D E : Addr} {a b : Expr} {tp : Pos} {kt : Nat} (hw : Wt X.K F D0.rt R) (ha : Ev X F.C L δ a n n (.ref D)) (hb : Ev X F.C L δ b n n (.ref E)) (hm : (D, Cont.lst (ds)) ∈ L) (hm2 : (E, Cont.lst (fs)) ∈ L) (h : R n (.d (.tuple [.list ds, .list fs])))
    (hs1 : starEach [a, b] X.env = (false, eval a X.env) :: starEach [b] X.env := by rfl) (hs2 : starEach [b] X.env = (false, eval b X.env) :: starEach [] X.env := by rfl) : Bk X F ⟨L, δ, n⟩ D0 (.Return (some (.Tuple [a, b] kt tp)) pos :: rest) := by
  refine r_cons (fun _ => False) (PS.imp (ps_ret (pe_tup (ad_cons ha (ad_cons hb ad_nil hs2) hs1))) fun DD σ H ⟨le, i⟩ => ⟨i.at_, fun vs H2 svs k1 h1 r1 s1 => ?_⟩) fun _ z => z.elim
  subst r1
  cases s1 with
  | cons u s1 =>
    cases s1 with
    | cons v s1 =>
      cases s1
      have e1 : _ = V.ref D := u
      have e2 : _ = V.ref E := v
      subst e1 e2
      refine ⟨(by show 2 ≤ sizeLine; decide), fun t nt => ?_⟩
      have i2 := i.go k1 h1
      have sm := same_new (o := .tup [.ref D, .ref E]) nt
      have i3 := i2.same sm
      have h3 := h1.same sm
      have off : ∀ {r : Addr} {gs : List PD}, (r, Cont.lst (gs)) ∈ L → r ∉ Bd F.C [] := fun {r gs} hm z => by
        rcases List.mem_append.mp z with z | z
        · have nd := (List.nodup_append.mp h3.nd).2.2
          exact nd r (List.mem_map.mpr ⟨_, hm, rfl⟩) r (by simpa [Bs] using z) rfl
        · exact h3.dj (r, gs) hm z
      have dat : ∀ {r : Addr} {gs : List PD}, (r, Cont.lst (gs)) ∈ L → Dv X.K (Bd F.C []) (upd H2 t (.tup [.ref D, .ref E])) (.ref r) (.list gs) := fun {r gs} hm => by
        obtain ⟨xs, hx, gx⟩ := h3.ls r gs hm
        exact Dv.lst (.inl ⟨off hm, .inl hx⟩) (gx.less Bd_nil)
      refine le.rt _ _ (hw _ _ (.d (.tuple [.list ds, .list fs])) n i3.an h3.nil h (Dv.tup (.inl ⟨fun z => h1.nil.fresh nt z, .inl upd_same⟩) (.cons (dat hm) (.cons (dat hm2) .nil))))
end
end Wk
namespace N0
open PySem PySem.Spec PyProof.Rows L2 Wk
/-! ### the kinds of a text, line by line -/
theorem flat_get {α β : Type} {f : α → List β} {p : Nat} : ∀ (l : List α) (q r : Nat), (∀ a ∈ l, (f a).length = p) → r < p → (l.flatMap f)[q * p + r]? = (l[q]?).bind fun a => (f a)[r]?
  | [], q, r, _, _ => by simp
  | a :: l, 0, r, h, hr => by
    have ha := h a List.mem_cons_self
    rw [List.flatMap_cons, Nat.zero_mul, Nat.zero_add, List.getElem?_append_left (by omega)]
    rfl
  | a :: l, q + 1, r, h, hr => by
    have ha := h a List.mem_cons_self
    rw [List.flatMap_cons, List.getElem?_append_right (by rw [ha, Nat.succ_mul]; omega), ha, show (q + 1) * p + r - p = q * p + r by rw [Nat.succ_mul]; omega, flat_get l q r (fun b hb => h b (List.mem_cons_of_mem _ hb)) hr]
    rfl
theorem ar {h j : Nat} (h1 : 1 ≤ h) (h4 : h ≤ 4) : (j % (h + 1) = 0 → (j + h) / (h + 1) = j / (h + 1) ∧ (j + 1 + h) / (h + 1) = j / (h + 1) + 1 ∧ j - j / (h + 1) = j / (h + 1) * h ∧ j + 1 - (j / (h + 1) + 1) = j / (h + 1) * h) ∧
    (0 < j % (h + 1) → (j + h) / (h + 1) = j / (h + 1) + 1 ∧ (j + 1 + h) / (h + 1) = j / (h + 1) + 1 ∧ j - (j / (h + 1) + 1) = j / (h + 1) * h + (j % (h + 1) - 1) ∧ j + 1 - (j / (h + 1) + 1) = j / (h + 1) * h + (j % (h + 1) - 1) + 1 ∧ (j / (h + 1) * h + (j % (h + 1) - 1)) / h = j / (h + 1) ∧ (j / (h + 1) * h + (j % (h + 1) - 1)) % h = j % (h + 1) - 1) := by
  have : h = 1 ∨ h = 2 ∨ h = 3 ∨ h = 4 := by omega
  rcases this with rfl | rfl | rfl | rfl <;> simp only [Nat.reduceAdd] <;> omega
/-- the cells of a row -/
def cellsT (o : Own) (bs : List PD) (r : Nat) : List PD := (bs.drop (r * o.b)).take o.b
theorem words_cells (o : Own) (bs : List PD) (r : Nat) : wordsT o bs r = (cellsT o bs r).map (cellT o) := by
  unfold wordsT cellsT
  rw [List.map_take, List.map_drop]
theorem cells_len {o : Own} (ho : OwnOk o) {bs : List PD} (hb : BlockOk o.s o.b o.ns.length bs) {r : Nat} (hr : r < cnt o) : (cellsT o bs r).length = o.b := by
  unfold cellsT
  rw [List.length_take, List.length_drop, hb.1]
  unfold cnt at hr
  unfold size
  rcases ho.s with h | h
  · rw [if_pos h] at hr
    rw [if_pos h]
    have : r = 0 := by omega
    subst this
    omega
  · rw [if_neg (by omega)] at hr
    rw [if_neg (by omega)]
    have h1 : (r + 1) * o.b ≤ o.b * o.b := Nat.mul_le_mul_right o.b hr
    rw [Nat.succ_mul] at h1
    omega
theorem cnt_pos {o : Own} (ho : OwnOk o) : 1 ≤ cnt o ∧ cnt o ≤ 4 := by
  have := ho.b
  unfold cnt
  split <;> omega
/-- the u-th row of the text: its line's number, what its words tell -/
def rowD (o : Own) (u : Nat) : PD := match (o.ns.zip o.bl)[u / cnt o]? with
  | some z => .tuple [.int ((2 + (u / cnt o * (cnt o + 1) + (u % cnt o + 1)) : Nat) : Int), .list ((cellsT o z.2 (u % cnt o)).map (toldD o))]
  | none => .none
def allRows (o : Own) (t : Nat) : List PD := (List.range t).map (rowD o)
theorem allRows_next (o : Own) (t : Nat) : allRows o (t + 1) = allRows o t ++ [rowD o t] := by
  unfold allRows
  rw [List.range_succ, List.map_append]
  rfl
def kinds (o : Own) : List Str := (o.ns.zip o.bl).flatMap (kindT o)
theorem zip_len {o : Own} (ho : OwnOk o) : (o.ns.zip o.bl).length = o.ns.length := by
  rw [List.length_zip, ho.len, Nat.min_self]
theorem lines_all {o : Own} (ho : OwnOk o) : linesTo o o.ns.length = head o :: kinds o := by
  unfold linesTo kinds
  rw [List.take_of_length_le (by rw [zip_len ho]; exact Nat.le_refl _)]
theorem kindT_len {o : Own} {z : Str × List PD} : (kindT o z).length = cnt o + 1 := by
  show (rows o z.2).length + 1 = _
  unfold rows
  rw [List.length_map, List.length_range]
theorem kinds_len {o : Own} (ho : OwnOk o) : (kinds o).length = o.ns.length * (cnt o + 1) := by
  unfold kinds
  rw [List.length_flatMap]
  have : ∀ l : List (Str × List PD), (l.map fun z => (kindT o z).length).sum = l.length * (cnt o + 1) := by
    intro l
    induction l with
    | nil => simp
    | cons z l ih => rw [List.map_cons, List.sum_cons, ih, kindT_len, List.length_cons, Nat.succ_mul, Nat.add_comm]
  rw [this, zip_len ho]
/-- the j-th line behind the head -/
theorem kind_at {o : Own} {j : Nat} {z : Str × List PD} (hz : (o.ns.zip o.bl)[j / (cnt o + 1)]? = some z) : (kinds o)[j]? = (kindT o z)[j % (cnt o + 1)]? := by
  have h := flat_get (f := kindT o) (p := cnt o + 1) (o.ns.zip o.bl) (j / (cnt o + 1)) (j % (cnt o + 1)) (fun a _ => kindT_len) (Nat.mod_lt _ (Nat.succ_pos _))
  rw [Nat.div_add_mod' j (cnt o + 1), hz] at h
  exact h
end N0
namespace N0
open PySem PySem.Spec PyProof.Rows L2 Wk
def nc (o : Own) (j : Nat) : Nat := (j + cnt o) / (cnt o + 1)
section
variable {P : Program} {w : World} {K : PySem.W.Frag} {mg : Str → Option Value} {base : Heap} {f : Addr} {fd : FuncData}
theorem sc19 : FnScope ["lines", "sides", "base", "height", "names", "rows", "number", "line", "words", "row"] ["lines", "sides", "base"] (defScope (topS 19)) := ⟨rfl, rfl, rfl, by decide +kernel, rfl, by decide +kernel, by decide +kernel⟩
def okTK : List PD → SV → Prop := fun ds sv => ∃ o : Own, OwnOk o ∧ ds = [.list ((linesTo o o.ns.length).map PyData.str), .int (o.s : Nat), .int (o.b : Nat)] ∧ sv = .d (.tuple [.list (o.ns.map PyData.str), .list (allRows o (o.ns.length * cnt o))])
theorem told_kinds (z : Bt mg) (hCan : Knw P w K mg base CX0 3 "can_be_told" ["words", "names"] (SpP K okCan)) (hRow : Knw P w K mg base CX0 4 "told_row" ["words", "sides", "base"] (SpP K okTR)) (F : Fun K "told_kinds" "told_kinds" (topS 19) f fd) : Gd P w K mg base CX0 5 f fd ["lines", "sides", "base"] (SpP K okTK) := by
  refine okP F sc19 (fun ds sv ⟨_, _, e, _⟩ => by rw [e]; rfl) fun cdv A outer s H E B ds sv fm D0 ⟨o, ho, e1, e2⟩ gu hr hC hw hn => ?_
  subst e1 e2
  have hcp := cnt_pos ho
  have hnk := ho.k
  have hb4 := ho.b
  have hkl := kinds_len ho
  have hzl := zip_len ho
  refine r_set (m := 0) 3 (sv := .d (.int (cnt o : Nat))) (e_if (t_eqI (e_var 1) e_int) (fun h => e_eq (e_var 2) ?_) (fun h => e_eq e_int ?_)) ?_ sc19.nd
  · have := of_decide_eq_true h
    unfold cnt
    rw [if_neg (by omega)]
  · have := of_decide_eq_false h
    unfold cnt
    rw [if_pos (by have := ho.s; omega)]
    rfl
  refine r_new 4 (fun Dn => ?_) sc19.nd
  refine r_new 5 (fun Dr => ?_) sc19.nd
  refine r_for (m := 0) (tgd := .tup [.name 6, .name 7]) (ds := pairsK 2 ((kinds o).map PyData.str))
    (fun j cf => ∃ x6 x7 x8 x9 : Option SV, cf = ⟨[(Dr, allRows o (j - nc o j)), (Dn, (o.ns.take (nc o j)).map PyData.str)], [some (.d (.list ((linesTo o o.ns.length).map PyData.str))), some (.d (.int (o.s : Nat))), some (.d (.int (o.b : Nat))), some (.d (.int (cnt o : Nat))), some (.v (.ref Dn)), some (.v (.ref Dr)), x6, x7, x8, x9], 0⟩)
    rfl PassesOwn.never (i_Lk z.enumerate (e_eq (e_from (i := 1) (e_var 0) e_int) (by rw [lines_all ho]; rfl)) (by decide)) (g_tup rfl (gs_cons (g_name 6 sc19.nd) (gs_cons (g_name 7 sc19.nd) gs_nil))) ?_ (fun k cf ⟨_, _, _, _, e⟩ => by rw [e]; rfl) ?_ ?_
  · have e0 : nc o 0 = 0 := by
      unfold nc
      rw [Nat.zero_add]
      exact Nat.div_eq_of_lt (Nat.lt_succ_self _)
    exact ⟨none, none, none, none, by rw [e0]; rfl⟩
  · rintro j d cf H1 hd ⟨x6, x7, x8, x9, rfl⟩
    have hj : j < (kinds o).length := by
      have := (List.getElem?_eq_some_iff.mp hd).1
      simpa [pairsK] using this
    have hq : j / (cnt o + 1) < (o.ns.zip o.bl).length := by
      rw [hzl]
      exact Nat.div_lt_of_lt_mul (by rw [Nat.mul_comm, ← hkl]; exact hj)
    obtain ⟨⟨nm, bs⟩, hz⟩ : ∃ y, (o.ns.zip o.bl)[j / (cnt o + 1)]? = some y := ⟨_, List.getElem?_eq_getElem hq⟩
    have hzo := zip_ok ho (List.mem_of_getElem? hz)
    have hline := kind_at hz
    obtain ⟨line, hl⟩ : ∃ y, (kinds o)[j]? = some y := ⟨_, List.getElem?_eq_getElem hj⟩
    have ed : d = .tuple [.int (2 + (j : Nat)), .str line] := by
      unfold pairsK at hd
      rw [List.getElem?_mapIdx, List.getElem?_map, hl] at hd
      exact (Option.some.inj hd).symm
    subst ed
    have hlz : line.length ≤ 60 := line_len ho (i := o.ns.length) line (by rw [lines_all ho]; exact List.mem_cons_of_mem _ (List.mem_of_getElem? hl))
    have har := ar (h := cnt o) (j := j) hcp.1 hcp.2
    have hq8 : j / (cnt o + 1) < 8 + 1 := by omega
    refine ⟨_, rfl, ?_⟩
    by_cases h0 : j % (cnt o + 1) = 0
    · obtain ⟨a1, a2, a3, a4⟩ := har.1 h0
      rw [h0] at hline
      have el : line = ("kind " : Str) ++ nm := by
        rw [hl] at hline
        exact Option.some.inj hline
      subst el
      have n1 : nc o j = j / (cnt o + 1) := a1
      have n2 : nc o (j + 1) = j / (cnt o + 1) + 1 := a2
      have hnq : o.ns[j / (cnt o + 1)]? = some nm := (List.getElem?_zip_eq_some.mp hz).1
      have hq2 : j / (cnt o + 1) < o.ns.length := by rw [← hzl]; exact hq
      have lr : (allRows o (j - nc o j)).length = j / (cnt o + 1) * cnt o := by
        rw [n1, a3]
        simp [allRows]
      have ln : ((o.ns.take (nc o j)).map PyData.str).length = j / (cnt o + 1) := by
        rw [n1, List.length_map, List.length_take]
        omega
      have hni : nm ∉ o.ns.take (nc o j) := fun hm => by
        rw [n1] at hm
        obtain ⟨i, hi, e⟩ := List.mem_iff_getElem.mp hm
        have hi2 : i < j / (cnt o + 1) := by
          rw [List.length_take] at hi
          omega
        rw [List.getElem_take] at e
        have e3 : o.ns[j / (cnt o + 1)] = nm := by
          have := List.getElem?_eq_getElem hq2
          rw [hnq] at this
          exact (Option.some.inj this).symm
        have := (List.getElem_inj ho.ns.nd).mp (e.trans e3.symm)
        omega
      have hcm : CMulW ((cnt o : Nat) : Int) ((((o.ns.take (nc o j)).map PyData.str).length : Nat) : Int) := cm64 ⟨by omega, by omega⟩ ⟨by omega, by rw [ln]; omega⟩
      refine r_set (m := 0) 8 (e_eq (e_split (e_var 7) e_str (by decide +kernel) (by omega)) (by rw [kind_split hzo.1])) ?_ sc19.nd
      refine r_ifJ (m := 0) _ (t_eqI (e_lenM List.mem_cons_self z.len (e_var 5)) (e_mul hcm (e_var 3) (e_lenM (List.mem_cons_of_mem _ List.mem_cons_self) z.len (e_var 4)))) ?_ (r_ifF (m := 0) (t_not (t_val (e_callDM hCan gu hr (by decide) (List.mem_cons_of_mem _ List.mem_cons_self) (e_var 8) (e_var 4) ⟨nm, o.ns.take (nc o j), hzo.1, hni, ?_, rfl, rfl⟩))) rfl (r_append2 (m := 0) (d := .str nm) (e_var 4) (e_ixL (e_var 8) (e_int (i := 1))) (by rw [ln]; omega) (r_end (J := _) rfl))) (fun c' e => ?_)
      · rw [lr, ln]
        refine decide_eq_true ?_
        rw [Int.natCast_mul, Int.mul_comm]
      · have := List.length_take_le' (nc o j) o.ns
        omega
      · subst e
        refine r_end (J := _) ⟨some (.d (.int (2 + (j : Nat)))), some (.d (.str (("kind " : Str) ++ nm))), some (.d (.list ([("kind" : Str), nm].map PyData.str))), x9, ?_⟩
        have eN : (o.ns.take (nc o (j + 1))).map PyData.str = (o.ns.take (nc o j)).map PyData.str ++ [.str nm] := by
          rw [n2, n1, take_next hnq, List.map_append]
          rfl
        have eR : j + 1 - nc o (j + 1) = j - nc o j := by rw [n1, n2, a3, a4]
        rw [eN, eR]
        rfl
    · obtain ⟨a1, a2, a3, a4, a5, a6⟩ := har.2 (by omega)
      have hrm : j % (cnt o + 1) < cnt o + 1 := Nat.mod_lt _ (Nat.succ_pos _)
      have n1 : nc o j = j / (cnt o + 1) + 1 := a1
      have n2 : nc o (j + 1) = j / (cnt o + 1) + 1 := a2
      have hr1 : j % (cnt o + 1) - 1 < cnt o := by omega
      have el : line = rowT o bs (j % (cnt o + 1) - 1) := by
        rw [hl, show j % (cnt o + 1) = (j % (cnt o + 1) - 1) + 1 by omega] at hline
        have h2 : (kindT o (nm, bs))[j % (cnt o + 1) - 1 + 1]? = some (rowT o bs (j % (cnt o + 1) - 1)) := by
          show (rows o bs)[j % (cnt o + 1) - 1]? = _
          unfold rows
          rw [List.getElem?_map, List.getElem?_range hr1]
          rfl
        have h3 : (kindT o (nm, bs))[j % (cnt o + 1) - 1 + 1]? = some line := hline.symm
        rw [h2] at h3
        exact (Option.some.inj h3).symm
      subst el
      have lr : (allRows o (j - nc o j)).length = j / (cnt o + 1) * cnt o + (j % (cnt o + 1) - 1) := by
        rw [n1, a3]
        simp [allRows]
      have hq2 : j / (cnt o + 1) < o.ns.length := by rw [← hzl]; exact hq
      have ln : ((o.ns.take (nc o j)).map PyData.str).length = j / (cnt o + 1) + 1 := by
        rw [n1, List.length_map, List.length_take]
        omega
      have hcm : CMulW ((cnt o : Nat) : Int) ((((o.ns.take (nc o j)).map PyData.str).length : Nat) : Int) := cm64 ⟨by omega, by omega⟩ ⟨by omega, by rw [ln]; omega⟩
      have hcl := cells_len ho hzo.2 hr1
      have hco : ∀ d ∈ cellsT o bs (j % (cnt o + 1) - 1), CellOk o.s o.ns.length d := fun d hd => hzo.2.2 d (take_sub hd)
      have hrow : rowD o (j / (cnt o + 1) * cnt o + (j % (cnt o + 1) - 1)) = .tuple [.int (2 + (j : Nat)), .list ((cellsT o bs (j % (cnt o + 1) - 1)).map (toldD o))] := by
        unfold rowD
        rw [a5, a6, hz]
        have hdm : j / (cnt o + 1) * (cnt o + 1) + (j % (cnt o + 1) - 1 + 1) = j := by
          have := Nat.div_add_mod' j (cnt o + 1)
          omega
        show PyData.tuple [.int ((2 + (j / (cnt o + 1) * (cnt o + 1) + (j % (cnt o + 1) - 1 + 1)) : Nat) : Int), _] = _
        rw [hdm]
        rfl
      refine r_set (m := 0) 8 (sv := .d (.list ((cellsT o bs (j % (cnt o + 1) - 1)).map fun d => .str (cellT o d)))) (e_eq (e_split (e_var 7) e_str (by decide +kernel) (by omega)) (by rw [row_split ho hzo.2 hr1, words_cells, List.map_map]; rfl)) ?_ sc19.nd
      refine r_elJ (m := 0) _ (t_eqI (e_lenM List.mem_cons_self z.len (e_var 5)) (e_mul hcm (e_var 3) (e_lenM (List.mem_cons_of_mem _ List.mem_cons_self) z.len (e_var 4)))) ?_ (r_set (m := 0) 9 (e_callP hRow gu hr (by decide) (a_cons (e_var 8) (a_cons (e_var 1) (a_cons (e_var 2) a_nil))) ⟨o, cellsT o bs (j % (cnt o + 1) - 1), ho, hco, hcl, rfl, rfl⟩)
        (r_ifF (m := 0) (t_isN (e_var 9)) rfl (r_append (m := 0) (d := .tuple [.int (2 + (j : Nat)), .list ((cellsT o bs (j % (cnt o + 1) - 1)).map (toldD o))]) (e_var 5) (e_tup (a_cons (e_var 6) (a_cons (e_var 9) a_nil))) (by rw [lr]; have : j / (cnt o + 1) * cnt o ≤ 8 * 4 := Nat.mul_le_mul (by omega) hcp.2; omega) (r_end (J := _) rfl))) sc19.nd) (fun c' e => ?_)
      · rw [lr, ln]
        refine decide_eq_false fun e => ?_
        have e2 : j / (cnt o + 1) * cnt o + (j % (cnt o + 1) - 1) = cnt o * (j / (cnt o + 1) + 1) := by exact_mod_cast e
        rw [Nat.mul_succ, Nat.mul_comm] at e2
        omega
      · subst e
        refine r_end (J := _) ⟨some (.d (.int (2 + (j : Nat)))), some (.d (.str (rowT o bs (j % (cnt o + 1) - 1)))), some (.d (.list ((cellsT o bs (j % (cnt o + 1) - 1)).map fun d => .str (cellT o d)))), some (.d (.list ((cellsT o bs (j % (cnt o + 1) - 1)).map (toldD o)))), ?_⟩
        have eN : nc o (j + 1) = nc o j := by rw [n1, n2]
        have eR : allRows o (j + 1 - nc o (j + 1)) = allRows o (j - nc o j) ++ [.tuple [.int (2 + (j : Nat)), .list ((cellsT o bs (j % (cnt o + 1) - 1)).map (toldD o))]] := by
          rw [n1, n2, a3, a4, allRows_next, hrow]
        rw [eR, eN]
        rfl
  · rintro cf ⟨x6, x7, x8, x9, rfl⟩
    have eJ : (pairsK 2 ((kinds o).map PyData.str)).length = o.ns.length * (cnt o + 1) := by simp [pairsK, hkl]
    have har := ar (h := cnt o) (j := o.ns.length * (cnt o + 1)) hcp.1 hcp.2
    obtain ⟨a1, a2, a3, a4⟩ := har.1 (Nat.mul_mod_left _ _)
    rw [Nat.mul_div_left _ (Nat.succ_pos _)] at a1 a3
    have n1 : nc o (o.ns.length * (cnt o + 1)) = o.ns.length := a1
    rw [eJ, n1, a3, List.take_length]
    have lr : (allRows o (o.ns.length * cnt o)).length = o.ns.length * cnt o := by simp [allRows]
    have hcm : CMulW ((cnt o : Nat) : Int) (((o.ns.map PyData.str).length : Nat) : Int) := cm64 ⟨by omega, by omega⟩ ⟨by omega, by rw [List.length_map]; omega⟩
    refine r_ifF (m := 0) (t_of (w_or (t_not (t_truM (List.mem_cons_of_mem _ List.mem_cons_self) (e_var 4))) (fun _ => w_or1 (t_lt (e_lenM List.mem_cons_self z.len (e_var 5)) (e_mul hcm (e_var 3) (e_lenM (List.mem_cons_of_mem _ List.mem_cons_self) z.len (e_var 4))))))) ?_ (r_retM2 hw (e_var 4) (e_var 5) (List.mem_cons_of_mem _ List.mem_cons_self) List.mem_cons_self rfl)
    have e1 : (o.ns.map PyData.str).isEmpty = false := by
      cases q : o.ns with
      | nil =>
        rw [q] at hnk
        exact absurd hnk.1 (by decide)
      | cons x r => rfl
    rw [e1, lr, List.length_map, decide_eq_false]
    · rfl
    · rw [Int.natCast_mul, Int.mul_comm]
      exact Int.lt_irrefl _
end
end N0
namespace Wk
open PySem PySem.Spec PyProof.Rows L2
/-! ### {key: value for .. in ..}, texts for keys, all unlike -/
def Ct.on (C : Ct) (D : Addr) : Ct := ⟨C.P, D :: C.W⟩
theorem on_bs {C : Ct} {L : Ls} {D : Addr} : Bs (C.on D) L = Bs C L := rfl
theorem on_bd {C : Ct} {L : Ls} {D : Addr} : ∀ b, b ∈ Bd (C.on D) L ↔ b = D ∨ b ∈ Bd C L := fun b => by
  show b ∈ Bs C L ++ (D :: C.W) ↔ b = D ∨ b ∈ Bs C L ++ C.W
  simp only [List.mem_append, List.mem_cons]
  constructor
  · rintro (h | h | h)
    · exact .inr (.inl h)
    · exact .inl h
    · exact .inr (.inr h)
  · rintro (h | h | h)
    · exact .inr (.inl h)
    · exact .inl h
    · exact .inr (.inr h)
theorem Dv.grow_on {K : PySem.W.Frag} {C : Ct} {L : Ls} {D : Addr} {H : Hp} {v : V} {d : PD} (h : Dv K (Bd C L) H v d) (f : H D = none) : Dv K (Bd (C.on D) L) H v d :=
  Dv.less (h.grow f) fun b hb => ((on_bd b).mp hb).elim (fun z => by rw [z]; exact List.mem_cons_self) fun z => List.mem_cons_of_mem _ z
theorem DvAll.grow_on {K : PySem.W.Frag} {C : Ct} {L : Ls} {D : Addr} {H : Hp} {v : List V} {d : List PD} (h : DvAll K (Bd C L) H v d) (f : H D = none) : DvAll K (Bd (C.on D) L) H v d :=
  DvAll.less (h.grow f) fun b hb => ((on_bd b).mp hb).elim (fun z => by rw [z]; exact List.mem_cons_self) fun z => List.mem_cons_of_mem _ z
theorem Sl.grow_on {K : PySem.W.Frag} {C : Ct} {L : Ls} {D : Addr} {H : Hp} {σ : L2.St} {δ : Dl} (h : Sl K (Bd C L) H σ δ) (f : H D = none) : Sl K (Bd (C.on D) L) H σ δ :=
  (h.grow f).less fun b hb => ((on_bd b).mp hb).elim (fun z => by rw [z]; exact List.mem_cons_self) fun z => List.mem_cons_of_mem _ z
/-- a dict is made and may change from now on -/
theorem Hold.on {K : PySem.W.Frag} {C : Ct} {L : Ls} {n : Nat} {H : Hp} {D : Addr} {o : HO} (h : Hold K C L n H) (f : H D = none) : Hold K (C.on D) L n (upd H D o) := by
  have sm := same_new (o := o) f
  refine .of (fun p e => ?_) (fun a es hm => ?_) h.nd (fun b hb => ?_) (fun x hx z => ?_)
  · obtain ⟨a, b, c, h1, h2⟩ := h.pot p e
    exact ⟨a, b, c, sm _ _ h1, h2⟩
  · obtain ⟨xs, h1, h2⟩ := h.ct hm
    exact ⟨xs, sm _ _ h1, ((h2.grow f).less fun b hb => ((on_bd b).mp hb).elim (fun z => by rw [z]; exact List.mem_cons_self) fun z => List.mem_cons_of_mem _ z).keep (.same sm)⟩
  · rcases List.mem_cons.mp (show b ∈ D :: C.W from hb) with e | e
    · rw [e, upd_same]
      simp
    · exact same_some sm (h.wk b e)
  · rcases List.mem_cons.mp (show x.1 ∈ D :: C.W from z) with e | e
    · obtain ⟨xs, h1, _⟩ := h.ct (a := x.1) (c := x.2) hx
      rw [e, f] at h1
      cases h1
    · exact h.dj x hx e
/-- it changes -/
theorem Hold.turn {K : PySem.W.Frag} {C : Ct} {L : Ls} {n : Nat} {H : Hp} {D : Addr} {o : HO} {kvs : List (L2.Key × V)} (h : Hold K (C.on D) L n H) (hD : H D = some (.dK kvs)) : Hold K (C.on D) L n (upd H D o) := by
  have dW : D ∈ (C.on D).W := List.mem_cons_self
  have inD : D ∈ Bd (C.on D) L := List.mem_append_right _ dW
  have kp : Keep (Bd (C.on D) L) H (upd H D o) := keep_upd inD
  refine .of (fun p e => ?_) (fun a es hm => ?_) h.nd (fun b hb => ?_) h.dj
  · obtain ⟨a, b, c, h1, h2⟩ := h.pot p e
    have n : p ≠ D := fun z => by
      rw [z, hD] at h1
      cases h1
    exact ⟨a, b, c, by rw [upd_ne n]; exact h1, h2⟩
  · obtain ⟨xs, h1, h2⟩ := h.ct hm
    have n : a ≠ D := fun z => h.dj (a, es) hm (by rw [show (a, es).1 = D from z]; exact dW)
    exact ⟨xs, by rw [upd_ne n]; exact h1, h2.keep kp⟩
  · by_cases z : b = D
    · rw [z, upd_same]
      simp
    · rw [upd_ne z]
      exact h.wk b hb
/-- it is done -/
theorem Hold.out {K : PySem.W.Frag} {C : Ct} {L : Ls} {n : Nat} {H : Hp} {D : Addr} (h : Hold K (C.on D) L n H) : Hold K C L n H :=
  .of h.pot (fun a es hm => let ⟨xs, h1, h2⟩ := h.ct hm; ⟨xs, h1, h2.less fun b hb => (on_bd b).mpr (.inr hb)⟩) h.nd (fun b hb => h.wk b (List.mem_cons_of_mem _ hb)) fun x hx z => h.dj x hx (List.mem_cons_of_mem _ z)
section
variable {X : Cx} {C : Ct} {L : Ls} {δ : Dl} {n m k : Nat}
def gTD (K : PySem.W.Frag) (C : Ct) (tg : Tg) : TG := fun v σ H Q => ∃ D, gT K (C.on D) tg v σ H Q
def teD (K : PySem.W.Frag) (C : Ct) (L : Ls) (δ0 : Dl) (ds : List PD) (tgd : Tg) (m : Nat) (f : PD → PD) : TE := fun σ H Q => ∃ (D : Addr) (d : PD) (δ' : Dl), d ∈ ds ∧ tgd.put d δ0 = some δ' ∧ tOf K (C.on D) L δ' m m (Eq (SV.d (f d))) σ H Q
theorem ent_snoc {kvs : List (Str × PD)} {vs : List V} {x : Str} {d : PD} {v : V} (h : vs.length = kvs.length) : entD (kvs ++ [(x, d)]) (vs ++ [v]) = entD kvs vs ++ [(Sum.inr x, v)] := by
  unfold entD
  rw [List.zip_append h.symm, List.map_append]
  rfl
theorem put_new {kvs : List (L2.Key × V)} {x : L2.Key} {v : V} (h : x ∉ kvs.map (·.1)) : putK kvs x v = kvs ++ [(x, v)] := by
  unfold putK
  rw [if_neg]
  intro z
  obtain ⟨q, hq, e⟩ := List.any_eq_true.mp z
  exact h (List.mem_map.mpr ⟨q, hq, of_decide_eq_true e⟩)
theorem ent_keys {kvs : List (Str × PD)} {vs : List V} (h : vs.length = kvs.length) : (entD kvs vs).map (·.1) = kvs.map fun z => (Sum.inr z.1 : L2.Key) := by
  unfold entD
  rw [List.map_map]
  have : ∀ (kvs : List (Str × PD)) (vs : List V), vs.length = kvs.length → (kvs.zip vs).map (fun z => (Sum.inr z.1.1 : L2.Key)) = kvs.map fun z => (Sum.inr z.1 : L2.Key) := by
    intro kvs
    induction kvs with
    | nil => intro vs _; rfl
    | cons z kvs ih =>
      intro vs h
      cases vs with
      | nil => cases h
      | cons v vs => rw [List.zip_cons_cons, List.map_cons, List.map_cons, ih vs (Nat.succ.inj h)]
  exact this kvs vs h
theorem dc_turns {J : It} {n : Nat} {G : Hp → Prop} {Y : Nat → Hp → V → Hp → Prop} (w : Walk J n G Y) {g : TG} {tt : TT} {tk tv : TE} {vs : List Nat} {σ : L2.St} {H1 : Hp} {D : Addr} {Qd : Hp → Prop} (Pv : Nat → Hp → Prop) (h0 : Pv 0 (upd H1 D (.dK []))) (hG : ∀ i H, i ≤ n → Pv i H → G H)
    (hs : ∀ i x H H', i < n → Pv i H → Y i H x H' → g x (L2.wipe σ vs) H' fun σ2 H2 => L2.wipe σ2 vs = L2.wipe σ vs ∧ tt σ2 H2 fun b H3 =>
      if b = true then tk σ2 H3 fun y H4 => tv σ2 H4 fun z H5 => ∃ (kvs : List (L2.Key × V)) (k : L2.Key), y = kV k ∧ H5 D = some (.dK kvs) ∧ kvs.length < sizeLine ∧ Pv (i + 1) (upd H5 D (.dK (putK kvs k z))) else Pv (i + 1) H3) (hd : ∀ H, Pv n H → Qd H) :
    ∃ W : Nat → Nat → Hp → Prop, (∃ m, W 0 m (upd H1 D (.dK []))) ∧ ∀ i m H, W i m H → (J.stop i H ∧ Qd H) ∨ (J.go i H ∧ ∃ Nx : Hp → Prop, (∀ H', Nx H' → ∃ m', m' < m ∧ W (i + 1) m' H') ∧ ∀ x H', J.yld i H x H' → g x (L2.wipe σ vs) H' fun σ2 H2 => L2.wipe σ2 vs = L2.wipe σ vs ∧ tt σ2 H2 fun b H3 =>
      if b = true then tk σ2 H3 fun y H4 => tv σ2 H4 fun z H5 => ∃ (kvs : List (L2.Key × V)) (k : L2.Key), y = kV k ∧ H5 D = some (.dK kvs) ∧ kvs.length < sizeLine ∧ Nx (upd H5 D (.dK (putK kvs k z))) else Nx H3) := by
  refine ⟨fun i left H => left = n - i ∧ i ≤ n ∧ Pv i H, ⟨n, rfl, Nat.zero_le _, h0⟩, ?_⟩
  rintro i left H ⟨rfl, le, pv⟩
  have gg := hG i H le pv
  rcases Nat.lt_or_ge i n with lt | ge
  · exact .inr ⟨w.goes i H lt gg, Pv (i + 1), fun H' p => ⟨n - (i + 1), by omega, rfl, lt, p⟩, fun x H' y => hs i x H H' lt pv (w.yields i H x H' lt gg y)⟩
  · obtain rfl : i = n := by omega
    exact .inl ⟨w.stops H gg, hd H pv⟩
theorem dc_imp {own : List (Str × Nat)} {tgd : Tg} {ds : List PD} {fk : PD → Str} {fv : PD → PD} (hix : ∀ i, i ∈ tgd.ix → i ∈ own.map (·.2)) (hp : ∀ d, d ∈ ds → ∃ δ', tgd.put d (wipeD δ (own.map (·.2))) = some δ') (hz : ds.length ≤ 100000) (hu : (ds.map fk).Nodup) (σ : L2.St) (H : Hp) (Q : VK)
    (hq : tOf X.K C L δ n m (Eq (SV.o (obD (ds.map fun d => (fk d, fv d))))) σ H Q) :
    tDc (tIt X.K C L δ n m ds) (gTD X.K C tgd) tYes (teD X.K C L (wipeD δ (own.map (·.2))) ds tgd m fun d => .str (fk d)) (teD X.K C L (wipeD δ (own.map (·.2))) ds tgd m fv) (own.map (·.2)) σ H Q := by
  obtain ⟨t, q⟩ := hq
  refine ⟨t, fun J H1 k1 h1 goes => ?_⟩
  intro D hD
  obtain ⟨G, g0, gGrow, gKeep, wk⟩ := goes.ex
  have t1 : At X.K C L δ m σ H1 := t.go k1 h1
  have smD := same_new (o := .dK []) hD
  have sub1 : ∀ b, b ∈ Bd (C.on D) L → b ∈ D :: Bd C L := fun b hb => ((on_bd b).mp hb).elim (fun z => by rw [z]; exact List.mem_cons_self) fun z => List.mem_cons_of_mem _ z
  have sub2 : ∀ b, b ∈ D :: Bd C L → b ∈ Bd (C.on D) L := fun b hb => (on_bd b).mpr ((List.mem_cons.mp hb).elim .inl .inr)
  have nD : D ∉ Bs C L := fun z => h1.fresh hD (bs_bd _ z)
  refine dc_turns (g := gTD X.K C tgd) (tt := tYes) (tk := teD X.K C L (wipeD δ (own.map (·.2))) ds tgd m fun d => .str (fk d)) (tv := teD X.K C L (wipeD δ (own.map (·.2))) ds tgd m fv) (vs := own.map (·.2)) (σ := σ) (H1 := H1) (D := D) (Qd := Q (.ref D)) (wk (D :: Bd C L))
    (fun i H2 => ∃ vs : List V, vs.length = ((ds.take i).map fun d => (fk d, fv d)).length ∧ H2 D = some (.dK (entD ((ds.take i).map fun d => (fk d, fv d)) vs)) ∧ DvAll X.K (Bd (C.on D) L) H2 vs (valsD ((ds.take i).map fun d => (fk d, fv d))) ∧ At X.K (C.on D) L (wipeD δ (own.map (·.2))) m (L2.wipe σ (own.map (·.2))) H2 ∧ Keep (Bs C L) H1 H2 ∧ G (D :: Bd C L) H2)
    ?_ (fun i H2 _ ⟨_, _, _, _, _, _, g⟩ => g) ?_ ?_
  · exact ⟨[], rfl, upd_same, .nil, ⟨((t1.sl.grow_on hD).keep (.same smD)).wipe _, h1.on hD⟩, .same smD, gKeep _ _ _ (gGrow _ _ _ g0 hD) (.same smD)⟩
  · rintro i x H2 H3 hlt ⟨vs, hl, hv, gv, t2, k2, g2⟩ y
    obtain ⟨sm, d, hd, dv⟩ := y fun b hb => t2.hold.known (sub2 b hb)
    have hmem := List.mem_of_getElem? hd
    obtain ⟨δ', hput⟩ := hp d hmem
    have nx := take_next hd
    refine ⟨D, L, wipeD δ (own.map (·.2)), m, d, δ', t2.same sm, dv.less sub1, hput, fun σ' t3 w3 => ⟨?_, ?_⟩⟩
    · rw [w3 _ hix]
      exact wipe_wipe fun u hu => hu
    · refine tyes_if ?_
      refine ⟨D, d, δ', hmem, hput, t3, fun y4 H4 sv4 k4 h4 r4 s4 => ?_⟩
      subst r4
      cases s4
      have t4 := t3.go k4 h4
      refine ⟨D, d, δ', hmem, hput, t4, fun z H5 sv5 k5 h5 r5 s5 => ?_⟩
      subst r5
      have kA : Keep (Bs C L) H2 H5 := (Keep.same sm).trans ((k4 : Keep (Bs C L) H3 H4).trans k5)
      have hD5 : H5 D = some (.dK (entD ((ds.take i).map fun d => (fk d, fv d)) vs)) := kA D _ nD hv
      have kB : Keep (Bd (C.on D) L) H2 H5 := kA.wider fun b hb => (on_bd b).mpr (.inr (bs_bd _ hb))
      have fresh : (Sum.inr (fk d) : L2.Key) ∉ (entD ((ds.take i).map fun d => (fk d, fv d)) vs).map (·.1) := fun hm => by
        rw [ent_keys hl] at hm
        obtain ⟨z, hz2, e⟩ := List.mem_map.mp hm
        obtain ⟨d2, hd2, rfl⟩ := List.mem_map.mp hz2
        have e2 : fk d2 = fk d := Sum.inr.inj e
        obtain ⟨j, hj, rfl⟩ := List.mem_iff_getElem.mp hd2
        rw [List.length_take] at hj
        rw [List.getElem_take] at e2
        have hj2 : j < ds.length := by omega
        have i1 : i < ds.length := hlt
        have e3 : ds[i] = d := by
          rw [List.getElem?_eq_getElem i1] at hd
          exact Option.some.inj hd
        have e4 : (ds.map fk)[j]'(by rw [List.length_map]; exact hj2) = (ds.map fk)[i]'(by rw [List.length_map]; exact i1) := by
          rw [List.getElem_map, List.getElem_map, e2, e3]
        have := (List.getElem_inj hu).mp e4
        omega
      have kD : Keep (Bd (C.on D) L) H5 (upd H5 D (.dK (entD ((ds.take i).map fun d => (fk d, fv d)) vs ++ [(Sum.inr (fk d), z)]))) := keep_upd ((on_bd D).mpr (.inl rfl))
      refine ⟨_, Sum.inr (fk d), rfl, hD5, ?_, vs ++ [z], ?_, ?_, ?_, ⟨?_, ?_⟩, ?_, ?_⟩
      · have : (entD ((ds.take i).map fun d => (fk d, fv d)) vs).length ≤ i := by
          unfold entD
          rw [List.length_map, List.length_zip, List.length_map]
          have := List.length_take_le i ds
          omega
        exact Nat.lt_of_le_of_lt (show _ ≤ 100000 by omega) (by decide)
      · rw [nx, List.map_append, List.length_append, List.length_append, hl]
        rfl
      · rw [put_new fresh, nx, List.map_append]
        rw [upd_same]
        exact congrArg (fun e => some (HO.dK e)) (ent_snoc hl).symm
      · rw [put_new fresh, nx, List.map_append]
        have ev : valsD ((ds.take i).map (fun d => (fk d, fv d)) ++ [d].map fun d => (fk d, fv d)) = valsD ((ds.take i).map fun d => (fk d, fv d)) ++ [fv d] := by
          unfold valsD
          rw [List.map_append]
          rfl
        rw [ev]
        exact (gv.keep (kB.trans kD)).app (.cons (Dv.keep s5 kD) .nil)
      · rw [put_new fresh]
        exact t2.sl.keep (kB.trans kD)
      · rw [put_new fresh]
        exact h5.turn hD5
      · rw [put_new fresh]
        exact keep_over k2 ((kA.wider fun b hb => List.mem_cons_of_mem _ hb).trans (keep_upd List.mem_cons_self)) hD
      · rw [put_new fresh]
        exact gKeep _ _ _ g2 ((kB.trans kD).wider sub1)
  · rintro H2 ⟨vs, hl, hv, gv, t2, k2, g2⟩
    rw [List.take_length] at hv gv hl
    exact q _ H2 _ (k1.trans k2) t2.hold.out rfl ⟨D, vs, rfl, fun z => h1.fresh hD z, hv, gv.less fun b hb => (on_bd b).mpr (.inr hb)⟩
theorem e_dc {kx vx tg iter : Expr} {scope : Scope} {own : List (Str × Nat)} {pos : Pos} {tgd : Tg} {ds : List PD} (fk : PD → Str) (fv : PD → PD) (hc : X.calm = true) (hN : X.N.Nodup) (hi : Wi X C L δ tg iter n m ds) (ok : BlkOk X.N X.env.scope scope own)
    (hg : ∀ (C' : Ct) (s : Shared) (H : Hp) (Cc : Addr) (cl : List (Str × Addr)) (fp : List Addr), PG (X.blk s H scope (compEnvC scope cl Cc X.env) fp) tg (gT X.K C' tgd)) (hix : ∀ i, i ∈ tgd.ix → i ∈ own.map (·.2))
    (hp : ∀ d, d ∈ ds → ∃ δ', tgd.put d (wipeD δ (own.map (·.2))) = some δ') (hz : ds.length ≤ 100000) (hu : (ds.map fk).Nodup)
    (hk : ∀ (C' : Ct) (s : Shared) (H : Hp) (Cc : Addr) (cl : List (Str × Addr)) (fp : List Addr) (d : PD) (δ' : Dl), d ∈ ds → tgd.put d (wipeD δ (own.map (·.2))) = some δ' → PE (X.blk s H scope (compEnvC scope cl Cc X.env) fp) kx (tOf X.K C' L δ' m m (Eq (SV.d (.str (fk d))))))
    (hv : ∀ (C' : Ct) (s : Shared) (H : Hp) (Cc : Addr) (cl : List (Str × Addr)) (fp : List Addr) (d : PD) (δ' : Dl), d ∈ ds → tgd.put d (wipeD δ (own.map (·.2))) = some δ' → PE (X.blk s H scope (compEnvC scope cl Cc X.env) fp) vx (tOf X.K C' L δ' m m (Eq (SV.d (fv d)))))
    (hs : ∀ x, foldedSetIterable iter X.env x = pure x := by intro _; rfl) :
    E X C L δ (.DictComp kx vx [⟨tg, iter, [], 0⟩] scope pos) n m (Eq (SV.o (obD (ds.map fun d => (fk d, fv d))))) :=
  PE.imp (pe_dc (own := own) hc hN hi ok (g := gTD X.K C tgd) (fun s H Cc cl fp => ⟨fun pins s1 σ H1 v u Q I r ⟨D, q⟩ => (hg (C.on D) s H Cc cl fp).run pins s1 σ H1 v u Q I r q⟩) (fun _ _ _ _ _ => pts_nil)
    (fun s H Cc cl fp => (⟨fun pins s1 σ H1 Q I ⟨D, d, δ', h1, h2, q⟩ => (hk (C.on D) s H Cc cl fp d δ' h1 h2).run pins s1 σ H1 Q I q⟩ : PE _ kx (teD X.K C L (wipeD δ (own.map (·.2))) ds tgd m fun d => .str (fk d))))
    (fun s H Cc cl fp => (⟨fun pins s1 σ H1 Q I ⟨D, d, δ', h1, h2, q⟩ => (hv (C.on D) s H Cc cl fp d δ' h1 h2).run pins s1 σ H1 Q I q⟩ : PE _ vx (teD X.K C L (wipeD δ (own.map (·.2))) ds tgd m fv))) hs) (dc_imp hix hp hz hu)
end
end Wk
namespace N0
open PySem PySem.Spec PyProof.Rows L2 Wk
section
variable {P : Program} {w : World} {K : PySem.W.Frag} {mg : Str → Option Value} {base : Heap} {f : Addr} {fd : FuncData}
/-! _law_cells -/
theorem sc28 : FnScope ["script", "most"] ["script", "most"] (defScope (topS 28)) := ⟨rfl, rfl, rfl, by decide +kernel, rfl, by decide +kernel, by decide +kernel⟩
def cellsN (m l : Int) : Int := let q := if l < m then l else m; if q > 1 then q else 1
def okCells : List PD → SV → Prop := fun ds sv => ∃ ns : List Int, ∃ m : Int, ds = [.list (ns.map PyData.int), .int m] ∧ 0 ≤ m ∧ m ≤ 100 ∧ sv = .d (.list (rangeD 0 (cellsN m (ns.length : Nat)).toNat))
theorem cellsN_le {m l : Int} (h : 0 ≤ m ∧ m ≤ 100) (hl : 0 ≤ l) : 0 ≤ cellsN m l ∧ cellsN m l ≤ 100 := by
  unfold cellsN
  dsimp only
  split <;> split <;> omega
theorem law_cells (z : Bt mg) (F : Fun K "_law_cells" "_law_cells" (topS 28) f fd) : Gd P w K mg base CX0 1 f fd ["script", "most"] (SpP K okCells) := by
  refine okP F sc28 (fun ds sv ⟨_, _, e, _⟩ => by rw [e]; rfl) fun cdv A outer s H E B ds sv fm D0 ⟨ns, m, e1, h0, h1, e2⟩ gu hr hC hw hn => ?_
  subst e1 e2
  have hb := cellsN_le (m := m) (l := ((ns.map PyData.int).length : Nat)) ⟨h0, h1⟩ (by omega)
  refine r_retD hw (e_listRg (i := cellsN m ((ns.map PyData.int).length : Nat)) z rfl ⟨hb.1, by omega⟩ (e_max z rfl e_int (e_min z rfl (e_var 1) (e_lenL z.len (e_var 0))))) ?_
  rw [List.length_map]
/-! drawn_blocks: the numbers of the kinds -/
theorem pairs_num (ns : List Str) : (pairsK 0 (ns.map PyData.str)).map (fun d => ((match d with | .tuple [_, .str s] => s | _ => ""), (match d with | .tuple [i, _] => i | _ => .none))) = numK ns := by
  unfold pairsK numK
  apply List.ext_getElem?
  intro j
  simp only [List.getElem?_map, List.getElem?_mapIdx]
  cases ns[j]? with
  | none => rfl
  | some s =>
    show some (s, PyData.int (0 + (j : Nat))) = some (s, .int (j : Nat))
    rw [Int.zero_add]
end
end N0
namespace Wk
open PySem PySem.Spec PyProof.Rows L2
section
variable {X : Cx} {C : Ct} {L : Ls} {δ : Dl} {n m k l : Nat} {a b e : Expr} {es : List Expr} {pos p : Pos} {x : Str} {ps : List Str}
/-- a call that draws, of arguments that are drawn, told by slots -/
theorem e_callWR {r : Nat} {ok : List SV → Nat → (SV → Prop) → Prop} {RA : List SV → Prop} {S : SV → Prop} {w : Addr} {u : Nat} (F : Kn X CX0 k x ps (SpW X.K ok)) (gu : X.A.guards = some []) (hr : Room r X.A) (hk : k ≤ r) (hp : C.P = some w)
    (h0 : Ev X C L δ e n n (.ref w)) (ha : Ar X C L δ es n m RA) (h : ∀ svs, RA svs → ∃ R u', u' ≤ u ∧ ok svs u' R ∧ ∀ d, R d → S d) (hz : m + u ≤ 1000000) (hg : Gl X x := by rfl)
    (hdb : (x == ("__debug__" : Str)) = false := by decide) (he : starEach (e :: es) X.env = (false, eval e X.env) :: starEach es X.env := by rfl) (hpl : (backTo pos (starEach es X.env)).any (·.1) = false := by rfl) :
    E X C L δ (.Call (.Name x p) (e :: es) [] pos) n (m + u) S := by
  refine PE.imp (pe_callG F gu (hr.mono hk) hg pass0 (ar_cons (h0 : E X C L δ e n n _) ha he) hdb he hpl) fun σ H Q ⟨t, q⟩ => ⟨t, fun vs H2 svs k1 h1 e1 s1 => ?_⟩
  obtain ⟨sv, rest, rfl, rfl, hra⟩ := e1
  obtain ⟨R, u', hu, hok, himp⟩ := h rest hra
  cases s1 with
  | @cons v0 ws _ _ a b =>
    have e0 : v0 = .ref w := a
    subst e0
    have hw : w ∈ Bs C L := List.mem_append_right _ (by rw [hp]; simp)
    refine ⟨w, Bd C L, ws, m, u', rest, R, rfl, bs_bd _ hw, fun b hb => h1.known hb, b, h1.pot w hp, by omega, hok, fun v H3 d kp po hR g => ?_⟩
    have kb : Keep (Bs C L) H2 H3 := kp.wider fun b hb => by
      have e : b = w := by simpa using hb
      rw [e]
      exact hw
    have ho : Hold X.K C L (m + u') H3 := h1.drawn hp kp po
    exact q v H3 _ (k1.trans kb) (ho.mono (by omega)) (himp d hR) g
/-- a drawn int is this one or not -/
theorem e_eqX {S : Int → Prop} {j : Int} (ha : E X C L δ a n m (fun sv => ∃ d, sv = .d d ∧ ∃ i : Int, d = .int i ∧ S i)) (hb : Ed X C L δ b m k (.int j)) (hm : behindInMarks .Eq b = false := by exact nomark _) : E X C L δ (.Compare a [.Eq] [b] pos) n k (fun sv => ∃ u : Bool, sv = .d (.bool u)) :=
  PE.imp (pe_cmpR op_eq ha hb hm) fun σ H Q ⟨t, q⟩ => ⟨t, fun v H2 sv k1 h1 e1 s1 => ⟨t.go k1 h1, fun w H3 sw k2 h2 e2 s2 => by
    obtain ⟨_, rfl, i, rfl, _⟩ := e1
    subst e2
    cases s1
    cases s2
    exact ⟨rfl, q _ H3 _ (k1.trans k2) h2 ⟨_, rfl⟩ (Dv.bl _)⟩⟩⟩
theorem e_intBX (hm : X.mg "int" = none) (h : E X C L δ e n m (fun sv => ∃ u : Bool, sv = .d (.bool u))) (hg : Gl X "int" := by rfl) (he : starEach [e] X.env = (false, eval e X.env) :: starEach [] X.env := by rfl) : E X C L δ (.Call (.Name "int" p) [e] [] pos) n m (fun sv => ∃ d, sv = .d d ∧ ∃ i : Int, d = .int i ∧ (0 ≤ i ∧ i ≤ 1)) :=
  e_callTy call_int1 (fun vs svs H Q h1 e1 s1 q => by
    obtain ⟨s, r, rfl, ⟨u, rfl⟩, rfl⟩ := e1
    obtain ⟨v, rfl, g⟩ := DvAll.one (d := .bool u) s1
    cases g
    exact .inr ⟨u, rfl, q _ H _ (.refl H) ⟨_, rfl, _, rfl, by cases u <;> decide⟩ (Dv.int _)⟩) hm (by decide +kernel) (ar_cons h ar_nil he) hg (he := he)
theorem e_subX {S : Int → Prop} {i : Int} (ha : Ed X C L δ a n m (.int i)) (hb : E X C L δ b m k (fun sv => ∃ d, sv = .d d ∧ ∃ j : Int, d = .int j ∧ S j)) : E X C L δ (.BinOp a .Sub b pos) n k (fun sv => ∃ d, sv = .d d ∧ ∃ j : Int, d = .int (i - j) ∧ S j) :=
  PE.imp (pe_op op_sub ha hb) fun σ H Q ⟨t, q⟩ => ⟨t, fun v H2 sv k1 h1 e1 s1 => ⟨t.go k1 h1, fun w H3 sw k2 h2 e2 s2 => by
    subst e1
    obtain ⟨_, rfl, j, rfl, hj⟩ := e2
    cases s1
    cases s2
    exact ⟨i, j, rfl, rfl, q _ H3 _ (k1.trans k2) h2 ⟨_, rfl, j, rfl, hj⟩ (Dv.int _)⟩⟩⟩
end
end Wk
namespace N0
open PySem PySem.Spec PyProof.Rows L2 Wk
section
variable {P : Program} {w : World} {K : PySem.W.Frag} {mg : Str → Option Value} {base : Heap} {f : Addr} {fd : FuncData}
/-! _law_drawn_book -/
theorem sc36 : FnScope ["pot"] ["pot"] (defScope (topS 36)) := ⟨rfl, rfl, rfl, by decide +kernel, rfl, by decide +kernel, by decide +kernel⟩
def okDB : List SV → Nat → (SV → Prop) → Prop := fun ds c R => ds = [] ∧ c = 1003 ∧ R = fun sv => ∃ o, sv = .o (Own.ob o) ∧ OwnOk o
theorem law_drawn_book (z : Bt mg) (hTk : Knw P w K mg base CX0 1 "_law_take" ["pot", "upto"] (SpQ K okTake)) (hMd : Knw P w K mg base CX0 4 "_law_made" ["pot", "sides", "base", "kinds", "seldom"] (SpW K okMade)) (F : Fun K "_law_drawn_book" "_law_drawn_book" (topS 36) f fd) : Gd P w K mg base CX0 5 f fd ["pot"] (SpW K okDB) := by
  refine okW F sc36 (fun ds c R ⟨e, _⟩ => by rw [e]; rfl) fun cdv A outer s H E p B ds c R n fm D0 ⟨e1, e2, e3⟩ hz gu hr hC hw => ?_
  subst e1 e2 e3
  have hP : fm.C.P = some p := by rw [hC]
  refine r_ret (m := n + 1 + 1 + 1 + 1000) hw (e_callWR (m := n + 1 + 1 + 1) (S := fun sv => ∃ o, sv = .o (Own.ob o) ∧ OwnOk o) hMd gu hr (by decide) hP (e_var 0)
    (ar_cons (e_subX e_int (e_intBX z.int (e_eqX (e_callQ hTk gu hr (by decide) hP (e_var 0) (a_cons e_int a_nil) ⟨3, rfl, by decide, by decide +kernel, rfl, rfl⟩ (by omega)) e_int)))
    (ar_cons (e_addIR e_int (e_callQ hTk gu hr (by decide) hP (e_var 0) (a_cons e_int a_nil) ⟨3, rfl, by decide, by decide +kernel, rfl, rfl⟩ (by omega)))
    (ar_cons (e_addIR e_int (e_callQ hTk gu hr (by decide) hP (e_var 0) (a_cons e_int a_nil) ⟨7, rfl, by decide, by decide +kernel, rfl, rfl⟩ (by omega))) (ar_cons e_int ar_nil)))) (fun svs h => ?_) (by omega)) fun sv h => ⟨by omega, h⟩
  obtain ⟨_, _, rfl, ⟨_, rfl, i, rfl, i0, i1⟩, _, _, rfl, ⟨_, rfl, j, rfl, j0, j1⟩, _, _, rfl, ⟨_, rfl, q, rfl, q0, q1⟩, _, _, rfl, rfl, rfl⟩ := h
  refine ⟨_, 1000, Nat.le_refl _, ⟨(2 - i).toNat, (2 + j).toNat, (1 + q).toNat, 2, ?_, by omega, by omega, by omega, by omega, by omega, by decide, by decide, rfl, rfl⟩, fun sv ⟨o, e, ho, _⟩ => ⟨o, e, ho⟩⟩
  rw [show (((2 - i).toNat : Nat) : Int) = 2 - i by omega, show (((2 + j).toNat : Nat) : Int) = 2 + j by omega, show (((1 + q).toNat : Nat) : Int) = 1 + q by omega]
  rfl
end
end N0
namespace Wk
open PySem PySem.Spec PyProof.Rows L2
section
variable {X : Cx}
/-- name = {..} on one line, a local name -/
theorem ps_setDc {k : Nat} {y : Str} {py : Pos} {kx vx tg iter : Expr} {scope : Scope} {own : List (Str × Nat)} {pos spos : Pos} {wi : TI} {g : TG} {tk tv : TE} (hc : X.calm = true) (hN : X.N.Nodup) (hy : X.N[k]? = some y) (hyl : X.env.scope.names.lookup y = some .local)
    (hsw : swapsWith (.DictComp kx vx [⟨tg, iter, [], 0⟩] scope pos) (some (.Name y py)) spos.line X.env = pure true) (hi : PI X tg iter wi) (ok : BlkOk X.N X.env.scope scope own)
    (hg : ∀ (s : Shared) (H : Hp) (Cc : Addr) (cl : List (Str × Addr)) (fp : List Addr), PG (X.blk s H scope (compEnvC scope cl Cc X.env) fp) tg g)
    (hk : ∀ (s : Shared) (H : Hp) (Cc : Addr) (cl : List (Str × Addr)) (fp : List Addr), PE (X.blk s H scope (compEnvC scope cl Cc X.env) fp) kx tk) (hv : ∀ (s : Shared) (H : Hp) (Cc : Addr) (cl : List (Str × Addr)) (fp : List Addr), PE (X.blk s H scope (compEnvC scope cl Cc X.env) fp) vx tv) (hs : ∀ x, foldedSetIterable iter X.env x = pure x := by intro _; rfl) :
    PS X (.Assign [.Name y py] (.DictComp kx vx [⟨tg, iter, [], 0⟩] scope pos) spos) (tAsg (tDc wi g tYes tk tv (own.map (·.2))) (gName k)) := by
  constructor
  intro pins s σ H D I h
  have h' : tDc wi g tYes tk tv (own.map (·.2)) σ H (fun x H1 => gName k x σ H1 D.nx) := h
  rw [exec_Assign_Name_used _ _ _ _ hsw]
  refine wpAny_bind (wpAny_standAt (wpAny_bind ?_))
  show wpAny _ X.A (do let _ ← comprehension (.DictComp kx vx [⟨tg, iter, [], 0⟩] scope pos) scope X.env (firstIterPos [⟨tg, iter, [], 0⟩] pos) newDict false (eval iter X.env) (some (assign (.Name y py) X.env))) _ _ s
  refine wpAny_bind (thn (dc_core (Qf := fun _ s' => SP X pins D .next s') hc hN I hi ok hg (fun _ _ _ _ _ => pts_nil) hk hv hs h' ?_) fun _ s' hq => wpAny_pure (wpAny_pure hq))
  intro r Cc s' m' H' I' q hn fps
  show wpAny _ _ (assign (.Name y py) X.env (.ref r)) _ _ _
  refine wpAny_assign_Name (store_ok2 (v := V.ref r) I' hN hy (.inl hyl) rfl ?_ (.inr hyl))
  intro s2 I2 ⟨a, sb, ha⟩
  obtain ⟨f0, f1, f2, f3, f4, f5⟩ := fps
  have ne : Cc ≠ a := ha.elim (fun z => by rw [z]; exact f1) fun z e => f4 y a z e.symm
  exact ⟨m', hn.sameBut sb ne, fun h3 sb3 => ⟨_, H', I2.turned (t' := s2.toks) (fun b o hb e => (sb3.2 b hb).trans e) f0 f1 f3 f4 f5, q⟩⟩
theorem sw_trueD {kx vx : Expr} {gs : List Comprehension} {scope : Scope} {pos py : Pos} {y : Str} {l : Nat} {env : Env} (hk : env.scope.kind = .function) (hy : env.scope.names.lookup y = some .local) (hl : (py.line == pos.line) = true)
    (ha : (scope.names.any fun (n, k) => n == y && (k == .local || k == .cell)) = false) : swapsWith (.DictComp kx vx gs scope pos) (some (.Name y py)) l env = pure true := by
  have k1 : env.kindOf y = some .local := hy
  have k2 : env.blockKind = .function := by
    unfold Env.blockKind
    rw [hk]
    rfl
  unfold swapsWith
  simp only [k2, k1, ha, Expr.pos, hl]
  rfl
end
section
variable {X : Cx} {F : Fm} {L : Ls} {δ : Dl} {n m : Nat} {D0 : Ends} {rest : List Stmt}
/-- y = {key: value for .. in ..} -/
theorem r_dc {kx vx tg iter : Expr} {scope : Scope} {y : Str} {own : List (Str × Nat)} {pos py spos : Pos} {tgd : Tg} {ds : List PD} (k : Nat) (fk : PD → Str) (fv : PD → PD) (hc : X.calm = true) (hN : X.N.Nodup) (hi : Wi X F.C L δ tg iter n m ds) (ok : BlkOk X.N X.env.scope scope own)
    (hg : ∀ (C' : Ct) (s : Shared) (H : Hp) (Cc : Addr) (cl : List (Str × Addr)) (fp : List Addr), PG (X.blk s H scope (compEnvC scope cl Cc X.env) fp) tg (gT X.K C' tgd)) (hix : ∀ i, i ∈ tgd.ix → i ∈ own.map (·.2))
    (hp : ∀ d, d ∈ ds → ∃ δ', tgd.put d (wipeD δ (own.map (·.2))) = some δ') (hz : ds.length ≤ 100000) (hu : (ds.map fk).Nodup)
    (hk : ∀ (C' : Ct) (s : Shared) (H : Hp) (Cc : Addr) (cl : List (Str × Addr)) (fp : List Addr) (d : PD) (δ' : Dl), d ∈ ds → tgd.put d (wipeD δ (own.map (·.2))) = some δ' → PE (X.blk s H scope (compEnvC scope cl Cc X.env) fp) kx (tOf X.K C' L δ' m m (Eq (SV.d (.str (fk d))))))
    (hv : ∀ (C' : Ct) (s : Shared) (H : Hp) (Cc : Addr) (cl : List (Str × Addr)) (fp : List Addr) (d : PD) (δ' : Dl), d ∈ ds → tgd.put d (wipeD δ (own.map (·.2))) = some δ' → PE (X.blk s H scope (compEnvC scope cl Cc X.env) fp) vx (tOf X.K C' L δ' m m (Eq (SV.d (fv d)))))
    (g : Bk X F ⟨L, δ.set k (some (.o (obD (ds.map fun d => (fk d, fv d))))), m⟩ D0 rest) (hy : X.N[k]? = some y := by rfl) (hyl : X.env.scope.names.lookup y = some .local := by rfl)
    (hsw : swapsWith (.DictComp kx vx [⟨tg, iter, [], 0⟩] scope pos) (some (.Name y py)) spos.line X.env = pure true := by exact sw_trueD rfl rfl rfl (by decide +kernel)) (hs : ∀ x, foldedSetIterable iter X.env x = pure x := by intro _; rfl) :
    Bk X F ⟨L, δ, n⟩ D0 (.Assign [.Name y py] (.DictComp kx vx [⟨tg, iter, [], 0⟩] scope pos) spos :: rest) :=
  r_ps (R := Eq (SV.o (obD (ds.map fun d => (fk d, fv d))))) (PS.imp (ps_setDc (own := own) (g := gTD X.K F.C tgd) hc hN hy hyl hsw hi ok (fun s H Cc cl fp => ⟨fun pins s1 σ H1 v u Q I r ⟨D, q⟩ => (hg (F.C.on D) s H Cc cl fp).run pins s1 σ H1 v u Q I r q⟩)
    (fun s H Cc cl fp => (⟨fun pins s1 σ H1 Q I ⟨D, d, δ', h1, h2, q⟩ => (hk (F.C.on D) s H Cc cl fp d δ' h1 h2).run pins s1 σ H1 Q I q⟩ : PE _ kx (teD X.K F.C L (wipeD δ (own.map (·.2))) ds tgd m fun d => .str (fk d))))
    (fun s H Cc cl fp => (⟨fun pins s1 σ H1 Q I ⟨D, d, δ', h1, h2, q⟩ => (hv (F.C.on D) s H Cc cl fp d δ' h1 h2).run pins s1 σ H1 Q I q⟩ : PE _ vx (teD X.K F.C L (wipeD δ (own.map (·.2))) ds tgd m fv))) hs) fun D σ H q => dc_imp hix hp hz hu σ H _ q) fun sv e => by
    subst e
    exact g
end
end Wk
/-! sorted(..) of tuples of ints of any lengths -/
namespace Wk
open PySem PySem.Spec PyProof.Rows L2
/-- as tuples of ints are ordered -/
def lexL : List Int → List Int → Bool
  | [], [] => false
  | [], _ :: _ => true
  | _ :: _, [] => false
  | x :: xs, y :: ys => if x = y then lexL xs ys else decide (x < y)
theorem lexL_cons {x y : Int} {xs ys : List Int} : lexL (x :: xs) (y :: ys) = if x = y then lexL xs ys else decide (x < y) := rfl
theorem lexL_irr : ∀ xs, lexL xs xs = false
  | [] => rfl
  | x :: xs => by rw [lexL_cons, if_pos rfl]; exact lexL_irr xs
theorem lexL_asym : ∀ xs ys, lexL xs ys = true → lexL ys xs = false
  | [], [], h => by cases h
  | [], _ :: _, _ => rfl
  | _ :: _, [], h => by cases h
  | x :: xs, y :: ys, h => by
    rw [lexL_cons] at h ⊢
    by_cases e : x = y
    · rw [if_pos e] at h
      rw [if_pos e.symm]
      exact lexL_asym xs ys h
    · rw [if_neg e] at h
      rw [if_neg fun z => e z.symm]
      have h1 := of_decide_eq_true h
      exact decide_eq_false (by omega)
theorem lexL_tri : ∀ xs ys, lexL xs ys = false → lexL ys xs = false → xs = ys
  | [], [], _, _ => rfl
  | [], _ :: _, h, _ => by cases h
  | _ :: _, [], _, h => by cases h
  | x :: xs, y :: ys, h, g => by
    rw [lexL_cons] at h g
    by_cases e : x = y
    · rw [if_pos e] at h
      rw [if_pos e.symm] at g
      rw [e, lexL_tri xs ys h g]
    · rw [if_neg e] at h
      rw [if_neg fun z => e z.symm] at g
      have h1 := of_decide_eq_false h
      have g1 := of_decide_eq_false g
      omega
theorem lexL_neg : ∀ x y z, lexL y x = false → lexL z y = false → lexL z x = false
  | [], _, [], _, _ => rfl
  | [], _, _ :: _, _, _ => rfl
  | _ :: _, [], _, h, _ => by cases h
  | _ :: _, _ :: _, [], _, h => by cases h
  | a :: x, b :: y, c :: z, h, g => by
    rw [lexL_cons] at h g ⊢
    by_cases e1 : b = a
    · rw [if_pos e1] at h
      by_cases e2 : c = b
      · rw [if_pos e2] at g
        rw [if_pos (e2.trans e1)]
        exact lexL_neg x y z h g
      · rw [if_neg e2] at g
        have g1 := of_decide_eq_false g
        rw [if_neg (by omega)]
        exact decide_eq_false (by omega)
    · rw [if_neg e1] at h
      have h1 := of_decide_eq_false h
      by_cases e2 : c = b
      · rw [if_neg (by omega)]
        exact decide_eq_false (by omega)
      · rw [if_neg e2] at g
        have g1 := of_decide_eq_false g
        rw [if_neg (by omega)]
        exact decide_eq_false (by omega)
theorem lexL_swo : SrtO.Swo lexL := ⟨lexL_asym, lexL_neg⟩
/-- one after the other, none ahead of what stands ahead of it -/
abbrev Asc (l : List (List Int)) : Prop := l.Pairwise fun x y => lexL y x = false
theorem asc_uniq : ∀ {l m : List (List Int)}, l.Perm m → Asc l → Asc m → l = m
  | [], m, p, _, _ => (List.Perm.eq_nil p.symm).symm
  | x :: l, [], p, _, _ => absurd p.length_eq (by simp)
  | x :: l, y :: m, p, hl, hm => by
    have h1 : lexL x y = false := by
      rcases List.mem_cons.mp (p.mem_iff.mp List.mem_cons_self) with e | hx
      · rw [e]
        exact lexL_irr y
      · exact (List.pairwise_cons.mp hm).1 x hx
    have h2 : lexL y x = false := by
      rcases List.mem_cons.mp (p.mem_iff.mpr List.mem_cons_self) with e | hy
      · rw [e]
        exact lexL_irr x
      · exact (List.pairwise_cons.mp hl).1 y hy
    have e := lexL_tri x y h1 h2
    subst e
    rw [asc_uniq p.cons_inv (List.pairwise_cons.mp hl).2 (List.pairwise_cons.mp hm).2]
def sortL (rows : List (List Int)) : List (List Int) := rows.mergeSort fun x y => !lexL y x
theorem sortL_perm (rows : List (List Int)) : (sortL rows).Perm rows := List.mergeSort_perm rows _
theorem sortL_asc (rows : List (List Int)) : Asc (sortL rows) := by
  have h := List.pairwise_mergeSort (le := fun x y => !lexL y x) (fun a b c h1 h2 => by
    simp only [Bool.not_eq_true'] at h1 h2 ⊢
    exact lexL_neg a b c h1 h2) (fun a b => by
    cases q : lexL b a with
    | false => rfl
    | true => rw [lexL_asym b a q]; rfl) rows
  exact h.imp fun {x y} z => by simpa using z
theorem sortL_of {l rows : List (List Int)} (p : l.Perm rows) (h : Asc l) : l = sortL rows := asc_uniq (p.trans (sortL_perm rows).symm) h (sortL_asc rows)
theorem sortL_congr {l m : List (List Int)} (p : l.Perm m) : sortL l = sortL m := sortL_of ((sortL_perm l).trans p) (sortL_asc l)
theorem sortL_id {l : List (List Int)} (h : Asc l) : sortL l = l := (sortL_of (List.Perm.refl l) h).symm

section
variable {prog : Program} {w : World} {A : Around} {E : Value → Shared → Prop} {s : Shared} {Q : Bool → Shared → Prop}
theorem lex_go {b z : Bool} : ∀ {xs ys : List Value} {ns ms : List Int} (i : Nat), IntsAre xs ns → IntsAre ys ms → z = decide (ns.length < ms.length) → Q (lexL ns ms) s → PySem.W.KatLex prog w A b z Q (xs.zip ys) i s := by
  intro xs ys ns ms i hx hy hz hq
  induction hx generalizing ys ms i with
  | nil =>
    cases hy with
    | nil =>
      subst hz
      exact PySem.W.kat_nil hq
    | @cons q u vs ms hy =>
      subst hz
      have e : decide (([] : List Int).length < (q :: ms).length) = lexL [] (q :: ms) := decide_eq_true (Nat.succ_pos ms.length)
      exact PySem.W.kat_nil (by rw [e]; exact hq)
  | @cons p t xs ns hx ih =>
    cases hy with
    | nil =>
      subst hz
      exact PySem.W.kat_nil hq
    | @cons q u ys ms hy =>
      show PySem.W.KatLex prog w A b z Q ((Value.int p t, Value.int q u) :: xs.zip ys) i s
      refine PySem.W.kat_cons (wpAny_eqBool_int ?_)
      rw [lexL_cons] at hq
      by_cases e : p = q
      · subst e
        rw [beq_self_eq_true]
        rw [if_pos rfl] at hq
        refine PySem.W.kat_yes ?_
        exact ih (i + 1) hy (by rw [hz, List.length_cons, List.length_cons]; exact decide_eq_decide.mpr (by omega)) hq
      · rw [if_neg e] at hq
        rw [show (p == q) = false from beq_eq_false_iff_ne.mpr e]
        exact PySem.W.kat_no (TS.oneLt_ints _ hq)
theorem firstsL {h : Heap} : ∀ vs : List Value, (∀ v ∈ vs, ∃ ns, TS.TupInts h v ns ∧ ns ≠ []) → ∃ fs, PySem.W.KatTups h vs fs ∧ fs.length = vs.length ∧ ∀ f ∈ fs, ∃ n t, f = Value.int n t
  | [], _ => ⟨[], PySem.W.KatTups.nil, rfl, fun f hf => absurd hf List.not_mem_nil⟩
  | v :: vs, x => by
    obtain ⟨fs, k, hl, hi⟩ := firstsL vs fun u hu => x u (List.mem_cons_of_mem v hu)
    obtain ⟨ns, ⟨a, xs, rfl, ⟨o, ho, hc, n, hdt⟩, i⟩, hn⟩ := x v List.mem_cons_self
    cases q : xs.toList with
    | nil =>
      rw [q] at i
      cases i
      exact absurd rfl hn
    | cons y ys =>
      obtain ⟨m, t, hy⟩ := i.all y (by rw [q]; exact List.mem_cons_self)
      have z : xs[0]? = some y := by
        rw [← Array.getElem?_toList, q]
        rfl
      refine ⟨y :: fs, PySem.W.KatTups.cons ho hc hdt z k, by rw [List.length_cons, List.length_cons, hl], fun f hf => ?_⟩
      rcases List.mem_cons.mp hf with rfl | hf
      · exact ⟨m, t, hy⟩
      · exact hi f hf
theorem rows_cmp {vs : List Value} {k : Value → List Int} (hp : ∀ v ∈ vs, TS.TupInts s.heap v (k v)) : SrtO.Cmp prog w A s (PyProof.Rows.tuples' true) (fun p => p.1 ∈ vs) (SrtO.lt2 fun v u => lexL (k v) (k u)) := by
  intro p q hm hm'
  have h1 := hp _ hm
  have h2 := hp _ hm'
  show wpAny (model prog w) A (keyLt' (tuples' true) p.1 q.1) (fun r s' => s' = s ∧ r = lexL (k p.1) (k q.1)) (fun _ _ => False) s
  generalize k p.1 = ns at h1 ⊢
  generalize k q.1 = ms at h2 ⊢
  obtain ⟨a, xs, e, ⟨o, ho, hc, n, hd⟩, i1⟩ := h1
  obtain ⟨a', ys, e', ⟨o', ho', hc', n', hd'⟩, i2⟩ := h2
  rw [e, e']
  refine PySem.W.kat_lt ho hd ho' hd' (lex_go 0 i1 i2 ?_ ⟨rfl, rfl⟩)
  have l1 := i1.length
  have l2 := i2.length
  rw [Array.length_toList] at l1 l2
  rw [← l1, ← l2]
theorem rows_sortable {a : Addr} {vs : List Value} {k : Value → List Int} (h0 : 0 < vs.length) (hp : ∀ v ∈ vs, TS.TupInts s.heap v (k v) ∧ k v ≠ []) (ha : ∀ o, s.heap.get? a = some o → o.cls ≠ .type "tuple") : SrtO.SortableO prog w A s a vs fun v u => lexL (k v) (k u) := by
  intro h' keep
  have hp' : ∀ v ∈ vs, TS.TupInts h' v (k v) := fun v hm => (hp v hm).1.keeps fun b o e c => keep b o (fun z => by subst z; exact ha o e c) e
  obtain ⟨fs, h1, h2, h3⟩ := firstsL (h := h') vs fun v hm => ⟨_, hp' v hm, (hp v hm).2⟩
  refine ⟨tuples' true, fun Q E hq => ?_, rows_cmp hp'⟩
  refine PySem.W.kat_kind (T := .type "int") h1 (by omega) (fun f hm => ?_) (by rfl) ?_
  · obtain ⟨x, t, rfl⟩ := h3 f hm
    exact PySem.W.Looks.now
  · have e : (Value.type "int" != Value.type "tuple") = true := by first | decide +kernel | rfl | decide
    rw [e]
    exact hq
end
/-- which ints the tuples of a list hold -/
structure RowsAre (K : PySem.W.Frag) (H : Hp) (xs : List V) (rows : List (List Int)) : Prop where
  len : xs.length = rows.length
  at_ : ∀ (i : Nat) (x : V), xs[i]? = some x → ∃ (ns : List Int) (t : Addr), rows[i]? = some ns ∧ ns ≠ [] ∧ x = .ref t ∧ SqT K H t (ns.map V.int)
def rSortedT (K : PySem.W.Frag) : List V → Hp → VK → Prop := fun vs H Q => ∃ (a : Addr) (xs : List V) (rows : List (List Int)), vs = [V.ref a] ∧ SqL K H a xs ∧ RowsAre K H xs rows ∧
  ∀ (ys : List V) (p : Addr) (k : V → List Int), xs.map k = rows → Asc (ys.map k) → ys.Perm xs → H p = none → Q (.ref p) (upd H p (.lst ys))
def valOf : V → Value
  | .ref a => .ref a
  | _ => .none
theorem cr_sortedT {X : Cx} : CallR X (.builtin "sorted") (rSortedT X.K) := by
  intro pins s σ H vs us Q I r h
  obtain ⟨a, xs, rows, rfl, hs, hrows, q⟩ := h
  obtain ⟨its, rv, hl, hz⟩ := I.list hs
  rw [Vals.ref1 r]
  have all : ∀ (i : Nat) (x : V), xs[i]? = some x → ∃ (t : Addr) (ns : List Int), x = .ref t ∧ its[i]? = some (.ref t) ∧ rows[i]? = some ns ∧ TS.TupInts s.heap (.ref t) ns ∧ ns ≠ [] := by
    intro i x hx
    obtain ⟨ns, t, h1, h2, rfl, h3⟩ := hrows.at_ i x hx
    obtain ⟨u, h4, h5⟩ := rv.get hx
    obtain rfl : u = Value.ref t := h5
    obtain ⟨its2, r2, p2, _⟩ := I.tuple h3
    exact ⟨t, ns, rfl, h4, h1, ⟨t, its2.toArray, rfl, p2, by simpa using r2.ints⟩, h2⟩
  have mem : ∀ u ∈ its, ∃ t, u = Value.ref t ∧ TS.TupInts s.heap u (TS.intsOf s.heap u) ∧ TS.intsOf s.heap u ≠ [] := by
    intro u hu
    obtain ⟨i, hi, rfl⟩ := List.mem_iff_getElem.mp hu
    have hi2 : i < xs.length := by rw [rv.length]; exact hi
    obtain ⟨t, ns, _, h1, _, h2, h3⟩ := all i _ (List.getElem?_eq_getElem hi2)
    rw [List.getElem?_eq_getElem hi] at h1
    have e : its[i] = Value.ref t := Option.some.inj h1
    rw [e]
    refine ⟨t, rfl, ?_, ?_⟩
    · rw [h2.ints]
      exact h2
    · rw [h2.ints]
      exact h3
  obtain ⟨e1, e2⟩ := refs_back rv fun x m => by
    obtain ⟨i, hi, rfl⟩ := List.mem_iff_getElem.mp m
    obtain ⟨t, _, e, _⟩ := all i _ (List.getElem?_eq_getElem hi)
    exact ⟨t, e⟩
  have back : ∀ u : Value, (∃ t, u = Value.ref t) → valOf (backV u) = u := fun u ⟨t, e⟩ => by rw [e]; rfl
  refine SrtO.sorted_ord (ltv := fun v u => lexL (TS.intsOf s.heap v) (TS.intsOf s.heap u)) ⟨fun _ _ => lexL_asym _ _, fun _ _ _ => lexL_neg _ _ _⟩ hl.isList (by rw [← rv.length]; exact hz) (fun h2 h₁ a' ha' kk => ?_) fun out h1 h2 => ?_
  · refine rows_sortable (s := { s with heap := h₁ }) (k := fun v => TS.intsOf s.heap v) (by omega) (fun v hv => ?_) fun o e => ?_
    · obtain ⟨t, _, g1, g2⟩ := mem v hv
      exact ⟨g1.keeps fun b o e _ => (kk b o e).2, g2⟩
    · have e' : some o = some (seqObj "list" its.toArray 0) := e.symm.trans ha'
      cases e'
      intro c
      exact absurd (Value.type.inj c) (by decide)
  · have h3 : ∀ u ∈ out, ∃ a, u = Value.ref a := fun u hu => e2 u (h2.perm.mem_iff.mp hu)
    obtain ⟨ep, he'⟩ := PyProof.Rows.sortedAll_at s.heap its out.toArray
    have hp : (out.map backV).Perm xs := by
      rw [e1]
      exact h2.perm.map backV
    have hk : xs.map (fun x => TS.intsOf s.heap (valOf x)) = rows := by
      apply List.ext_getElem?
      intro i
      rw [List.getElem?_map]
      cases hx : xs[i]? with
      | none =>
        have : rows.length ≤ i := by rw [← hrows.len]; exact List.getElem?_eq_none_iff.mp hx
        rw [List.getElem?_eq_none this]
        rfl
      | some x =>
        obtain ⟨t, ns, rfl, _, g1, g2, _⟩ := all i x hx
        rw [g1]
        show some (TS.intsOf s.heap (Value.ref t)) = _
        rw [g2.ints]
    have ha : Asc ((out.map backV).map fun x => TS.intsOf s.heap (valOf x)) := by
      rw [List.map_map]
      refine List.pairwise_map.mpr ?_
      refine h1.imp_of_mem fun {x y} hx hy z => ?_
      show lexL (TS.intsOf s.heap (valOf (backV y))) (TS.intsOf s.heap (valOf (backV x))) = false
      rw [back x (h3 x hx), back y (h3 y hy)]
      exact z
    have hlen : (out.map backV).length ≤ sizeLine := by
      rw [hp.length_eq]
      exact hz
    exact ⟨.ref _, upd H (s.heap.objs.size + 1) (.lst (out.map backV)), I.laid (t' := s.toks) (fun _ _ => PyProof.Rows.sortedAll_old) (Nat.le_succ _) ⟨hlen, out, ep, vals_back h3, he'⟩, rfl, q _ _ _ hk ha hp (I.hok.fresh (Nat.le_succ _))⟩
end Wk
/-! sorted, divmod, tuple + tuple, two-fold comprehensions, truth of ints, displays of what is drawn, calls by keywords -/
namespace Wk
open PySem PySem.Spec PyProof.Rows L2
/-- a tuple of ints -/
abbrev rowD (ns : List Int) : PD := .tuple (ns.map PyData.int)
section
variable {X : Cx} {C : Ct} {L : Ls} {δ : Dl} {n m k : Nat} {a b c e f : Expr} {es : List Expr} {pos p : Pos} {d : PD} {ds fs : List PD} {x : Str}
theorem dv_row {K : PySem.W.Frag} {B : List Addr} {H : Hp} {v : V} {ns : List Int} (h : Dv K B H v (rowD ns)) : ∃ t, v = .ref t ∧ RdT K B H t (ns.map V.int) := by
  cases h with
  | @tup t xs _ r g =>
    have e := g.ints
    subst e
    exact ⟨t, rfl, r⟩
theorem rows_of {K : PySem.W.Frag} {B : List Addr} {H : Hp} {vs : List V} {rows : List (List Int)} (g : DvAll K B H vs (rows.map rowD)) (hne : ∀ ns ∈ rows, ns ≠ []) : RowsAre K H vs rows := by
  refine ⟨by rw [g.length, List.length_map], fun i x hx => ?_⟩
  obtain ⟨d, h1, h2⟩ := g.vget hx
  rw [List.getElem?_map] at h1
  cases q : rows[i]? with
  | none =>
    rw [q] at h1
    cases h1
  | some ns =>
    rw [q] at h1
    cases h1
    obtain ⟨t, rfl, r⟩ := dv_row h2
    exact ⟨ns, t, rfl, hne ns (List.mem_of_getElem? q), rfl, r.sq⟩
theorem dv_mem {K : PySem.W.Frag} {B : List Addr} {H : Hp} {xs : List V} {rows : List (List Int)} {kf : V → List Int} (g : DvAll K B H xs (rows.map rowD)) (hk : xs.map kf = rows) : ∀ {ys : List V}, (∀ y ∈ ys, y ∈ xs) → DvAll K B H ys ((ys.map kf).map rowD)
  | [], _ => .nil
  | y :: ys, h => by
    obtain ⟨i, hi, e⟩ := List.mem_iff_getElem.mp (h y List.mem_cons_self)
    have hx : xs[i]? = some y := by rw [List.getElem?_eq_getElem hi, e]
    obtain ⟨d, h1, h2⟩ := g.vget hx
    have h3 : rows[i]? = some (kf y) := by rw [← hk, List.getElem?_map, hx]; rfl
    rw [List.getElem?_map, h3] at h1
    cases h1
    exact .cons h2 (dv_mem g hk fun z hz => h z (List.mem_cons_of_mem _ hz))
theorem e_sortT {rows : List (List Int)} (hm : X.mg "sorted" = none) (hne : ∀ ns ∈ rows, ns ≠ []) (h : Ed X C L δ e n m (.list (rows.map rowD))) (hg : Gl X "sorted" := by rfl) (he : starEach [e] X.env = (false, eval e X.env) :: starEach [] X.env := by rfl) :
    Ed X C L δ (.Call (.Name "sorted" p) [e] [] pos) n m (.list ((sortL rows).map rowD)) :=
  e_callB cr_sortedT (R := Eq ([.list (rows.map rowD)].map SV.d)) (fun vs svs H Q h1 e1 s1 q => by
    subst e1
    obtain ⟨v, rfl, g⟩ := DvAll.one s1
    cases g with
    | @lst _ xs _ r g =>
      refine ⟨_, xs, rows, rfl, r.sq, rows_of g hne, fun ys l kf hk hA hp nl => ?_⟩
      have sm := same_new (o := .lst ys) nl
      have g2 := dv_mem g hk (ys := ys) fun y hy => hp.mem_iff.mp hy
      have e2 : ys.map kf = sortL rows := sortL_of (by rw [← hk]; exact hp.map kf) hA
      rw [e2] at g2
      exact q _ _ _ sm rfl (Dv.lst (.inl ⟨h1.fresh nl, .inl upd_same⟩) (g2.keep (.same sm)))) hm (by decide +kernel) (a_cons h a_nil he) hg (he := he)
theorem e_divmod {i j : Int} (hm : X.mg "divmod" = none) (hc : CDivW i j) (ha : Ed X C L δ a n m (.int i)) (hb : Ed X C L δ b m k (.int j)) (hg : Gl X "divmod" := by rfl) (he : starEach [a, b] X.env = (false, eval a X.env) :: starEach [b] X.env := by rfl) (he2 : starEach [b] X.env = (false, eval b X.env) :: starEach [] X.env := by rfl)
    (hpl : (backTo pos (starEach [b] X.env)).any (·.1) = false := by rfl) : Ed X C L δ (.Call (.Name "divmod" p) [a, b] [] pos) n k (.tuple [.int (i / j), .int (i % j)]) :=
  e_callB call_divmodW (R := Eq ([.int i, .int j].map SV.d)) (fun vs svs H Q h1 e1 s1 q => by
    subst e1
    obtain ⟨v, w, rfl, g, g'⟩ := DvAll.two s1
    cases g
    cases g'
    refine ⟨i, j, rfl, ⟨hc.1, PyProof.noPylong_of_log2 hc.2⟩, fun l nl => ?_⟩
    have sm := same_new (o := .tup [.int (i / j), .int (i % j)]) nl
    exact q _ _ _ sm rfl (Dv.tup (.inl ⟨h1.fresh nl, .inl upd_same⟩) (.cons (.int _) (.cons (.int _) .nil)))) hm (by decide +kernel) (a_cons ha (a_cons hb a_nil he2) he) hg (he := he) (hpl := hpl)
theorem v_catT {K : PySem.W.Frag} (hz : ds.length + fs.length ≤ 100000) : V2 K C L n (rCatA K) (.tuple ds) (.tuple fs) (.tuple (ds ++ fs)) := fun x y H Q h hx hy q => by
  cases hx with
  | @tup a xs _ r g =>
    cases hy with
    | @tup b ys _ r2 g2 =>
      have l1 := g.length
      have l2 := g2.length
      refine ⟨a, b, xs, ys, rfl, rfl, r.sq, r2.sq, Nat.le_trans (by omega : _ ≤ 100000) (by decide), fun e => ?_, fun _ e => ?_, fun _ _ l nl => ?_⟩
      · subst e
        cases g
        exact q _ H (.refl H) (.tup r2 g2)
      · subst e
        cases g2
        rw [List.append_nil] at q
        exact q _ H (.refl H) (.tup r g)
      · have sm := same_new (o := .tup (xs ++ ys)) nl
        exact q _ _ sm (.tup (.inl ⟨h.fresh nl, .inl upd_same⟩) ((g.app g2).keep (.same sm)))
theorem e_catT (ha : Ed X C L δ a n m (.tuple ds)) (hb : Ed X C L δ b m k (.tuple fs)) (hz : ds.length + fs.length ≤ 100000) : Ed X C L δ (.BinOp a .Add b pos) n k (.tuple (ds ++ fs)) := e_op op_catA (v_catT hz) ha hb
theorem t_truI {i : Int} (ha : Ed X C L δ a n m (.int i)) (he : ∀ whole, isTrue a X.env whole = (do let v ← whole; standAt a.pos; holding [v] (truthy v)) := by intro _; rfl) : T X C L δ a n m (i != 0) :=
  PT.imp (pt_truth ha he) fun σ H Q ⟨t, q⟩ => ⟨t, fun v H2 sv k1 h1 e1 s1 => by
    subst e1
    cases s1
    exact ⟨_, rfl, q H2 k1 h1⟩⟩
/-- a list of drawn things -/
theorem e_lstR {R : List SV → Prop} (h : Ar X C L δ es n m R) (hR : ∀ svs, R svs → ∃ ds : List PD, svs = ds.map SV.d ∧ ds.length ≤ 1000) : E X C L δ (.List es pos) n m (fun sv => ∃ ds : List PD, sv = .d (.list ds) ∧ R (ds.map SV.d)) :=
  PE.imp (pe_lst h) fun σ H Q ⟨t, q⟩ => ⟨t, fun vs H2 svs k1 h1 e1 s1 => by
    obtain ⟨ds, rfl, hz⟩ := hR svs e1
    have g := s1.data
    refine ⟨?_, fun r nr => ?_⟩
    · rw [g.length]
      exact Nat.le_of_lt (small1000 hz)
    · have sm := same_new (o := .lst vs) nr
      exact q (.ref r) _ _ (k1.trans (.same sm)) (h1.same sm) ⟨ds, rfl, e1⟩ (Dv.lst (.inl ⟨h1.fresh nr, .inl upd_same⟩) (g.keep (.same sm)))⟩
end
/-! ### a list that is filled no more -/
section
variable {X : Cx} {F : Fm} {L : Ls} {δ : Dl} {n m k : Nat} {D0 : Ends} {rest sts : List Stmt} {x y : Str} {pos p q : Pos} {e : Expr} {ds fs : List PD} {d : PD}
theorem In.frz {K : PySem.W.Frag} {D : Addr} {σ : L2.St} {H : Hp} (i : Nat) (hd : δ[i]? = some (some (.v (.ref D)))) (h : In K F ⟨(D, ds) :: L, δ, n⟩ σ H) : In K F ⟨L, δ.set i (some (.d (.list ds))), n⟩ σ H := by
  have sub : ∀ b, b ∈ Bd F.C L → b ∈ Bd F.C ((D, ds) :: L) := fun b hb => List.mem_cons_of_mem _ hb
  have hl : Hold K F.C ((D, ds) :: L) n H := h.at_.hold
  have hnd : D ∉ Bs F.C L := (List.nodup_cons.mp (show (D :: Bs F.C L).Nodup from hl.nd)).1
  have sl : Sl K (Bd F.C ((D, ds) :: L)) H σ δ := h.at_.sl
  refine ⟨h.an, fun a ha b hb => h.fr a ha b (List.mem_cons_of_mem _ hb), ⟨?_, hl.pop⟩⟩
  have sl2 := sl.less sub
  refine ⟨by rw [List.length_set]; exact sl2.1, fun j sv hj => ?_⟩
  by_cases e : i = j
  · subst e
    have hi : i < δ.length := (List.getElem?_eq_some_iff.mp hd).1
    rw [List.getElem?_set_self hi] at hj
    cases hj
    obtain ⟨v, h1, h2⟩ := sl2.2 i _ hd
    have e0 : v = .ref D := h2
    subst e0
    obtain ⟨xs, hx, gx⟩ := hl.ls D ds List.mem_cons_self
    refine ⟨_, h1, Dv.lst (.inl ⟨fun z => ?_, .inl hx⟩) (gx.less sub)⟩
    rcases List.mem_append.mp z with z | z
    · exact hnd z
    · exact hl.dj _ List.mem_cons_self z
  · rw [List.getElem?_set_ne e] at hj
    exact sl2.2 j sv hj
/-- from here on the list in slot i is a datum -/
theorem r_frz {D : Addr} (i : Nat) (g : Bk X F ⟨L, δ.set i (some (.d (.list ds))), n⟩ D0 sts) (hd : δ[i]? = some (some (.v (.ref D))) := by rfl) : Bk X F ⟨(D, ds) :: L, δ, n⟩ D0 sts :=
  PSs.imp g fun D' σ H ⟨le, ii⟩ => ⟨le, ii.frz i hd⟩
/-- a, b = e, [] -/
theorem r_parEN {px py pt pt2 np : Pos} {kt k2 : Nat} {R : SV → Prop} (i j : Nat) (hc : X.calm = true) (hN : X.N.Nodup) (hij : i ≠ j) (he : E X F.C L δ e n m R)
    (g : ∀ sv E, R sv → Bk X F ⟨(E, Cont.lst []) :: L, (δ.set i (some sv)).set j (some (.v (.ref E))), m⟩ D0 rest)
    (hi : X.N[i]? = some x := by rfl) (hj : X.N[j]? = some y := by rfl) (hx : X.env.scope.names.lookup x = some .local := by rfl) (hy : X.env.scope.names.lookup y = some .local := by rfl)
    (hs1 : starEach [e, .List [] np] X.env = (false, eval e X.env) :: starEach [.List [] np] X.env := by rfl) (hs2 : starEach [.List [] np] X.env = (false, eval (.List [] np) X.env) :: starEach [] X.env := by rfl)
    (hw : swappedStores [.Tuple [.Name x px, .Name y py] kt pt] (.Tuple [e, .List [] np] k2 pt2) X.env = pure (some [x, y]) := by rfl) (hs : swapsWithSole [.Tuple [.Name x px, .Name y py] kt pt] (.Tuple [e, .List [] np] k2 pt2) pos.line X.env = pure false := by rfl) :
    Bk X F ⟨L, δ, n⟩ D0 (.Assign [.Tuple [.Name x px, .Name y py] kt pt] (.Tuple [e, .List [] np] k2 pt2) pos :: rest) := by
  refine r_cons (fun c' => ∃ sv E, R sv ∧ c' = ⟨(E, Cont.lst []) :: L, (δ.set i (some sv)).set j (some (.v (.ref E))), m⟩) (PS.imp (ps_par hc hN hi hj hij hx hy (pa_cons he (pa_cons (pe_lst pa_nil) pa_nil hs2) hs1) hw hs) fun D σ H ⟨le, ii⟩ => ⟨ii.at_, fun v H2 sv k1 h1 r1 s1 => ?_⟩) fun c' ⟨sv, E, r, ec⟩ => by subst ec; exact g sv E r
  refine ⟨Nat.zero_le _, fun r nr => ?_⟩
  have i1 := (ii.go k1 h1).push nr (xs := []) (ds := []) .nil
  have s2 : SvOk X.K (Bd F.C ((r, Cont.lst []) :: L)) (upd H2 r (.lst [])) v sv := (s1.grow nr).keep (.same (same_new nr))
  exact ⟨v, .ref r, rfl, le.nx _ _ ⟨_, ⟨sv, r, r1, rfl⟩, i1.slots ⟨(i1.at_.sl.set s2).set (sv := .v (.ref r)) rfl, i1.at_.hold⟩⟩⟩
end
end Wk
/-! [elt for x in xs for y in ys]; calls by keywords -/
namespace Wk
open PySem PySem.Spec PyProof.Rows L2
section
variable {J : It} {N : Nat} {G : Hp → Prop} {Y : Nat → Hp → V → Hp → Prop} {g : TG} {tt : TT} {te : TE} {vs : List Nat} {σ : L2.St} {H0 : Hp} {D : Addr} {Nx : Hp → Prop}
/-- one turn of an inner walk -/
def turnK (g : TG) (tt : TT) (te : TE) (vs : List Nat) (σ : L2.St) (D : Addr) (x : V) (H' : Hp) (Z : Hp → Prop) : Prop :=
  g x (L2.wipe σ vs) H' fun σa Ha => L2.wipe σa vs = L2.wipe σ vs ∧ tt σa Ha fun b Hb => if b = true then te σa Hb fun y Hc => ∃ acc, Hc D = some (.lst acc) ∧ acc.length < sizeLine ∧ Z (upd Hc D (.lst (acc ++ [y]))) else Z Hb
theorem walk_in (w : Walk J N G Y) (Pv : Nat → Hp → Prop) (h0 : Pv 0 H0) (hG : ∀ i H, i ≤ N → Pv i H → G H) (hs : ∀ i x H H', i < N → Pv i H → Y i H x H' → turnK g tt te vs σ D x H' (Pv (i + 1))) (hd : ∀ H, Pv N H → Nx H) :
    ∃ W : Nat → Nat → Hp → Prop, (∃ m, W 0 m H0) ∧ ∀ i m H, W i m H → (J.stop i H ∧ Nx H) ∨ (J.go i H ∧ ∃ Nx1 : Hp → Prop, (∀ H', Nx1 H' → ∃ m', m' < m ∧ W (i + 1) m' H') ∧ ∀ x H', J.yld i H x H' → turnK g tt te vs σ D x H' Nx1) := by
  refine ⟨fun i m H => m + i = N ∧ Pv i H, ⟨N, rfl, h0⟩, fun i m H ⟨e, p⟩ => ?_⟩
  have gi := hG i H (by omega) p
  rcases Nat.lt_or_ge i N with l | l
  · exact .inr ⟨w.goes i H l gi, Pv (i + 1), fun H' p' => ⟨m - 1, by omega, by omega, p'⟩, fun x H' yy => hs i x H H' l p (w.yields i H x H' l gi yy)⟩
  · obtain rfl : i = N := by omega
    exact .inl ⟨w.stops H gi, hd H p⟩
end
section
variable {X : Cx} {C : Ct} {L : Ls} {δ : Dl} {n m k : Nat}
def ti2 (K : PySem.W.Frag) (C : Ct) (L : Ls) (δ0 : Dl) (ds : List PD) (gs : PD → List PD) (i m : Nat) : TI := fun σ H R => ∃ (D : Addr) (acc : List PD) (d : PD), d ∈ ds ∧ tIt K C ((D, acc) :: L) (δ0.set i (some (.d d))) m m (gs d) σ H R
def te2 (K : PySem.W.Frag) (C : Ct) (L : Ls) (δ0 : Dl) (ds : List PD) (gs : PD → List PD) (f : PD → PD → PD) (i j m : Nat) : TE := fun σ H Q => ∃ (D : Addr) (acc : List PD) (d e : PD), d ∈ ds ∧ e ∈ gs d ∧
  tOf K C ((D, acc) :: L) (((δ0.set i (some (.d d))).set j none).set j (some (.d e))) m m (Eq (SV.d (f d e))) σ H Q
theorem flat_snoc {ds : List PD} {k : Nat} {d : PD} {h : PD → List PD} (e : ds[k]? = some d) : (ds.take (k + 1)).flatMap h = (ds.take k).flatMap h ++ h d := by
  rw [List.take_add_one, e, List.flatMap_append]
  simp
theorem lc2_imp {vs : List Nat} {i j : Nat} {ds : List PD} {gs : PD → List PD} {f : PD → PD → PD} (hi : i ∈ vs) (hj : j ∈ vs) (hz : ∀ k, ((ds.take k).flatMap fun d => (gs d).map (f d)).length ≤ 100000) (hz2 : ∀ d ∈ ds, (gs d).length ≤ 100000) (σ : L2.St) (H : Hp) (Q : VK)
    (hq : tOf X.K C L δ n m (Eq (SV.d (.list (ds.flatMap fun d => (gs d).map (f d))))) σ H Q) :
    tLc2 (tIt X.K C L δ n m ds) (gT X.K C (.name i)) tYes (ti2 X.K C L (wipeD δ vs) ds gs i m) (gT X.K C (.name j)) tYes (te2 X.K C L (wipeD δ vs) ds gs f i j m) vs [j] σ H Q := by
  obtain ⟨t, q⟩ := hq
  refine ⟨t, fun J H1 k1 h1 goes => ?_⟩
  intro D hD
  obtain ⟨G, g0, gGrow, gKeep, wk⟩ := goes.ex
  have t1 : At X.K C L δ m σ H1 := t.go k1 h1
  have smD := same_new (o := .lst []) hD
  let fl : Nat → List PD := fun k => (ds.take k).flatMap fun d => (gs d).map (f d)
  have wd := wk (D :: Bd C L)
  let Pv : Nat → Hp → Prop := fun k H2 => At X.K C ((D, fl k) :: L) (wipeD δ vs) m (L2.wipe σ vs) H2 ∧ Keep (Bs C L) H1 H2 ∧ G (D :: Bd C L) H2
  have wid : ∀ b, b ∈ D :: Bs C L → b ∈ D :: Bd C L := fun b hb => (List.mem_cons.mp hb).elim (fun z => by rw [z]; exact List.mem_cons_self) fun z => List.mem_cons_of_mem _ (bs_bd _ z)
  refine ⟨fun k r H2 => r + k = ds.length ∧ Pv k H2, ⟨ds.length, rfl, ⟨((t1.sl.grow hD).keep (.same smD)).wipe _, h1.push hD .nil⟩, .same smD, gKeep _ _ _ (gGrow _ _ _ g0 hD) (.same smD)⟩, ?_⟩
  rintro k r H2 ⟨er, t2, k2, g2⟩
  rcases Nat.lt_or_ge k ds.length with hk | hk
  · refine .inr ⟨wd.goes k H2 hk g2, Pv (k + 1), fun H' p' => ⟨r - 1, by omega, by omega, p'⟩, fun x H3 y => ?_⟩
    obtain ⟨sm, d, hd, dv⟩ := wd.yields k H2 x H3 hk g2 y fun b hb => t2.hold.known hb
    have dm := List.mem_of_getElem? hd
    have h3 := t2.hold.same sm
    refine ⟨(D, fl k) :: L, wipeD δ vs, m, d, _, t2.same sm, dv, rfl, fun σ2 t3 w3 => ⟨?_, ?_⟩⟩
    · rw [w3 vs fun u hu => by rw [List.mem_singleton.mp hu]; exact hi]
      exact wipe_wipe fun u hu => hu
    · refine tyes_if ?_
      refine ⟨D, fl k, d, dm, t3, fun J1 H4 k4 h4 goes1 => ?_⟩
      obtain ⟨G1, g10, _, gKeep1, wk1⟩ := goes1.ex
      have kA : Keep (D :: Bs C L) H2 H4 := (Keep.same sm).trans k4
      have s4 : Sl X.K (Bd C ((D, fl k) :: L)) H4 σ2 ((wipeD δ vs).set i (some (.d d))) := t3.sl.keep (k4.wider wid)
      refine walk_in (g := gT X.K C (.name j)) (tt := tYes) (te := te2 X.K C L (wipeD δ vs) ds gs f i j m) (vs := [j]) (σ := σ2) (D := D) (Nx := Pv (k + 1)) (wk1 (D :: Bd C L)) (fun q H5 => Hold X.K C ((D, fl k ++ ((gs d).take q).map (f d)) :: L) m H5 ∧ Keep (D :: Bs C L) H4 H5 ∧ G1 (D :: Bd C L) H5) ⟨?_, .refl _ _, g10⟩ (fun q H5 _ z => z.2.2) ?_ ?_
      · have e0 : fl k ++ ((gs d).take 0).map (f d) = fl k := by rw [List.take_zero, List.map_nil, List.append_nil]
        rw [e0]
        exact h4
      · rintro q x1 H5 H6 hq5 ⟨h5, k5, g5⟩ y1
        obtain ⟨sm1, e, he, ev⟩ := y1 fun b hb => h5.known hb
        have hb5 : (fl k ++ ((gs d).take q).map (f d)).length < 200001 := by
          rw [List.length_append, List.length_map]
          have a1 := hz k
          have a2 := hz2 d dm
          have a3 : ((gs d).take q).length ≤ (gs d).length := by rw [List.length_take]; omega
          show (fl k).length + _ < _
          have a4 : (fl k).length ≤ 100000 := a1
          omega
        have es : fl k ++ ((gs d).take (q + 1)).map (f d) = (fl k ++ ((gs d).take q).map (f d)) ++ [f d e] := by
          rw [List.take_add_one, he, List.map_append, ← List.append_assoc]
          rfl
        have s5 : Sl X.K (Bd C ((D, fl k ++ ((gs d).take q).map (f d)) :: L)) H6 (L2.wipe σ2 [j]) (wipeD ((wipeD δ vs).set i (some (.d d))) [j]) := ((s4.keep (k5.wider wid)).keep (.same sm1)).wipe [j]
        refine ⟨(D, fl k ++ ((gs d).take q).map (f d)) :: L, wipeD ((wipeD δ vs).set i (some (.d d))) [j], m, e, _, ⟨s5, h5.same sm1⟩, ev, rfl, fun σ3 t6 w6 => ⟨?_, ?_⟩⟩
        · rw [w6 [j] fun u hu => hu]
          exact wipe_wipe fun u hu => hu
        · refine tyes_if ?_
          refine ⟨D, _, d, e, dm, List.mem_of_getElem? he, t6, fun v H7 sv k7 h7 r7 s7 => ?_⟩
          subst r7
          obtain ⟨xs, hx, gx⟩ := h7.ls D _ List.mem_cons_self
          have gx' := gx.app (.cons s7 .nil)
          have kD : Keep (D :: Bs C L) H7 (upd H7 D (.lst (xs ++ [v]))) := keep_upd List.mem_cons_self
          have kB : Keep (D :: Bs C L) H5 (upd H7 D (.lst (xs ++ [v]))) := (Keep.same sm1).trans (k7.trans kD)
          refine ⟨xs, hx, ?_, ?_, k5.trans kB, gKeep1 _ _ _ g5 (kB.wider wid)⟩
          · rw [gx.length]
            exact Nat.lt_trans hb5 (by decide)
          · rw [es]
            exact h7.put gx'
      · rintro H5 ⟨h5, k5, g5⟩
        have kB := kA.trans k5
        refine ⟨⟨t2.sl.keep (kB.wider wid), ?_⟩, keep_over k2 kB hD, gKeep _ _ _ g2 (kB.wider wid)⟩
        have e1 : fl (k + 1) = fl k ++ ((gs d).take (gs d).length).map (f d) := by
          rw [List.take_length]
          exact flat_snoc hd
        rw [e1]
        exact h5
  · obtain rfl : k = ds.length := by omega
    refine .inl ⟨wd.stops H2 g2, ?_⟩
    have e1 : fl ds.length = ds.flatMap fun d => (gs d).map (f d) := by
      show (ds.take ds.length).flatMap _ = _
      rw [List.take_length]
    obtain ⟨xs, hx, gx⟩ := t2.hold.ls D _ List.mem_cons_self
    rw [e1] at gx
    exact q _ H2 _ (k1.trans k2) t2.hold.pop rfl (Dv.lst (.inl ⟨fun z => h1.fresh hD z, .inl hx⟩) (gx.less fun b hb => List.mem_cons_of_mem _ hb))
/-- [elt for x in xs for y in ys], nothing drawn -/
theorem e_lc2 {elt iter iter1 : Expr} {scope : Scope} {x y : Str} {i j : Nat} {own : List (Str × Nat)} {pos tp tp1 : Pos} {ds : List PD} (gs : PD → List PD) (f : PD → PD → PD) (hc : X.calm = true) (hN : X.N.Nodup) (hi : Wi X C L δ (.Name x tp) iter n m ds) (ok : BlkOk X.N X.env.scope scope own)
    (him : i ∈ own.map (·.2)) (hjm : j ∈ own.map (·.2))
    (hg : ∀ (s : Shared) (H : Hp) (Cc : Addr) (cl : List (Str × Addr)) (fp : List Addr), PG (X.blk s H scope (compEnvC scope cl Cc X.env) fp) (.Name x tp) (gT X.K C (.name i)))
    (hg1 : ∀ (s : Shared) (H : Hp) (Cc : Addr) (cl : List (Str × Addr)) (fp : List Addr), PG (X.blk s H scope (compEnvC scope cl Cc X.env) fp) (.Name y tp1) (gT X.K C (.name j)))
    (hi1 : ∀ (s : Shared) (H : Hp) (Cc : Addr) (cl : List (Str × Addr)) (fp : List Addr) (D : Addr) (acc : List PD) (d : PD), d ∈ ds →
      Wi (X.blk s H scope (compEnvC scope cl Cc X.env) fp) C ((D, acc) :: L) ((wipeD δ (own.map (·.2))).set i (some (.d d))) (.Name y tp1) iter1 m m (gs d))
    (he : ∀ (s : Shared) (H : Hp) (Cc : Addr) (cl : List (Str × Addr)) (fp : List Addr) (D : Addr) (acc : List PD) (d e : PD), d ∈ ds → e ∈ gs d →
      PE (X.blk s H scope (compEnvC scope cl Cc X.env) fp) elt (tOf X.K C ((D, acc) :: L) ((((wipeD δ (own.map (·.2))).set i (some (.d d))).set j none).set j (some (.d e))) m m (Eq (SV.d (f d e)))))
    (hz : ∀ k, ((ds.take k).flatMap fun d => (gs d).map (f d)).length ≤ 100000) (hz2 : ∀ d ∈ ds, (gs d).length ≤ 100000) (hs : ∀ x, foldedSetIterable iter X.env x = pure x := by intro _; rfl) (hs1 : ∀ env x, foldedSetIterable iter1 env x = pure x := by intro _ _; rfl) :
    Ed X C L δ (.ListComp elt [⟨.Name x tp, iter, [], 0⟩, ⟨.Name y tp1, iter1, [], 0⟩] scope pos) n m (.list (ds.flatMap fun d => (gs d).map (f d))) := by
  have hi2 : ∀ (s : Shared) (H : Hp) (Cc : Addr) (cl : List (Str × Addr)) (fp : List Addr), PI (X.blk s H scope (compEnvC scope cl Cc X.env) fp) (.Name y tp1) iter1 (ti2 X.K C L (wipeD δ (own.map (·.2))) ds gs i m) := fun s H Cc cl fp =>
    ⟨fun pins s1 σ H1 R I ⟨D, acc, d, h1, q⟩ => (hi1 s H Cc cl fp D acc d h1).run pins s1 σ H1 R I q⟩
  have he2 : ∀ (s : Shared) (H : Hp) (Cc : Addr) (cl : List (Str × Addr)) (fp : List Addr), PE (X.blk s H scope (compEnvC scope cl Cc X.env) fp) elt (te2 X.K C L (wipeD δ (own.map (·.2))) ds gs f i j m) := fun s H Cc cl fp =>
    ⟨fun pins s1 σ H1 Q I ⟨D, acc, d, e, h1, h2, q⟩ => (he s H Cc cl fp D acc d e h1 h2).run pins s1 σ H1 Q I q⟩
  exact PE.imp (pe_lc2 (own := own) (vs1 := [j]) hc hN hi ok (fun u hu => by rw [List.mem_singleton.mp hu]; exact hjm) hg (fun _ _ _ _ _ => pts_nil) hi2 hg1 (fun _ _ _ _ _ => pts_nil) he2 hs hs1) (lc2_imp him hjm hz hz2)
end
/-! ### f(k = v, ..) -/
/-- the values of the keywords, whose data are known -/
def tKw (K : PySem.W.Frag) (C : Ct) (L : Ls) (δ : Dl) (n m : Nat) (ds : List PD) : TA := tAr K C L δ n m (Eq (ds.map SV.d))
theorem PK.imp {X : Cx} {kws : List Keyword} {t t' : TA} (h : PK X kws t) (f : ∀ σ H Q, t' σ H Q → t σ H Q) : PK X kws t' := ⟨fun pos pins s σ H Q I q => h.run pos pins s σ H Q I (f σ H Q q)⟩
section
variable {X : Cx} {C : Ct} {L : Ls} {δ : Dl} {n m k l : Nat} {a b c e f : Expr} {es : List Expr} {pos p kp : Pos} {d : PD} {x : Str} {ps : List Str} {nm : Option Str} {kws : List Keyword}
theorem k_nil : PK X [] (tKw X.K C L δ n n []) := PK.imp pk_nil fun σ H Q ⟨t, q⟩ => q [] H [] (.refl _ _) t.hold rfl .nil
theorem k_cons {ds : List PD} (h : Ed X C L δ e n m d) (g : PK X kws (tKw X.K C L δ m k ds)) : PK X (⟨nm, e, kp⟩ :: kws) (tKw X.K C L δ n k (d :: ds)) :=
  PK.imp (pk_cons h g) fun σ H Q ⟨t, q⟩ => ⟨t, fun v H2 sv k1 h1 e1 s1 => ⟨t.go k1 h1, fun vs H3 svs k2 h2 e2 s2 => by
    subst e1 e2
    exact q (v :: vs) H3 _ (k1.trans k2) h2 rfl (.cons (SvOk.keep (sv := .d d) s1 (k2.wider bs_bd)) s2)⟩⟩
/-- what is known of a def that is called by keywords alone: pr puts what stands behind the keywords in the order of the parameters -/
structure KnK (P : Program) (w : World) (K : PySem.W.Frag) (mg : Str → Option Value) (base : Heap) (Z : CXT) (k : Nat) (x : Str) (ps ks : List Str) (pr : List Nat) (sp : Sp) : Prop where
  ex : ∃ (f : Addr) (fd : FuncData), mg x = some (.ref f) ∧ PySem.W.keepIn K (.ref f) = true ∧ (∀ (s : Shared) (ws : List Value), K.In s.heap → ws.length = ks.length → BindsTo s fd ⟨[], ks.zip ws⟩ (ps.zip (pr.map fun i => ws.getD i .none))) ∧ Gd P w K mg base Z k f fd ps sp
theorem e_callPK {r : Nat} {ks : List Str} {pr : List Nat} {ok : List PD → SV → Prop} {ds : List PD} {d : SV} (F : KnK X.prog X.w X.K X.mg X.base CX0 k x ps ks pr (SpP X.K ok)) (gu : X.A.guards = some []) (hr : Room r X.A) (hk : k ≤ r) (hkw : PK X kws (tKw X.K C L δ n m ds)) (hdl : ds.length = ks.length) (hpr : ∀ i ∈ pr, i < ks.length) (h : ok (pr.map fun i => ds.getD i .none) d) (hg : Gl X x := by rfl)
    (hall : (backToKw pos (keywordEach kws X.env)).all (·.1.isSome) = true := by rfl) (hks : (backToKw pos (keywordEach kws X.env)).filterMap (·.1) = ks := by rfl)
    (hdb : (x == ("__debug__" : Str)) = false := by decide) (hpl : ((backTo pos (starEach [] X.env)).any (·.1) || (backToKw pos (keywordEach kws X.env)).any (·.1.isNone)) = false := by rfl) :
    E X C L δ (.Call (.Name x p) [] kws pos) n m (Eq d) := by
  obtain ⟨f, fd, hm, hkp, hb, G⟩ := F.ex
  constructor
  intro pins s σ H Q I hq
  refine wpAny_Call_Name_kw (ld_glob I hg hm ?_ hdb)
  have kw := hkw.run pos pins s σ H (fun zs H2 => ∃ z : DvAll X.K (Bd C L) H2 zs ds, Keep (Bs C L) H H2 ∧ Hold X.K C L m H2) I ⟨hq.1, fun vs H2 svs k1 h1 e1 s1 => by
    subst e1
    exact ⟨s1.data, k1, h1⟩⟩
  refine PySem.W.callWith_KW0 (h₀ := X.base) I.ok.mod.kin hkp hall (thn kw ?_) hpl
  intro ws s1 ⟨zs, H1, I1, rz, g1, k1, h1⟩
  refine ⟨I1.kIn, ?_⟩
  rw [hks]
  have lz : zs.length = ks.length := g1.length.trans hdl
  have lw : ws.length = ks.length := by rw [← rz.length]; exact lz
  have pick : ∀ (pr : List Nat), (∀ i ∈ pr, i < ks.length) → Vals (pr.map fun i => zs.getD i .non) (pr.map fun i => ws.getD i .none) ∧ DvAll X.K (Bd C L) H1 (pr.map fun i => zs.getD i .non) (pr.map fun i => ds.getD i .none) := by
    intro pr
    induction pr with
    | nil => exact fun _ => ⟨.nil, .nil⟩
    | cons i pr ih =>
      intro hp
      obtain ⟨a1, a2⟩ := ih fun u hu => hp u (List.mem_cons_of_mem _ hu)
      have hi := hp i List.mem_cons_self
      have z1 : zs[i]? = some (zs.getD i .non) := by rw [List.getD_eq_getElem?_getD, List.getElem?_eq_getElem (by omega : i < zs.length)]; rfl
      obtain ⟨u, u1, u2⟩ := rz.get z1
      have w1 : ws.getD i .none = u := by rw [List.getD_eq_getElem?_getD, u1]; rfl
      obtain ⟨d', d1, d2⟩ := g1.vget z1
      have e1 : ds.getD i .none = d' := by rw [List.getD_eq_getElem?_getD, d1]; rfl
      refine ⟨.cons ?_ a1, .cons ?_ a2⟩
      · show RelV _ (ws.getD i .none)
        rw [w1]
        exact u2
      · show Dv _ _ _ _ (ds.getD i .none)
        rw [e1]
        exact d2
  obtain ⟨p1, p2⟩ := pick pr hpr
  have want : SpP X.K ok (pr.map fun i => zs.getD i .non) H1 Q E0 := ⟨Bd C L, _, d, fun b hb => h1.known hb, p2, h, fun v H3 sm g => hq.2 v H3 d (k1.trans (.same sm)) (h1.same sm) rfl g⟩
  have run := G.run X.A gu X.stack s1 H1 ⟨[], ks.zip ws⟩ _ _ Q E0 (hr.mono hk) I1.env0 (hb s1 ws I1.kIn lw) p1 want
  apply wpAny_call
  apply codeAny_mono run
  intro res s' hres
  match res, hres with
  | .error e, h => exact (pass0 (X := X)) pins σ H1 s1 e s' I1 h
  | .ok (.ret u), h => exact I1.after h
  | .ok .next, h => exact (show False from h).elim
  | .ok .brk, h => exact (show False from h).elim
  | .ok .cont, h => exact (show False from h).elim
end
end Wk
/-! dicts with ints for keys that are filled; lists that are filled anywhere in L; any; truth of tuples -/
namespace Wk
open PySem PySem.Spec PyProof.Rows L2
def entI (kvs : List (Int × PD)) (vs : List V) : List (L2.Key × V) := (kvs.zip vs).map fun z => (Sum.inl z.1.1, z.2)
def valsI (kvs : List (Int × PD)) : List PD := kvs.map Prod.snd
def dicI (kvs : List (Int × PD)) : Vo where
  R := fun K B H o => ∃ vs, o = .dK (entI kvs vs) ∧ DvAll K B H vs (valsI kvs)
  keep := fun ⟨vs, e, g⟩ k => ⟨vs, e, g.keep k⟩
  grow := fun ⟨vs, e, g⟩ f => ⟨vs, e, g.grow f⟩
  less := fun ⟨vs, e, g⟩ s => ⟨vs, e, g.less s⟩
  off := fun ⟨vs, e, g⟩ _ hp => ⟨vs, e, dv_off hp g⟩
def lookI (kvs : List (Int × PD)) (i : Int) : Option PD := (kvs.find? fun z => decide (z.1 = i)).map (·.2)
theorem ent_look {K : PySem.W.Frag} {B : List Addr} {H : Hp} (i : Int) : ∀ {kvs : List (Int × PD)} {vs : List V}, DvAll K B H vs (valsI kvs) → (lookI kvs i = none ∧ valV (entI kvs vs) (Sum.inl i) = none) ∨ ∃ d v, lookI kvs i = some d ∧ valV (entI kvs vs) (Sum.inl i) = some v ∧ Dv K B H v d
  | [], [], _ => .inl ⟨rfl, rfl⟩
  | (y, c) :: kvs, v :: vs, g => by
    cases g with
    | cons g1 g2 =>
      by_cases h : y = i
      · subst h
        refine .inr ⟨c, v, ?_, ?_, g1⟩
        · simp [lookI, List.find?_cons]
        · exact valV_pos (p := (Sum.inl y, v)) rfl
      · have ih := ent_look i g2
        have e1 : lookI ((y, c) :: kvs) i = lookI kvs i := by simp [lookI, List.find?_cons, h]
        have e2 : valV (entI ((y, c) :: kvs) (v :: vs)) (Sum.inl i) = valV (entI kvs vs) (Sum.inl i) := valV_neg (p := (Sum.inl y, v)) fun z => h (Sum.inl.inj z)
        rw [e1, e2]
        exact ih
theorem ent_add {kvs : List (Int × PD)} {vs : List V} {i : Int} {d : PD} {v : V} (h : vs.length = kvs.length) : entI (kvs ++ [(i, d)]) (vs ++ [v]) = entI kvs vs ++ [(Sum.inl i, v)] := by
  unfold entI
  rw [List.zip_append h.symm, List.map_append]
  rfl
theorem ent_len {kvs : List (Int × PD)} {vs : List V} (h : vs.length = kvs.length) : (entI kvs vs).length = kvs.length := by
  unfold entI
  rw [List.length_map, List.length_zip, h, Nat.min_self]
theorem put_at {kvs : List (L2.Key × V)} {x : L2.Key} {v : V} (h : valV kvs x = none) : putK kvs x v = kvs ++ [(x, v)] := by
  unfold putK
  rw [valV_any, h]
  rfl
section
variable {X : Cx} {C : Ct} {L : Ls} {δ : Dl} {n m k : Nat} {a b c e f : Expr} {es : List Expr} {pos p : Pos} {d : PD} {ds : List PD} {x : Str} {kvs : List (Int × PD)}
theorem dic_at {K : PySem.W.Frag} {H : Hp} {D : Addr} (h : Hold K C L n H) (hm : (D, Cont.vo (dicI kvs)) ∈ L) : ∃ vs, H D = some (.dK (entI kvs vs)) ∧ DvAll K (Bd C L) H vs (valsI kvs) := by
  obtain ⟨o, h1, vs, rfl, g⟩ := h.vs D (dicI kvs) hm
  exact ⟨vs, h1, g⟩
/-- i not in d -/
theorem t_dnotI {r : Nat} {D : Addr} {i : Int} (hr : Room r X.A) (hm : (D, Cont.vo (dicI kvs)) ∈ L) (ha : Ed X C L δ a n m (.int i)) (hb : Ev X C L δ b m k (.ref D)) (hk : behindInMarks .NotIn b = false := by with_unfolding_all rfl) : T X C L δ (.Compare a [.NotIn] [b] pos) n k (!(lookI kvs i).isSome) :=
  PT.imp (pt_cmp (pc_dnotin (hu_of hr) ha hb) hk) fun σ H Q ⟨t, q⟩ => ⟨t, fun v H2 sv k1 h1 e1 s1 => by
    subst e1
    cases s1
    refine ⟨t.go k1 h1, fun w H3 sw k2 h2 e2 s2 => ?_⟩
    subst e2
    have e0 : w = .ref D := s2
    obtain ⟨vs, hd, g⟩ := dic_at h2 hm
    rcases ent_look i g with ⟨g1, g2⟩ | ⟨d, u, g1, g2, _⟩
    · refine ⟨D, none, e0, .inl ⟨_, Sum.inl i, .inl hd, rfl, g2.symm⟩, _, rfl, ?_⟩
      rw [g1] at q
      exact q H3 (k1.trans k2) h2
    · refine ⟨D, some u, e0, .inl ⟨_, Sum.inl i, .inl hd, rfl, g2.symm⟩, _, rfl, ?_⟩
      rw [g1] at q
      exact q H3 (k1.trans k2) h2⟩
/-- d[i] -/
theorem e_dgetI {r : Nat} {D : Addr} {i : Int} (hr : Room r X.A) (hm : (D, Cont.vo (dicI kvs)) ∈ L) (ha : Ev X C L δ a n m (.ref D)) (hb : Ed X C L δ b m k (.int i)) (hx : lookI kvs i = some d) (hs : NoSl b := by intro _ _; rfl) : Ed X C L δ (.Subscript a b pos) n k d :=
  PE.imp (pe_dget (hu_of hr) ha hb hs) fun σ H Q ⟨t, q⟩ => ⟨t, fun v H2 sv k1 h1 e1 s1 => by
    subst e1
    have e0 : v = .ref D := s1
    subst e0
    refine ⟨t.go k1 h1, fun w H3 sw k2 h2 e2 s2 => ?_⟩
    subst e2
    cases s2
    obtain ⟨vs, hd, g⟩ := dic_at h2 hm
    rcases ent_look i g with ⟨g1, _⟩ | ⟨d', u, g1, g2, g3⟩
    · rw [g1] at hx
      cases hx
    · rw [g1] at hx
      cases hx
      exact ⟨D, u, rfl, .inl ⟨_, Sum.inl i, .inl hd, rfl, g2.symm⟩, q u H3 _ (k1.trans k2) h2 rfl g3⟩⟩
/-- the truth of a tuple -/
theorem t_truT (ha : Ed X C L δ a n m (.tuple ds)) (he : ∀ whole, isTrue a X.env whole = (do let v ← whole; standAt a.pos; holding [v] (truthy v)) := by intro _; rfl) : T X C L δ a n m (!ds.isEmpty) :=
  PT.imp (pt_truth ha he) fun σ H Q ⟨t, q⟩ => ⟨t, fun v H2 sv k1 h1 e1 s1 => by
    subst e1
    cases s1 with
    | @tup r xs _ rd g =>
      have e2 : xs.isEmpty = ds.isEmpty := by cases g <;> rfl
      exact ⟨_, .inr (.inl ⟨xs, rd.sq, rfl⟩), by rw [e2]; exact q H2 k1 h1⟩⟩
end
section
variable {X : Cx} {F : Fm} {L : Ls} {δ : Dl} {n m k : Nat} {D0 : Ends} {rest sts : List Stmt} {x y u : Str} {pos p q : Pos} {e : Expr} {ds fs : List PD} {d : PD} {kvs : List (Int × PD)}
theorem In.pushC {K : PySem.W.Frag} {σ : L2.St} {H : Hp} {r : Addr} {o : HO} {c : Cont} (ii : In K F ⟨L, δ, n⟩ σ H) (nr : H r = none) (g : ContOk K (Bd F.C L) H o c) : In K F ⟨(r, c) :: L, δ, n⟩ σ (upd H r o) := by
  have sm := same_new (o := o) nr
  refine ⟨fun a ha => (ii.an a ha).trans (.same sm), fun a ha b hb => ?_, ⟨(ii.at_.sl.grow nr).keep (.same sm), ii.at_.hold.pushC nr g⟩⟩
  rcases List.mem_cons.mp (show b ∈ r :: Bs F.C L from hb) with z | z
  · rw [z]
    by_cases w : r ∈ a.1
    · exact .inl w
    · refine .inr ?_
      cases y : a.2 r with
      | none => rfl
      | some o =>
        have q := ii.an a ha r o w y
        rw [nr] at q
        cases q
  · exact ii.fr a ha b z
theorem emptyI {K : PySem.W.Frag} {B : List Addr} {H : Hp} : ContOk K B H (.dK []) (.vo (dicI [])) := ⟨[], rfl, .nil⟩
/-- d = {} -/
theorem r_newD (i : Nat) (g : ∀ D, Bk X F ⟨(D, Cont.vo (dicI [])) :: L, δ.set i (some (.v (.ref D))), n⟩ D0 rest) (hN : X.N.Nodup) (hi : X.N[i]? = some x := by rfl) (hx : Loc X.env.scope x := by first | exact Or.inl rfl | exact Or.inr rfl)
    (hs : swapsWith (.Dict [] [] p) (some (.Name x q)) pos.line X.env = pure false := by rfl) (hf : X.fn x = true ∨ X.env.scope.names.lookup x = some .local := by first | exact .inl rfl | exact .inr rfl) : Bk X F ⟨L, δ, n⟩ D0 (.Assign [.Name x q] (.Dict [] [] p) pos :: rest) :=
  r_cons (fun c' => ∃ D, c' = ⟨(D, Cont.vo (dicI [])) :: L, δ.set i (some (.v (.ref D))), n⟩) (PS.imp (ps_set hN hi hx pe_dnewK hs hf) fun D σ H ⟨le, ii⟩ => fun r nr => by
    have i2 := ii.pushC nr (o := .dK []) emptyI
    exact le.nx _ _ ⟨_, ⟨r, rfl⟩, i2.slots ⟨i2.at_.sl.set (sv := .v (.ref r)) rfl, i2.at_.hold⟩⟩) fun c' ⟨D, ec⟩ => by subst ec; exact g D
theorem In.putAtC {K : PySem.W.Frag} {A B : Ls} {D : Addr} {c c' : Cont} {o : HO} {σ : L2.St} {H : Hp} (ii : In K F ⟨A ++ (D, c) :: B, δ, n⟩ σ H) (g : ContOk K (Bd F.C (A ++ (D, c) :: B)) H o c') : In K F ⟨A ++ (D, c') :: B, δ, n⟩ σ (upd H D o) := by
  have eB : Bs F.C (A ++ (D, c') :: B) = Bs F.C (A ++ (D, c) :: B) := by simp [Bs]
  have eD : Bd F.C (A ++ (D, c') :: B) = Bd F.C (A ++ (D, c) :: B) := by unfold Bd; rw [eB]
  have inD : D ∈ Bs F.C (A ++ (D, c) :: B) := by simp [Bs]
  have kD : Keep (Bs F.C (A ++ (D, c) :: B)) H (upd H D o) := keep_upd inD
  refine ⟨fun a ha => keep_anchor (ii.an a ha) (ii.fr a ha) kD, fun a ha b hb => ii.fr a ha b (by rw [← eB]; exact hb), ⟨?_, Hold.putAtC ii.at_.hold g⟩⟩
  show Sl K (Bd F.C (A ++ (D, c') :: B)) _ _ _
  rw [eD]
  exact ii.at_.sl.keep (kD.wider bs_bd)
/-- d[i] = e, a new key -/
theorem r_dputI {r : Nat} (A B : Ls) {D : Addr} {i : Int} {a o b : Expr} {sp : Pos} (hr : Room r X.A) (hx : lookI kvs i = none) (hz : kvs.length ≤ 100000) (ha : Ed X F.C (A ++ (D, Cont.vo (dicI kvs)) :: B) δ a n m d) (ho : Ev X F.C (A ++ (D, Cont.vo (dicI kvs)) :: B) δ o m m (.ref D)) (hb : Ed X F.C (A ++ (D, Cont.vo (dicI kvs)) :: B) δ b m m (.int i))
    (g : Bk X F ⟨A ++ (D, Cont.vo (dicI (kvs ++ [(i, d)]))) :: B, δ, m⟩ D0 rest) (hs : swapsWith a (some (.Subscript o b sp)) pos.line X.env = pure false := by rfl) :
    Bk X F ⟨A ++ (D, Cont.vo (dicI kvs)) :: B, δ, n⟩ D0 (.Assign [.Subscript o b sp] a pos :: rest) :=
  r_cons (fun c' => c' = ⟨A ++ (D, Cont.vo (dicI (kvs ++ [(i, d)]))) :: B, δ, m⟩) (PS.imp (ps_dput (hu_of hr) ho hb ha hs) fun DD σ H ⟨le, ii⟩ => ⟨ii.at_, fun v H2 sv k1 h1 r1 s1 => by
    subst r1
    have i1 := ii.go k1 h1
    refine ⟨i1.at_, fun w H3 sw k2 h2 r2 s2 => ⟨(i1.go k2 h2).at_, fun y H4 sy k3 h3 r3 s3 => ?_⟩⟩
    subst r2 r3
    have e0 : w = .ref D := s2
    subst e0
    cases s3
    have i3 := (i1.go k2 h2).go k3 h3
    have inD : (D, Cont.vo (dicI kvs)) ∈ A ++ (D, Cont.vo (dicI kvs)) :: B := List.mem_append_right _ List.mem_cons_self
    obtain ⟨vs, hd, gv⟩ := dic_at h3 inD
    have lv : vs.length = kvs.length := by rw [gv.length]; exact List.length_map _
    have vn : valV (entI kvs vs) (Sum.inl i) = none := by
      rcases ent_look i gv with ⟨_, g2⟩ | ⟨d', u, g1, _⟩
      · exact g2
      · rw [g1] at hx
        cases hx
    have s4 : Dv X.K (Bd F.C (A ++ (D, Cont.vo (dicI kvs)) :: B)) H4 v d := Dv.keep s1 ((k2.trans k3).wider bs_bd)
    refine ⟨D, _, rfl, .inl ⟨_, Sum.inl i, hd, rfl, ?_, rfl⟩, le.nx _ _ ⟨_, rfl, ?_⟩⟩
    · rw [ent_len lv]
      exact Nat.lt_of_le_of_lt hz (by decide)
    · rw [put_at vn]
      refine i3.putAtC ⟨vs ++ [v], ?_, ?_⟩
      · rw [ent_add lv]
      · show DvAll _ _ _ _ ((kvs ++ [(i, d)]).map Prod.snd)
        rw [List.map_append]
        exact gv.app (.cons s4 .nil)⟩) fun c' h => by subst h; exact g
/-- xs.append(e), anywhere -/
theorem r_appendAt (A B : Ls) {D : Addr} {o a : Expr} {apos cpos : Pos} (ho : Ev X F.C (A ++ (D, Cont.lst ds) :: B) δ o n n (.ref D)) (ha : Ed X F.C (A ++ (D, Cont.lst ds) :: B) δ a n m d) (hz : ds.length ≤ 100000) (g : Bk X F ⟨A ++ (D, Cont.lst (ds ++ [d])) :: B, δ, m⟩ D0 rest)
    (hbase : attributeBase o "append" X.env (eval o X.env) = eval o X.env := by rfl)
    (hfew : ((backTo cpos (starEach [a] X.env)).all (fun x => !x.1) && (backToKw cpos (keywordEach [] X.env)).all (fun x => x.1.isSome)
      && decide ([a].length + ([] : List Keyword).length + (if ([] : List Keyword).isEmpty then 0 else 1) < 30)) = true := by rfl)
    (hline : (apos.endLine == cpos.line) = true := by rfl) (hst : starEach [a] X.env = (false, eval a X.env) :: starEach [] X.env := by rfl) (hplain : (backTo cpos (starEach [] X.env)).any (·.1) = false := by rfl)
    (hs : swapsWith (.Call (.Attribute o "append" apos) [a] [] cpos) none pos.line X.env = pure false := by rfl) : Bk X F ⟨A ++ (D, Cont.lst ds) :: B, δ, n⟩ D0 (.Expr (.Call (.Attribute o "append" apos) [a] [] cpos) pos :: rest) :=
  r_cons (fun c' => c' = ⟨A ++ (D, Cont.lst (ds ++ [d])) :: B, δ, m⟩) (PS.imp (ps_expr (pe_bm PySem.F.plainAttrs_list PySem.F.slot_list_append PySem.F.type_list_append mt_append ho (a_cons ha a_nil hst) hbase hfew hline hst hplain) hs) fun DD σ H ⟨le, ii⟩ => ⟨ii.at_, fun v H2 sv k1 h1 r1 s1 => by
    subst r1
    have e0 : v = .ref D := s1
    subst e0
    have inD : (D, Cont.lst ds) ∈ A ++ (D, Cont.lst ds) :: B := List.mem_append_right _ List.mem_cons_self
    obtain ⟨xs, hx, gx⟩ := h1.ls D ds inD
    refine ⟨.inl ⟨rfl, _, .inl (.inl hx)⟩, (ii.go k1 h1).at_, fun vs H3 svs k2 h2 r2 s2 => ?_⟩
    subst r2
    obtain ⟨w, rfl, gw⟩ := DvAll.one s2
    obtain ⟨ys, hy, gy⟩ := h2.ls D ds inD
    refine ⟨D, ys, w, rfl, rfl, hy, ?_, le.nx _ _ ⟨_, rfl, ?_⟩⟩
    · rw [gy.length]
      exact Nat.lt_of_le_of_lt hz (by decide)
    · exact ((ii.go k1 h1).go k2 h2).putAtC ⟨_, rfl, gy.app (.cons gw .nil)⟩⟩) fun c' h => by subst h; exact g
/-- the first of the things that change is looked at no more -/
theorem r_off {D : Addr} {c : Cont} (g : Bk X F ⟨L, δ, n⟩ D0 sts) : Bk X F ⟨(D, c) :: L, δ, n⟩ D0 sts :=
  PSs.imp g fun D' σ H ⟨le, ii⟩ => ⟨le, ⟨ii.an, fun a ha b hb => ii.fr a ha b (List.mem_cons_of_mem _ hb), ⟨ii.at_.sl.less fun b hb => List.mem_cons_of_mem _ hb, Hold.pop ii.at_.hold⟩⟩⟩
/-- a, b, c = e, {}, [] (no tuple is made) -/
theorem r_parEDN {px py pu pt pt2 dp np : Pos} {kt k2 : Nat} {R : SV → Prop} (i j l : Nat) (hc : X.calm = true) (hN : X.N.Nodup) (hij : i ≠ j) (hil : i ≠ l) (hjl : j ≠ l) (he : E X F.C L δ e n m R)
    (g : ∀ sv D E, R sv → Bk X F ⟨(E, Cont.lst []) :: (D, Cont.vo (dicI [])) :: L, ((δ.set i (some sv)).set j (some (.v (.ref D)))).set l (some (.v (.ref E))), m⟩ D0 rest)
    (hi : X.N[i]? = some x := by rfl) (hj : X.N[j]? = some y := by rfl) (hl : X.N[l]? = some u := by rfl) (hx : X.env.scope.names.lookup x = some .local := by rfl) (hy : X.env.scope.names.lookup y = some .local := by rfl) (hu : X.env.scope.names.lookup u = some .local := by rfl)
    (hs1 : starEach [e, .Dict [] [] dp, .List [] np] X.env = (false, eval e X.env) :: starEach [.Dict [] [] dp, .List [] np] X.env := by rfl) (hs2 : starEach [.Dict [] [] dp, .List [] np] X.env = (false, eval (.Dict [] [] dp) X.env) :: starEach [.List [] np] X.env := by rfl) (hs3 : starEach [.List [] np] X.env = (false, eval (.List [] np) X.env) :: starEach [] X.env := by rfl)
    (hw : swappedStores [.Tuple [.Name x px, .Name y py, .Name u pu] kt pt] (.Tuple [e, .Dict [] [] dp, .List [] np] k2 pt2) X.env = pure (some [x, y, u]) := by rfl) (hs : swapsWithSole [.Tuple [.Name x px, .Name y py, .Name u pu] kt pt] (.Tuple [e, .Dict [] [] dp, .List [] np] k2 pt2) pos.line X.env = pure false := by rfl) :
    Bk X F ⟨L, δ, n⟩ D0 (.Assign [.Tuple [.Name x px, .Name y py, .Name u pu] kt pt] (.Tuple [e, .Dict [] [] dp, .List [] np] k2 pt2) pos :: rest) := by
  refine r_cons (fun c' => ∃ sv D E, R sv ∧ c' = ⟨(E, Cont.lst []) :: (D, Cont.vo (dicI [])) :: L, ((δ.set i (some sv)).set j (some (.v (.ref D)))).set l (some (.v (.ref E))), m⟩) (PS.imp (ps_par3 hc hN hi hj hl hij hil hjl hx hy hu (pa_cons he (pa_cons pe_dnewK (pa_cons (pe_lst pa_nil) pa_nil hs3) hs2) hs1) hw hs) fun DD σ H ⟨le, ii⟩ => ⟨ii.at_, fun v H2 sv k1 h1 r1 s1 => ?_⟩) fun c' ⟨sv, D, E, r, ec⟩ => by subst ec; exact g sv D E r
  intro r nr
  refine ⟨Nat.zero_le _, fun r2 nr2 => ?_⟩
  have i1 := (ii.go k1 h1).pushC nr (o := .dK []) emptyI
  have i2 := i1.pushC nr2 (o := .lst []) (c := .lst []) ⟨[], rfl, .nil⟩
  have s2 := ((s1.grow nr).keep (.same (same_new (o := .dK []) nr)))
  have s3 : SvOk X.K (Bd F.C ((r2, Cont.lst []) :: (r, Cont.vo (dicI [])) :: L)) (upd (upd H2 r (.dK [])) r2 (.lst [])) v sv := (SvOk.grow (B := Bd F.C ((r, Cont.vo (dicI [])) :: L)) s2 nr2).keep (.same (same_new nr2))
  exact ⟨v, .ref r, .ref r2, rfl, le.nx _ _ ⟨_, ⟨sv, r, r2, r1, rfl⟩, i2.slots ⟨((i2.at_.sl.set s3).set (sv := .v (.ref r)) rfl).set (sv := .v (.ref r2)) rfl, i2.at_.hold⟩⟩⟩
end
end Wk
/-! any(..), slices and repeats of tuples -/
namespace Wk
open PySem PySem.Spec PyProof.Rows L2
section
variable {X : Cx} {C : Ct} {L : Ls} {δ : Dl} {n m k : Nat} {a b c e f : Expr} {es : List Expr} {pos p : Pos} {d : PD} {ds : List PD} {x : Str}
theorem e_any {bs : List Bool} (hc : X.calm = true) (hm : X.mg "any" = none) (h : Ed X C L δ e n m (.list (bs.map PyData.bool))) (hg : Gl X "any" := by rfl) (he : starEach [e] X.env = (false, eval e X.env) :: starEach [] X.env := by rfl) : Ed X C L δ (.Call (.Name "any" p) [e] [] pos) n m (.bool (bs.any id)) :=
  e_callB (cr_any hc) (R := Eq ([.list (bs.map PyData.bool)].map SV.d)) (fun vs svs H Q h1 e1 s1 q => by
    subst e1
    obtain ⟨v, rfl, g⟩ := DvAll.one s1
    cases g with
    | lst r g =>
      have e := g.bools
      subst e
      exact ⟨_, bs, rfl, r.sq, q _ H _ (.refl H) rfl (Dv.bl _)⟩) hm (by decide +kernel) (a_cons h a_nil he) hg (he := he)
/-- t[:j] of a tuple, not the whole -/
theorem e_upToT {j : Nat} {p2 : Pos} (hj : j < ds.length) (ha : Ed X C L δ a n m (.tuple ds)) (hb : Ed X C L δ b m k (.int (j : Nat))) : Ed X C L δ (.Subscript a (.Slice none (some b) none p2) pos) n k (.tuple (ds.take j)) :=
  PE.imp (pe_slice sl_tupA ha po_none (po_some hb)) fun σ H Q ⟨t, q⟩ => ⟨t, fun v H2 sv k1 h1 r1 s1 => ⟨t.go k1 h1, fun w H3 sw k2 h2 r2 s2 => by
    subst r1 r2
    cases s2
    have s3 := Dv.keep s1 (k2.wider bs_bd)
    cases s3 with
    | @tup r xs _ r' g =>
      have lx := g.length
      have ei : HT.sIx xs.length xs.length (some (j : Int)) = min j xs.length := HT.sIx_nat _ _ _
      refine ⟨_, rfl, r, xs, rfl, r'.sq, fun hw => ?_, fun _ y ny => ?_⟩
      · rw [ei] at hw
        omega
      · have sm := same_new (o := .tup (cutV xs none (some (j : Int)))) ny
        refine q _ _ _ (k1.trans (k2.trans (.same sm))) (h2.same sm) rfl (Dv.tup (.inl ⟨h2.fresh ny, .inl upd_same⟩) (DvAll.keep ?_ (.same sm)))
        unfold cutV
        rw [ei, HT.sIx_none, Nat.sub_zero]
        have g2 := cut_data 0 (min j xs.length) g
        rw [List.drop_zero] at g2 ⊢
        rw [List.drop_zero] at g2
        have e1 : ds.take (min j xs.length) = ds.take j := by
          rw [Nat.min_eq_left (by omega)]
        rw [e1] at g2
        exact g2⟩⟩
theorem rep_data {K : PySem.W.Frag} {B : List Addr} {H : Hp} {vs : List V} (g : DvAll K B H vs ds) : ∀ j : Nat, DvAll K B H (List.replicate j vs).flatten (List.replicate j ds).flatten
  | 0 => .nil
  | j + 1 => by
    rw [List.replicate_succ, List.replicate_succ, List.flatten_cons, List.flatten_cons]
    exact g.app (rep_data g j)
/-- t * k of a tuple -/
theorem e_repT {i : Int} (hne : ds ≠ []) (h2 : 2 ≤ i ∧ i ≤ 1000) (hz : ds.length ≤ 1000) (ha : Ed X C L δ a n m (.tuple ds)) (hb : Ed X C L δ b m k (.int i)) : Ed X C L δ (.BinOp a .Mult b pos) n k (.tuple (List.replicate i.toNat ds).flatten) :=
  e_op op_repT (fun x y H Q h hx hy q => by
    cases hy
    cases hx with
    | @tup r xs _ rd g =>
      have lx := g.length
      refine ⟨r, i, xs, rfl, rfl, rd.sq, fun z => ?_, h2.1, h2.2, by omega, fun l nl => ?_⟩
      · subst z
        cases g
        exact hne rfl
      · have sm := same_new (o := .tup (List.replicate i.toNat xs).flatten) nl
        exact q _ _ sm (.tup (.inl ⟨h.fresh nl, .inl upd_same⟩) ((rep_data g _).keep (.same sm)))) ha hb
end
end Wk
namespace Wk
open PySem PySem.Spec PyProof.Rows L2
/-- a def that is called by keywords -/
theorem Std.knowK {K : PySem.W.Frag} {h : Heap} {mg : Str → Option Value} {P : Program} {w : World} {base : Heap} {Z : CXT} {k : Nat} {x : Str} {st : Stmt} {ps ks : List Str} {pr : List Nat} {sp : Sp} (X : K.In h) (G : h.Ns mainGlobals mg) (D : Std K x st)
    (b : ∀ (kV doc pm : Value) (an : Option Addr) (cdv ct : Value) (ws : List Value), ws.length = ks.length → bindArgs (PySem.W.fnOf x x (defArgs st) (defBody st) (defScope st) .none kV doc pm an cdv ct) ⟨[], ks.zip ws⟩ = pure (ps.zip (pr.map fun i => ws.getD i .none)))
    (g : ∀ {f : Addr} {fd : FuncData}, Fun K x x st f fd → Gd P w K mg base Z k f fd ps sp) : KnK P w K mg base Z k x ps ks pr sp := by
  obtain ⟨f, fd, a, F⟩ := D.ex
  refine ⟨f, fd, PySem.W.mg_of X G a, F.kp, fun s ws _ hl => ?_, g F⟩
  obtain ⟨oc, od, kV, doc, pm, an, cdv, ct, osl, rfl, lk, hcd⟩ := F.ex
  exact .of_eq (b _ _ _ _ _ _ ws hl)
end Wk
/-! instances of the text's classes: made, filled, read -/
namespace Wk
open PySem PySem.Spec PyProof.Rows L2
abbrev Fl := List (Str × PD)
inductive FsAll (K : PySem.W.Frag) (B : List Addr) (H : Hp) : List (Str × V) → Fl → Prop
  | nil : FsAll K B H [] []
  | cons {f : Str} {v : V} {d : PD} {fs : List (Str × V)} {gs : Fl} : Dv K B H v d → FsAll K B H fs gs → FsAll K B H ((f, v) :: fs) ((f, d) :: gs)
def putG (f : Str) (d : PD) : Fl → Fl
  | [] => [(f, d)]
  | (g, x) :: r => if g = f then (g, d) :: r else (g, x) :: putG f d r
section
variable {K : PySem.W.Frag} {B B' : List Addr} {H H' : Hp}
theorem FsAll.imp (f : ∀ v d, Dv K B H v d → Dv K B' H' v d) : ∀ {gs : Fl} {fs : List (Str × V)}, FsAll K B H fs gs → FsAll K B' H' fs gs
  | [], _, h => by cases h; exact .nil
  | _ :: gs, _, h => by
    cases h with
    | cons x y => exact .cons (f _ _ x) (FsAll.imp f y)
theorem FsAll.look (f : Str) : ∀ {gs : Fl} {fs : List (Str × V)} {d : PD}, FsAll K B H fs gs → gs.lookup f = some d → ∃ v, fs.lookup f = some v ∧ Dv K B H v d
  | [], _, _, _, e => by cases e
  | (g, x) :: gs, _, d, h, e => by
    cases h with
    | cons p q =>
      rw [List.lookup_cons] at e
      by_cases hg : f = g
      · have hb : (f == g) = true := beq_iff_eq.mpr hg
        rw [hb] at e
        cases e
        exact ⟨_, by rw [List.lookup_cons, hb], p⟩
      · have hb : (f == g) = false := beq_eq_false_iff_ne.mpr hg
        rw [hb] at e
        obtain ⟨v, h1, h2⟩ := FsAll.look f q e
        exact ⟨v, by rw [List.lookup_cons, hb]; exact h1, h2⟩
theorem FsAll.no (f : Str) : ∀ {gs : Fl} {fs : List (Str × V)}, FsAll K B H fs gs → gs.lookup f = none → fs.lookup f = none
  | [], _, h, _ => by cases h; rfl
  | (g, x) :: gs, _, h, e => by
    cases h with
    | cons p q =>
      rw [List.lookup_cons] at e ⊢
      by_cases hg : f = g
      · have hb : (f == g) = true := beq_iff_eq.mpr hg
        rw [hb] at e
        cases e
      · have hb : (f == g) = false := beq_eq_false_iff_ne.mpr hg
        rw [hb] at e ⊢
        exact FsAll.no f q e
theorem FsAll.put (f : Str) {v : V} {d : PD} (g : Dv K B H v d) : ∀ {gs : Fl} {fs : List (Str × V)}, FsAll K B H fs gs → FsAll K B H (putF f v fs) (putG f d gs)
  | [], _, h => by cases h; exact .cons g .nil
  | (y, x) :: gs, _, h => by
    cases h with
    | @cons _ u _ fs _ p q =>
      show FsAll K B H (if y = f then (y, v) :: fs else (y, u) :: putF f v fs) (if y = f then (y, d) :: gs else (y, x) :: putG f d gs)
      by_cases hy : y = f
      · rw [if_pos hy, if_pos hy]
        exact .cons g q
      · rw [if_neg hy, if_neg hy]
        exact .cons p (FsAll.put f g q)
theorem FsAll.len : ∀ {gs : Fl} {fs : List (Str × V)}, FsAll K B H fs gs → fs.length = gs.length
  | [], _, h => by cases h; rfl
  | _ :: gs, _, h => by
    cases h with
    | cons x y => rw [List.length_cons, List.length_cons, FsAll.len y]
theorem dv_off1 {p : Addr} {o : HO} (hp : H p = some (.dK [])) {v : V} {d : PD} (g : Dv K B H v d) : Dv K B (upd H p o) v d := by
  have h := dv_off (o := o) hp (DvAll.cons g .nil)
  cases h with
  | cons x _ => exact x
end
/-- an instance that is being filled -/
def insV (Cl : Addr) (gs : Fl) : Vo where
  R := fun K B H o => ∃ dx fs, o = .ins Cl dx fs ∧ FsAll K B H fs gs
  keep := fun ⟨dx, fs, e, g⟩ k => ⟨dx, fs, e, g.imp fun _ _ h => h.keep k⟩
  grow := fun ⟨dx, fs, e, g⟩ f => ⟨dx, fs, e, g.imp fun _ _ h => h.grow f⟩
  less := fun ⟨dx, fs, e, g⟩ s => ⟨dx, fs, e, g.imp fun _ _ h => h.less s⟩
  off := fun ⟨dx, fs, e, g⟩ _ hp => ⟨dx, fs, e, g.imp fun _ _ h => dv_off1 hp h⟩
/-- an instance that stays -/
def insO (Cl : Addr) (gs : Fl) : Ob where
  R := fun K B H v => ∃ a dx fs, v = .ref a ∧ a ∉ B ∧ H a = some (.ins Cl dx fs) ∧ FsAll K B H fs gs
  keep := fun ⟨a, dx, fs, e, n, h, g⟩ k => ⟨a, dx, fs, e, n, k a _ n h, g.imp fun _ _ h => h.keep k⟩
  grow := fun ⟨a, dx, fs, e, n, h, g⟩ f => ⟨a, dx, fs, e, fun z => (List.mem_cons.mp z).elim (fun q => by subst q; rw [f] at h; cases h) n, h, g.imp fun _ _ h => h.grow f⟩
  less := fun ⟨a, dx, fs, e, n, h, g⟩ s => ⟨a, dx, fs, e, fun z => n (s _ z), h, g.imp fun _ _ h => h.less s⟩
section
variable {X : Cx} {C : Ct} {L : Ls} {δ : Dl} {n m k : Nat} {a b c e o : Expr} {es : List Expr} {pos p : Pos} {d : PD} {ds : List PD} {x f : Str} {gs : Fl} {Cl : Addr}
/-- e.f of an instance -/
theorem e_fld (c : Cls X.K Cl) (na : NoAttr X.K Cl f) (he : E X C L δ e n m (Eq (.o (insO Cl gs)))) (hl : gs.lookup f = some d) (hb : attributeBase e f X.env (eval e X.env) = eval e X.env := by rfl) : Ed X C L δ (.Attribute e f pos) n m d :=
  PE.imp (pe_fld he hb) fun σ H Q ⟨t, q⟩ => ⟨t, fun v H2 sv k1 h1 e1 s1 => by
    subst e1
    obtain ⟨r, dx, fs, rfl, hn, h2, g⟩ := s1
    obtain ⟨u, hu, du⟩ := g.look f hl
    exact ⟨r, Cl, dx, fs, u, rfl, h2, c, na, hu, q u H2 _ k1 h1 rfl du⟩⟩
/-- e.f of an instance that is being filled -/
theorem e_fldV {r : Addr} (c : Cls X.K Cl) (na : NoAttr X.K Cl f) (hm : (r, Cont.vo (insV Cl gs)) ∈ L) (he : Ev X C L δ e n m (.ref r)) (hl : gs.lookup f = some d) (hb : attributeBase e f X.env (eval e X.env) = eval e X.env := by rfl) : Ed X C L δ (.Attribute e f pos) n m d :=
  PE.imp (pe_fld he hb) fun σ H Q ⟨t, q⟩ => ⟨t, fun v H2 sv k1 h1 e1 s1 => by
    subst e1
    have e0 : v = .ref r := s1
    subst e0
    obtain ⟨o, h2, dx, fs, rfl, g⟩ := h1.vs r _ hm
    obtain ⟨u, hu, du⟩ := g.look f hl
    exact ⟨r, Cl, dx, fs, u, rfl, h2, c, na, hu, q u H2 _ k1 h1 rfl du⟩⟩
end
section
variable {X : Cx} {F : Fm} {L : Ls} {δ : Dl} {n m k : Nat} {D0 : Ends} {rest sts : List Stmt} {x y u f : Str} {pos p q : Pos} {e o : Expr} {d : PD} {gs : Fl} {Cl : Addr}
/-- self.f = e -/
theorem r_fld (A B : Ls) {D : Addr} {fp : Pos} (c : Cls X.K Cl) (na : NoAttr X.K Cl f) (hz : gs.length < 100) (he : Ed X F.C (A ++ (D, Cont.vo (insV Cl gs)) :: B) δ e n m d) (ho : Ev X F.C (A ++ (D, Cont.vo (insV Cl gs)) :: B) δ o m m (.ref D))
    (g : Bk X F ⟨A ++ (D, Cont.vo (insV Cl (putG f d gs))) :: B, δ, m⟩ D0 rest) (hs : swapsWith e (some (.Attribute o f fp)) pos.line X.env = pure false := by rfl) :
    Bk X F ⟨A ++ (D, Cont.vo (insV Cl gs)) :: B, δ, n⟩ D0 (.Assign [.Attribute o f fp] e pos :: rest) :=
  r_cons (fun c' => c' = ⟨A ++ (D, Cont.vo (insV Cl (putG f d gs))) :: B, δ, m⟩) (PS.imp (ps_fld ho he hs) fun DD σ H ⟨le, ii⟩ => ⟨ii.at_, fun v H2 sv k1 h1 r1 s1 => by
    subst r1
    have i1 := ii.go k1 h1
    refine ⟨i1.at_, fun w H3 sw k2 h2 r2 s2 => ?_⟩
    subst r2
    have e0 : w = .ref D := s2
    subst e0
    have i2 := i1.go k2 h2
    have inD : (D, Cont.vo (insV Cl gs)) ∈ A ++ (D, Cont.vo (insV Cl gs)) :: B := List.mem_append_right _ List.mem_cons_self
    obtain ⟨o', h3, dx, fs, rfl, gf⟩ := h2.vs D _ inD
    have sv : Dv X.K (Bd F.C (A ++ (D, Cont.vo (insV Cl gs)) :: B)) H3 v d := Dv.keep s1 (k2.wider bs_bd)
    have lf := gf.len
    refine ⟨D, Cl, dx, fs, rfl, h3, c, na, by omega, le.nx _ _ ⟨_, rfl, i2.putAtC ⟨dx, _, rfl, gf.put f sv⟩⟩⟩⟩) fun c' h => by subst h; exact g
end
/-! ### a class of the text: made -/
/-- what __init__ does: the instance has these fields behind it -/
def SpI (K : PySem.W.Frag) (Cl : Addr) (ok : List PD → Fl → Prop) : Sp := fun vs H Q _ => ∃ (x dx : Addr) (B : List Addr) (ws : List V) (ds : List PD) (gs : Fl), vs = .ref x :: ws ∧ x ∉ B ∧ (∀ b, b ∈ B → H b ≠ none) ∧ H x = some (.ins Cl dx []) ∧ DvAll K (x :: B) H ws ds ∧ ok ds gs ∧
  ∀ H', Keep [x] H H' → (∃ dy fs, H' x = some (.ins Cl dy fs) ∧ FsAll K (x :: B) H' fs gs) → Q .non H'
theorem okI {P : Program} {w : World} {K : PySem.W.Frag} {mg : Str → Option Value} {base : Heap} {k : Nat} {f : Addr} {x qual : Str} {st : Stmt} {fd : FuncData} {N ps : List Str} {Cl : Addr} {ok : List PD → Fl → Prop} (F : Fun K x qual st f fd) (S : FnScope N ps (defScope st))
    (hl : ∀ ds gs, ok ds gs → ds.length + 1 = ps.length)
    (hb : ∀ (cdv : Value) (A : Around) (outer : List Env) (s : Shared) (H : Hp) (E : XK) (r : Addr) (B : List Addr) (ds : List PD) (gs : Fl) (fm : Fm) (D0 : Ends), ok ds gs → (cxOf CX0 P w K mg base N qual (defScope st) f cdv A outer s H E).nox.A.guards = some [] →
      Room k (cxOf CX0 P w K mg base N qual (defScope st) f cdv A outer s H E).nox.A → fm.C = ⟨none, B⟩ → (∀ δ n σ H, In K fm ⟨[(r, Cont.vo (insV Cl gs))], δ, n⟩ σ H → D0.nx σ H) →
      Bk (cxOf CX0 P w K mg base N qual (defScope st) f cdv A outer s H E).nox fm ⟨[(r, Cont.vo (insV Cl []))], some (.v (.ref r)) :: (ds.map (fun d => some (SV.d d)) ++ List.replicate (N.length - ps.length) none), 0⟩ D0 (defBody st)) : Gd P w K mg base CX0 (k + 1) f fd ps (SpI K Cl ok) := by
  refine gd_of F S (fun vs H Q E ⟨r, dx, B, ws, ds, gs, e, _, _, _, g, o, _⟩ => by rw [e, List.length_cons, g.length]; exact hl ds gs o) fun cdv A outer s H vs Q E gu hr ⟨r, dx, B, ws, ds, gs, ev, nr, kn, hx, g, o, q⟩ => ?_
  subst ev
  have inB : ∀ b, b ∈ Bd ⟨none, B⟩ [(r, Cont.vo (insV Cl []))] → b ∈ r :: B := fun b hb => by
    rcases List.mem_append.mp hb with z | z
    · have e : b = r := by simpa [Bs] using z
      rw [e]
      exact List.mem_cons_self
    · exact List.mem_cons_of_mem _ z
  refine ⟨_, (hb cdv A outer s H E r B ds gs ⟨⟨none, B⟩, [([r], H)]⟩ { nx := fun _ H' => Q .non H', rt := Q } o gu hr rfl ?_).nox, ?_⟩
  · intro δ m σ H' i
    obtain ⟨o', h1, dy, fs, rfl, gf⟩ := i.at_.hold.vs r _ List.mem_cons_self
    exact q H' (i.an ([r], H) List.mem_cons_self) ⟨dy, fs, h1, gf.imp fun _ _ h => h.less fun b hb => by
      rcases List.mem_cons.mp hb with z | z
      · rw [z]
        exact List.mem_append_left _ (by simp [Bs])
      · exact List.mem_append_right _ z⟩
  · refine ⟨.refl _, fun a ha => ?_, fun a ha b hb => ?_, ?_, ?_⟩
    · rw [List.mem_singleton.mp ha]
      exact .refl _ _
    · rw [List.mem_singleton.mp ha]
      exact .inl (by simpa [Bs] using hb)
    · unfold L2.start
      have e1 : (V.ref r :: ws).length = ps.length := by rw [List.length_cons, g.length]; exact hl ds gs o
      rw [e1]
      exact (slots_of (g.less inB)).first (v := .ref r) (sv := .v (.ref r)) rfl
    · refine .of (fun p' e => (by cases e)) (fun a c hm => ?_) (by simp [Bs]) kn (fun y hy => ?_)
      · obtain ⟨rfl, rfl⟩ := Prod.mk.inj (List.mem_singleton.mp hm)
        exact ⟨_, hx, dx, [], rfl, .nil⟩
      · rw [List.mem_singleton.mp hy]
        exact nr
theorem run_makeG {X : Cx} {Z : CXT} {k : Nat} {f Cl : Addr} {fd : FuncData} {ps : List Str} {sp : Sp} {E : XK} {pins : List (Addr × Obj)} {σ : L2.St} {H : Hp} {s : Shared} {Q : VK} {us : List Value} {vs : List V}
    (M : Mk X.K Cl f) (F : Gd X.prog X.w X.K X.mg X.base Z k f fd ps sp) (gu : X.A.guards = some []) (hr : Room (k + 1) X.A) (hb : Binds X.K fd ps []) (hx : Passes Z X E) (I : Inv X pins σ H s) (r : Vals vs us)
    (h : ∀ x dx, H x = none → H dx = none → dx ≠ x → sp (.ref x :: vs) (upd (upd H dx (.own x)) x (.ins Cl dx [])) (fun v H2 => v = .non ∧ Q (.ref x) H2) E) :
    wpAny (model X.prog X.w) X.A (call (.ref Cl) us) (EP X pins σ Q) X.xe s := by
  have hq := h (s.heap.objs.size + 1) s.heap.objs.size (I.hok.fresh (Nat.le_succ _)) (I.hok.fresh (Nat.le_refl _)) (Nat.ne_of_lt (Nat.lt_succ_self _))
  have I2 := Inv.made (C := Cl) I
  have r2 : Vals (V.ref (s.heap.objs.size + 1) :: vs) (Value.ref (s.heap.objs.size + 1) :: us) := .cons rfl r
  have hl : ((Value.ref (s.heap.objs.size + 1) :: us) ++ []).length = ps.length := by
    rw [List.append_nil, ← r2.length]
    exact F.len _ _ _ _ hq
  have bi := hb _ (Value.ref (s.heap.objs.size + 1) :: us) I2.kIn hl
  rw [List.append_nil] at bi
  refine wpAny_call (make_map (f := f) I.kIn M.makes M.init (beq_iff_eq.mp M.fn) (codeAny_mono (F.run (X.A.under (.builtin "type.__call__" ⟨.ref Cl :: us, []⟩)) gu X.stack _ _ ⟨Value.ref (s.heap.objs.size + 1) :: us, []⟩ (Value.ref (s.heap.objs.size + 1) :: us) _ _ E (hr.make Cl us [])
    (I2.env0.make Cl us []) bi r2 hq) fun r s' hq' => ?_))
  cases r with
  | error e => exact hx pins σ _ _ e s' I2 hq'
  | ok fl =>
    cases fl with
    | ret u =>
      obtain ⟨v, H', I3, rv, ev, q3⟩ := I2.after hq'
      subst ev
      exact ⟨rv, ⟨V.ref (s.heap.objs.size + 1), H', I3, rfl, q3⟩⟩
    | next => exact False.elim hq'
    | brk => exact False.elim hq'
    | cont => exact False.elim hq'
/-- what is known of a class of the module under its name -/
structure KnwC (P : Program) (w : World) (K : PySem.W.Frag) (mg : Str → Option Value) (base : Heap) (Z : CXT) (k : Nat) (x : Str) (Cl : Addr) (ps : List Str) (sp : Sp) : Prop where
  ex : ∃ (f : Addr) (fd : FuncData), mg x = some (.ref Cl) ∧ Mk K Cl f ∧ Binds K fd ps [] ∧ Gd P w K mg base Z k f fd ps sp
abbrev KnC (X : Cx) (Z : CXT) (k : Nat) (x : Str) (Cl : Addr) (ps : List Str) (sp : Sp) : Prop := KnwC X.prog X.w X.K X.mg X.base Z k x Cl ps sp
def tMakeG (Cl : Addr) (sp : Sp) (E : XK) (t : TA) : TE := fun σ H Q => t σ H fun vs H1 => ∀ x dx, H1 x = none → H1 dx = none → dx ≠ x → sp (.ref x :: vs) (upd (upd H1 dx (.own x)) x (.ins Cl dx [])) (fun v H2 => v = .non ∧ Q (.ref x) H2) E
section
variable {X : Cx} {Z : CXT} {C : Ct} {L : Ls} {δ : Dl} {n m k : Nat} {a b c e o : Expr} {es : List Expr} {pos p : Pos} {ds : List PD} {x : Str} {gs : Fl} {Cl : Addr} {ps : List Str} {sp : Sp} {t : TA} {E : XK}
theorem pe_makeG (F : KnC X Z k x Cl ps sp) (gu : X.A.guards = some []) (hr : Room (k + 1) X.A) (hg : Gl X x) (hx : Passes Z X E)
    (ha : PA X (e :: es) t) (hdb : (x == ("__debug__" : Str)) = false := by decide) (he : starEach (e :: es) X.env = (false, eval e X.env) :: starEach es X.env := by rfl) (hpl : (backTo pos (starEach es X.env)).any (·.1) = false := by rfl) :
    PE X (.Call (.Name x p) (e :: es) [] pos) (tMakeG Cl sp E t) := by
  obtain ⟨f, fd, hm, M, hb, G⟩ := F.ex
  refine ⟨fun pins s σ H Q I h => ?_⟩
  refine wpAny_Call_Name_kw (ld_glob I hg hm ?_ hdb)
  refine PySem.W.callWith_K (h₀ := X.base) I.ok.mod.kin M.kp (thn (ha.run pos pins s σ H _ I h) fun us s1 ⟨vs, H1, I1, r, q⟩ => ⟨I1.kIn, ?_⟩) he hpl
  exact run_makeG M G gu hr hb hx I1 r q
/-- C(e, ..) -/
theorem e_make {r : Nat} {ok : List PD → Fl → Prop} (F : KnC X CX0 k x Cl ps (SpI X.K Cl ok)) (gu : X.A.guards = some []) (hr : Room r X.A) (hk : k + 1 ≤ r) (ha : Dd X C L δ (e :: es) n m ds) (h : ok ds gs) (hg : Gl X x := by rfl)
    (hdb : (x == ("__debug__" : Str)) = false := by decide) (he : starEach (e :: es) X.env = (false, eval e X.env) :: starEach es X.env := by rfl) (hpl : (backTo pos (starEach es X.env)).any (·.1) = false := by rfl) :
    Wk.E X C L δ (.Call (.Name x p) (e :: es) [] pos) n m (Eq (.o (insO Cl gs))) :=
  PE.imp (pe_makeG F gu (hr.mono hk) hg pass0 ha hdb he hpl) fun σ H Q ⟨t, q⟩ => ⟨t, fun vs H2 svs k1 h1 e1 s1 => by
    subst e1
    intro x dx nx nd ne
    have sm1 : Same H2 (upd H2 dx (.own x)) := same_new nd
    have nx1 : (upd H2 dx (.own x)) x = none := by rw [upd_ne ne.symm]; exact nx
    have sm2 : Same (upd H2 dx (.own x)) (upd (upd H2 dx (.own x)) x (.ins Cl dx [])) := same_new nx1
    have sm := sm1.trans sm2
    have nxB : x ∉ Bd C L := h1.fresh nx
    refine ⟨x, dx, Bd C L, vs, ds, gs, rfl, nxB, fun b hb => same_some sm (h1.known hb), upd_same, (s1.data.grow nx).keep (.same sm), h, fun H' kp ⟨dy, fs, hx', gf⟩ => ⟨rfl, ?_⟩⟩
    have sm3 : Same H2 H' := fun b o' eb => kp b o' (fun z => by
      have e0 : b = x := by simpa using z
      subst e0
      rw [nx] at eb
      cases eb) (sm b o' eb)
    exact q (.ref x) H' (.o (insO Cl gs)) (k1.trans (.same sm3)) (h1.same sm3) rfl ⟨x, dy, fs, rfl, nxB, hx', gf.imp fun _ _ h => h.less fun b hb => List.mem_cons_of_mem _ hb⟩⟩
end
end Wk
/-! methods of the text's classes that operators call: in, not in -/
namespace Wk
open PySem PySem.Spec PyProof.Rows L2
/-- what is known of a method of a class of the text -/
structure KnwM (P : Program) (w : World) (K : PySem.W.Frag) (mg : Str → Option Value) (base : Heap) (Z : CXT) (k : Nat) (Cl : Addr) (m : Str) (ps : List Str) (sp : Sp) : Prop where
  ex : ∃ (f : Addr) (fd : FuncData), PySem.W.findIn K (.ref Cl) m = some (some (.ref f)) ∧ PySem.W.isFn K (.ref f) = true ∧ PySem.W.keepIn K (.ref f) = true ∧ Binds K fd ps [] ∧ Gd P w K mg base Z k f fd ps sp
abbrev KnM (X : Cx) (Z : CXT) (k : Nat) (Cl : Addr) (m : Str) (ps : List Str) (sp : Sp) : Prop := KnwM X.prog X.w X.K X.mg X.base Z k Cl m ps sp
def tInO (ta tb : TE) (sp : Sp) (Cl : Addr) (neg : Bool → Bool) (E : XK) : TE := fun σ H Q => ta σ H fun y H1 => tb σ H1 fun x H2 => ∃ r dx fs, x = .ref r ∧ H2 r = some (.ins Cl dx fs) ∧ sp [.ref r, y] H2 (fun v H3 => ∃ b, v = .bl b ∧ Q (.bl (neg b)) H3) E
section
variable {X : Cx} {Z : CXT} {C : Ct} {L : Ls} {δ : Dl} {n m k : Nat} {a b c e o : Expr} {es : List Expr} {pos p : Pos} {ds : List PD} {x : Str} {gs : Fl} {Cl : Addr} {ps : List Str} {sp : Sp} {ta tb : TE} {E : XK}
theorem pc_inO (F : KnM X Z k Cl "__contains__" ps sp) (gu : X.A.guards = some []) (hr : Room k X.A) (hx : Passes Z X E) (ha : PE X a ta) (hb : PE X b tb) : PC X .In a b (tInO ta tb sp Cl (fun b => b) E) := by
  obtain ⟨f, fd, hs, hf, hk, hbi, G⟩ := F.ex
  refine ⟨fun pins s σ H Q I h => ?_⟩
  refine thn (ha.run pins s σ H _ I h) fun iv s1 ⟨y, H1, I1, ry, q1⟩ => thn (hb.run pins s1 σ H1 _ I1 q1) fun u s2 ⟨x, H2, I2, rx, r, dx, fs, ex, e2, want⟩ => ?_
  subst ex
  obtain rfl : u = Value.ref r := rx
  obtain ⟨mA, J, _⟩ := ins_get I2.hok e2
  obtain ⟨od, J, _⟩ := J.look
  obtain ⟨m', hF⟩ := I2.fr
  refine PySem.W.in_K hF I2.ok.mod.kin J hs hf (wpAny_mono (run_gd G gu hr hbi hx I2 (us := [.ref r, iv]) (vs := [.ref r, y]) (.cons rfl (.cons ry .nil)) want) (fun z s' ⟨v, H3, I3, rv, bb, ev, q⟩ => ?_) fun _ _ z => z)
  subst ev
  cases rv
  exact wpAny_truthy_bool ⟨.bl _, H3, I3, rfl, q⟩
theorem pc_notinO (F : KnM X Z k Cl "__contains__" ps sp) (gu : X.A.guards = some []) (hr : Room k X.A) (hx : Passes Z X E) (ha : PE X a ta) (hb : PE X b tb) : PC X .NotIn a b (tInO ta tb sp Cl (fun b => !b) E) := by
  obtain ⟨f, fd, hs, hf, hk, hbi, G⟩ := F.ex
  refine ⟨fun pins s σ H Q I h => ?_⟩
  refine thn (ha.run pins s σ H _ I h) fun iv s1 ⟨y, H1, I1, ry, q1⟩ => thn (hb.run pins s1 σ H1 _ I1 q1) fun u s2 ⟨x, H2, I2, rx, r, dx, fs, ex, e2, want⟩ => ?_
  subst ex
  obtain rfl : u = Value.ref r := rx
  obtain ⟨mA, J, _⟩ := ins_get I2.hok e2
  obtain ⟨od, J, _⟩ := J.look
  obtain ⟨m', hF⟩ := I2.fr
  refine PySem.W.notIn_K hF I2.ok.mod.kin J hs hf (wpAny_mono (run_gd G gu hr hbi hx I2 (us := [.ref r, iv]) (vs := [.ref r, y]) (.cons rfl (.cons ry .nil)) want) (fun z s' ⟨v, H3, I3, rv, bb, ev, q⟩ => ?_) fun _ _ z => z)
  subst ev
  cases rv
  exact wpAny_truthy_bool ⟨.bl _, H3, I3, rfl, q⟩
theorem inO_imp {neg : Bool → Bool} {ok : List SV → (SV → Prop) → Prop} {sv : SV} {u : Bool} (h : ok [.o (insO Cl gs), sv] (Eq (.d (.bool u)))) {σ : L2.St} {H : Hp} {Q : VK} {l : Nat}
    (q : tTs X.K C L δ n k (neg u) σ H (fun b H' => Q (.bl b) H')) : tInO (tOf X.K C L δ n m (Eq sv)) (tOf X.K C L δ m k (Eq (.o (insO Cl gs)))) (SpV X.K ok) Cl neg E σ H Q := by
  obtain ⟨t, q⟩ := q
  refine ⟨t, fun v H2 s1' k1 h1 e1 s1 => ?_⟩
  subst e1
  refine ⟨t.go k1 h1, fun w H3 s2' k2 h2 e2 s2 => ?_⟩
  subst e2
  have hr := s2
  obtain ⟨r, dx, fs, rfl, hn, h3, g⟩ := s2
  have s1b : SvOk X.K (Bd C L) H3 v sv := s1.keep (k2.wider bs_bd)
  refine ⟨r, dx, fs, rfl, h3, Bd C L, _, _, fun b hb => h2.known hb, .cons hr (.cons s1b .nil), h, fun z H4 d sm ed g4 => ?_⟩
  subst ed
  cases g4
  exact ⟨u, rfl, q H4 ((k1.trans k2).trans (.same sm)) (h2.same sm)⟩
/-- x in o, by the class's own __contains__ -/
theorem t_inO {r : Nat} {ok : List SV → (SV → Prop) → Prop} {sv : SV} {u : Bool} {l : Nat} (F : KnM X CX0 l Cl "__contains__" ps (SpV X.K ok)) (gu : X.A.guards = some []) (hr : Room r X.A) (hk : l ≤ r) (ha : Wk.E X C L δ a n m (Eq sv)) (hb : Wk.E X C L δ b m k (Eq (.o (insO Cl gs)))) (h : ok [.o (insO Cl gs), sv] (Eq (.d (.bool u))))
    (hm : behindInMarks .In b = false := by with_unfolding_all rfl) : T X C L δ (.Compare a [.In] [b] pos) n k u :=
  PT.imp (pt_cmp (pc_inO F gu (hr.mono hk) pass0 ha hb) hm) fun σ H Q q => by
    refine inO_imp (neg := fun b => b) (l := 0) h ⟨q.1, fun H2 k1 h1 => ⟨_, rfl, q.2 H2 k1 h1⟩⟩
theorem t_notinO {r : Nat} {ok : List SV → (SV → Prop) → Prop} {sv : SV} {u : Bool} {l : Nat} (F : KnM X CX0 l Cl "__contains__" ps (SpV X.K ok)) (gu : X.A.guards = some []) (hr : Room r X.A) (hk : l ≤ r) (ha : Wk.E X C L δ a n m (Eq sv)) (hb : Wk.E X C L δ b m k (Eq (.o (insO Cl gs)))) (h : ok [.o (insO Cl gs), sv] (Eq (.d (.bool u))))
    (hm : behindInMarks .NotIn b = false := by with_unfolding_all rfl) : T X C L δ (.Compare a [.NotIn] [b] pos) n k (!u) :=
  PT.imp (pt_cmp (pc_notinO F gu (hr.mono hk) pass0 ha hb) hm) fun σ H Q q => by
    refine inO_imp (neg := fun b => !b) (l := 0) h ⟨q.1, fun H2 k1 h1 => ⟨_, rfl, q.2 H2 k1 h1⟩⟩
end
end Wk
/-! a list of lists that are filled -/
namespace Wk
open PySem PySem.Spec PyProof.Rows L2
/-- a list of addresses -/
def lsR (As : List Addr) : Vo where
  R := fun _ _ _ o => o = .lst (As.map V.ref)
  keep := fun e _ => e
  grow := fun e _ => e
  less := fun e _ => e
  off := fun e _ _ => e
def inn : List Addr → List (List PD) → Ls
  | a :: as, d :: ds => (a, Cont.lst d) :: inn as ds
  | _, _ => []
theorem inn_adr : ∀ {As : List Addr} {dss : List (List PD)}, As.length = dss.length → (inn As dss).map (·.1) = As
  | [], [], _ => rfl
  | a :: as, d :: ds, h => by
    show a :: (inn as ds).map (·.1) = a :: as
    rw [inn_adr (by simpa using h)]
  | [], _ :: _, h => by cases h
  | _ :: _, [], h => by cases h
theorem inn_snoc : ∀ {As : List Addr} {dss : List (List PD)} {r : Addr} {d : List PD}, As.length = dss.length → inn (As ++ [r]) (dss ++ [d]) = inn As dss ++ [(r, Cont.lst d)]
  | [], [], _, _, _ => rfl
  | a :: as, d :: ds, _, _, h => by
    show (a, Cont.lst d) :: inn (as ++ [_]) (ds ++ [_]) = (a, Cont.lst d) :: (inn as ds ++ [_])
    rw [inn_snoc (by simpa using h)]
  | [], _ :: _, _, _, h => by cases h
  | _ :: _, [], _, _, h => by cases h
theorem inn_at : ∀ {As : List Addr} {dss : List (List PD)} {q : Nat} {a : Addr} {d : List PD}, As.length = dss.length → As[q]? = some a → dss[q]? = some d → ∃ A B, inn As dss = A ++ (a, Cont.lst d) :: B ∧ ∀ e, inn As (dss.set q e) = A ++ (a, Cont.lst e) :: B
  | a :: as, d :: ds, 0, _, _, h, h1, h2 => by
    cases h1
    cases h2
    exact ⟨[], inn as ds, rfl, fun _ => rfl⟩
  | a :: as, d :: ds, q + 1, a', d', h, h1, h2 => by
    obtain ⟨A, B, e1, e2⟩ := inn_at (As := as) (dss := ds) (q := q) (a := a') (d := d') (by simpa using h) (by simpa using h1) (by simpa using h2)
    refine ⟨(a, Cont.lst d) :: A, B, ?_, fun e => ?_⟩
    · show (a, Cont.lst d) :: inn as ds = _
      rw [e1]
      rfl
    · show (a, Cont.lst d) :: inn as (ds.set q e) = _
      rw [e2]
      rfl
  | [], _, _, _, _, _, h1, _ => by simp at h1
  | _ :: _, [], _, _, _, h, _, _ => by cases h
section
variable {K : PySem.W.Frag} {C : Ct} {L L' : Ls} {n : Nat} {H : Hp}
theorem bs_perm (p : L.Perm L') : (Bs C L).Perm (Bs C L') := (p.map _).append_right _
theorem Hold.perm (h : Hold K C L n H) (p : L.Perm L') : Hold K C L' n H := by
  have pb := bs_perm (C := C) p
  refine .of h.pot (fun a c hm => ?_) (pb.nodup_iff.mp h.nd) h.wk (fun x hx => h.dj x (p.mem_iff.mpr hx))
  obtain ⟨o, h1, h2⟩ := h.ct (p.mem_iff.mpr hm)
  exact ⟨o, h1, h2.less fun b hb => (List.mem_append.mp hb).elim (fun z => List.mem_append_left _ (pb.mem_iff.mpr z)) fun z => List.mem_append_right _ z⟩
end
section
variable {X : Cx} {C : Ct} {L : Ls} {δ : Dl} {n m k : Nat} {a b c e f : Expr} {es : List Expr} {pos p : Pos} {d : PD} {ds : List PD} {x : Str}
/-- y[i], one of the lists -/
theorem e_ixVs {As : List Addr} {r w : Addr} {q : Nat} (hm : (r, Cont.vo (lsR As)) ∈ L) (ha : Ev X C L δ a n m (.ref r)) (hb : Ed X C L δ b m k (.int (q : Nat))) (hi : As[q]? = some w) (hs : PlainIx b := by intro _ _; rfl) : Ev X C L δ (.Subscript a b pos) n k (.ref w) :=
  PE.imp (pe_ix ix_list ha hb hs) fun σ H Q ⟨t, q'⟩ => ⟨t, fun v H2 sv k1 h1 e1 s1 => ⟨t.go k1 h1, fun w' H3 sw k2 h2 e2 s2 => by
    subst e1 e2
    cases s2
    have e3 : v = .ref r := s1
    obtain ⟨o, hx, g⟩ := h2.vs r _ hm
    have g' : o = .lst (As.map V.ref) := g
    subst g'
    have hz : atI (As.map V.ref) ((q : Nat) : Int) = some (.ref w) := atI_nat (by rw [List.getElem?_map, hi]; rfl)
    exact ⟨r, As.map V.ref, _, .ref w, e3, rfl, .inl (.inl hx), hz, q' _ H3 _ (k1.trans k2) h2 rfl rfl⟩⟩⟩
end
theorem bd_app {C : Ct} {A L : Ls} : ∀ b, b ∈ Bd C L → b ∈ Bd C (A ++ L) := fun b hb => by
  have e : Bd C (A ++ L) = A.map (·.1) ++ Bd C L := by
    unfold Bd Bs
    simp [List.append_assoc]
  rw [e]
  exact List.mem_append_right _ hb
theorem Hold.dropL {K : PySem.W.Frag} {C : Ct} {n : Nat} {H : Hp} : ∀ {A L : Ls}, Hold K C (A ++ L) n H → Hold K C L n H
  | [], _, h => h
  | (_, _) :: A, _, h => Hold.dropL (A := A) (Hold.pop h)
section
variable {K : PySem.W.Frag} {F : Fm} {L L' : Ls} {δ : Dl} {n : Nat} {σ : L2.St} {H : Hp}
theorem In.perm (h : In K F ⟨L, δ, n⟩ σ H) (p : L.Perm L') : In K F ⟨L', δ, n⟩ σ H := by
  have pb := bs_perm (C := F.C) p
  have sl : Sl K (Bd F.C L) H σ δ := h.at_.sl
  exact ⟨h.an, fun a ha b hb => h.fr a ha b (pb.mem_iff.mpr hb), ⟨sl.less fun b hb => (List.mem_append.mp hb).elim (fun z => List.mem_append_left _ (pb.mem_iff.mpr z)) fun z => List.mem_append_right _ z, h.at_.hold.perm p⟩⟩
theorem In.frzLs {As : List Addr} {dss : List (List PD)} {D : Addr} (k : Nat) (hl : As.length = dss.length) (hd : δ[k]? = some (some (.v (.ref D)))) (h : In K F ⟨inn As dss ++ (D, Cont.vo (lsR As)) :: L, δ, n⟩ σ H) :
    In K F ⟨L, δ.set k (some (.d (.list (dss.map PyData.list)))), n⟩ σ H := by
  have sub : ∀ b, b ∈ Bd F.C L → b ∈ Bd F.C (inn As dss ++ (D, Cont.vo (lsR As)) :: L) := fun b hb => bd_app b (List.mem_cons_of_mem _ hb)
  have hh : Hold K F.C (inn As dss ++ (D, Cont.vo (lsR As)) :: L) n H := h.at_.hold
  have sl : Sl K (Bd F.C (inn As dss ++ (D, Cont.vo (lsR As)) :: L)) H σ δ := h.at_.sl
  have nd := hh.nd
  have eB : Bs F.C (inn As dss ++ (D, Cont.vo (lsR As)) :: L) = As ++ (D :: Bs F.C L) := by
    unfold Bs
    rw [List.map_append, inn_adr hl]
    simp
  rw [eB] at nd
  have hnd : D ∉ Bs F.C L := (List.nodup_cons.mp (List.nodup_append.mp nd).2.1).1
  have hna : ∀ a ∈ As, a ∉ Bs F.C L := fun a ha z => (List.nodup_append.mp nd).2.2 a ha a (List.mem_cons_of_mem _ z) rfl
  have hD : H D = some (.lst (As.map V.ref)) := by
    obtain ⟨o, h1, h2⟩ := hh.vs D (lsR As) (List.mem_append_right _ List.mem_cons_self)
    have e : o = .lst (As.map V.ref) := h2
    rw [h1, e]
  have hDw : D ∉ F.C.W := hh.dj _ (List.mem_append_right _ List.mem_cons_self)
  have items : DvAll K (Bd F.C L) H (As.map V.ref) (dss.map PyData.list) := by
    have fact : ∀ a d, (a, Cont.lst d) ∈ inn As dss → a ∈ As → ∃ xs, H a = some (.lst xs) ∧ a ∉ Bd F.C L ∧ DvAll K (Bd F.C L) H xs d := fun a d hm ha => by
      obtain ⟨xs, h1, h2⟩ := hh.ls a d (List.mem_append_left _ hm)
      refine ⟨xs, h1, fun z => ?_, h2.less sub⟩
      rcases List.mem_append.mp z with z | z
      · exact hna a ha z
      · exact hh.dj _ (List.mem_append_left _ hm) z
    clear nd eB hna hD hh sl sub h
    revert fact
    generalize Bd F.C L = B
    intro fact
    induction As generalizing dss with
    | nil =>
      cases dss with
      | nil => exact .nil
      | cons d ds => cases hl
    | cons a as ih =>
      cases dss with
      | nil => cases hl
      | cons d ds =>
        obtain ⟨xs, h1, h2, h3⟩ := fact a d List.mem_cons_self List.mem_cons_self
        exact .cons (.lst (.inl ⟨h2, .inl h1⟩) h3) (ih (by simpa using hl) fun a' d' hm ha => fact a' d' (List.mem_cons_of_mem _ hm) (List.mem_cons_of_mem _ ha))
  refine ⟨h.an, fun a ha b hb => h.fr a ha b (by show b ∈ Bs F.C (inn As dss ++ (D, Cont.vo (lsR As)) :: L); rw [eB]; exact List.mem_append_right _ (List.mem_cons_of_mem _ hb)), ⟨?_, Hold.pop (Hold.dropL hh)⟩⟩
  have sl2 := sl.less sub
  refine ⟨by rw [List.length_set]; exact sl2.1, fun j sv hj => ?_⟩
  by_cases e : k = j
  · subst e
    have hi : k < δ.length := (List.getElem?_eq_some_iff.mp hd).1
    rw [List.getElem?_set_self hi] at hj
    cases hj
    obtain ⟨v, h1, h2⟩ := sl2.2 k _ hd
    have e0 : v = .ref D := h2
    subst e0
    refine ⟨_, h1, Dv.lst (.inl ⟨fun z => ?_, .inl hD⟩) items⟩
    rcases List.mem_append.mp z with z | z
    · exact hnd z
    · exact hDw z
  · rw [List.getElem?_set_ne e] at hj
    exact sl2.2 j sv hj
end
section
variable {X : Cx} {F : Fm} {L : Ls} {δ : Dl} {n m k l : Nat} {D0 : Ends} {rest sts : List Stmt} {x y : Str} {pos p q : Pos} {e : Expr} {ds fs : List PD} {d : PD}
/-- from here on the list of lists in slot k is a datum -/
theorem r_frzLs {As : List Addr} {dss : List (List PD)} {D : Addr} (k : Nat) (hl : As.length = dss.length) (g : Bk X F ⟨L, δ.set k (some (.d (.list (dss.map PyData.list)))), n⟩ D0 sts) (hd : δ[k]? = some (some (.v (.ref D))) := by rfl) : Bk X F ⟨inn As dss ++ (D, Cont.vo (lsR As)) :: L, δ, n⟩ D0 sts :=
  PSs.imp g fun D' σ H ⟨le, ii⟩ => ⟨le, ii.frzLs k hl hd⟩
/-- y = [[] for x in ..] -/
theorem r_newLs {iter : Expr} {scope : Scope} {i : Nat} {tp py spos lp : Pos} (k : Nat) (hc : X.calm = true) (hN : X.N.Nodup) (hi : Wi X F.C L δ (.Name x tp) iter n m ds) (ok : BlkOk X.N X.env.scope scope [(x, i)])
    (hg : ∀ (s : Shared) (H : Hp) (Cc : Addr) (cl : List (Str × Addr)) (fp : List Addr), PG (X.blk s H scope (compEnvC scope cl Cc X.env) fp) (.Name x tp) (gT X.K F.C (.name i)))
    (hz : ds.length ≤ 100000) (g : ∀ D As, As.length = ds.length → Bk X F ⟨inn As (List.replicate ds.length []) ++ (D, Cont.vo (lsR As)) :: L, δ.set k (some (.v (.ref D))), m⟩ D0 rest) (hy : X.N[k]? = some y := by rfl) (hyl : X.env.scope.names.lookup y = some .local := by rfl)
    (hsw : swapsWith (.ListComp (.List [] lp) [⟨.Name x tp, iter, [], 0⟩] scope pos) (some (.Name y py)) spos.line X.env = pure true := by exact sw_true rfl rfl rfl (by decide +kernel)) (hs : ∀ x, foldedSetIterable iter X.env x = pure x := by intro _; rfl) :
    Bk X F ⟨L, δ, n⟩ D0 (.Assign [.Name y py] (.ListComp (.List [] lp) [⟨.Name x tp, iter, [], 0⟩] scope pos) spos :: rest) := by
  refine r_cons (fun c' => ∃ D As, As.length = ds.length ∧ c' = ⟨inn As (List.replicate ds.length []) ++ (D, Cont.vo (lsR As)) :: L, δ.set k (some (.v (.ref D))), m⟩) (PS.imp (ps_setLc (own := [(x, i)]) hc hN hy hyl hsw hi ok hg (fun _ _ _ _ _ => pts_nil) (fun _ _ _ _ _ => pe_lst pa_nil) hs) fun DD σ H ⟨le, ii⟩ => ⟨ii.at_, fun J H1 k1 h1 goes => ?_⟩) fun c' ⟨D, As, hl, ec⟩ => by subst ec; exact g D As hl
  intro D hD
  obtain ⟨G, g0, gGrow, gKeep, wk⟩ := goes.ex
  have i1 := ii.go k1 h1
  have smD := same_new (o := .lst []) hD
  refine lc_it (g := gT X.K F.C (.name i)) (tt := tYes) (vs := [i]) (σ := σ) (H1 := H1) (D := D) (wk (D :: Bd F.C L)) (fun j H2 => ∃ As : List Addr, As.length = j ∧ In X.K F ⟨inn As (List.replicate j []) ++ (D, Cont.vo (lsR As)) :: L, δ, m⟩ σ H2 ∧ G (D :: Bd F.C L) H2)
    ?_ (fun j H2 _ ⟨As, _, _, g⟩ => g) ?_ ?_
  · exact ⟨[], rfl, i1.pushC hD (c := .vo (lsR [])) rfl, gKeep _ _ _ (gGrow _ _ _ g0 hD) (.same smD)⟩
  · rintro j w H2 H3 hlt ⟨As, hl, i2, g2⟩ yy
    have hh : Hold X.K F.C (inn As (List.replicate j []) ++ (D, Cont.vo (lsR As)) :: L) m H2 := i2.at_.hold
    have hh2 : Hold X.K F.C ((D, Cont.vo (lsR As)) :: L) m H2 := Hold.dropL hh
    obtain ⟨sm, d, hd, dv⟩ := yy fun b hb => hh2.known hb
    have sl2 : Sl X.K (Bd F.C (inn As (List.replicate j []) ++ (D, Cont.vo (lsR As)) :: L)) H2 σ δ := i2.at_.sl
    have sl3 : Sl X.K (Bd F.C ((D, Cont.vo (lsR As)) :: L)) H2 σ δ := sl2.less bd_app
    refine ⟨(D, Cont.vo (lsR As)) :: L, wipeD δ [i], m, d, (wipeD δ [i]).set i (some (.d d)), ⟨(sl3.keep (.same sm)).wipe _, hh2.same sm⟩, dv, rfl, fun σ' t3 w3 => ⟨?_, ?_⟩⟩
    · rw [w3 [i] (fun z hz => hz)]
      exact wipe_wipe fun u hu => hu
    · refine tyes_if ?_
      refine ⟨Nat.zero_le _, fun r nr => ?_⟩
      have i3 := (i2.same sm).pushC nr (o := .lst []) (c := .lst []) ⟨[], rfl, .nil⟩
      have hD4 : (upd H3 r (.lst [])) D = some (.lst (As.map V.ref)) := by
        obtain ⟨o, h1', h2'⟩ := i3.at_.hold.vs D (lsR As) (List.mem_cons_of_mem _ (List.mem_append_right _ List.mem_cons_self))
        have e : o = .lst (As.map V.ref) := h2'
        rw [h1', e]
      have i4 := In.putAtC (A := (r, Cont.lst []) :: inn As (List.replicate j [])) (B := L) (D := D) (c := .vo (lsR As)) (c' := .vo (lsR (As ++ [r]))) (o := .lst (As.map V.ref ++ [.ref r])) i3 (by
        show _ = HO.lst ((As ++ [r]).map V.ref)
        rw [List.map_append]
        rfl)
      have hrl : (List.replicate j ([] : List PD)).length = j := List.length_replicate
      refine ⟨_, hD4, ?_, As ++ [r], by rw [List.length_append, hl]; rfl, i4.perm ?_, ?_⟩
      · rw [List.length_map, hl]
        exact Nat.lt_of_lt_of_le (Nat.lt_of_lt_of_le hlt hz) (by decide)
      · have e1 : inn (As ++ [r]) (List.replicate (j + 1) []) = inn As (List.replicate j []) ++ [(r, Cont.lst [])] := by
          rw [show (List.replicate (j + 1) ([] : List PD)) = List.replicate j [] ++ [[]] by rw [List.replicate_succ']]
          exact inn_snoc (by rw [hrl, hl])
        rw [e1, List.append_assoc]
        exact (List.perm_middle (a := (r, Cont.lst [])) (l₁ := inn As (List.replicate j [])) (l₂ := (D, Cont.vo (lsR (As ++ [r]))) :: L)).symm
      · refine gKeep _ _ _ g2 ((Keep.same (sm.trans (same_new (o := .lst []) nr))).trans (keep_upd List.mem_cons_self))
  · rintro H2 ⟨As, hl, i2, g2⟩
    exact le.nx _ _ ⟨_, ⟨D, As, hl, rfl⟩, i2.slots ⟨i2.at_.sl.set (sv := .v (.ref D)) rfl, i2.at_.hold⟩⟩
/-- xs.extend(e), anywhere -/
theorem r_extendAt (A B : Ls) {D : Addr} {R : List PD → Prop} {o a : Expr} {apos cpos : Pos} (ho : Ev X F.C (A ++ (D, Cont.lst ds) :: B) δ o n n (.ref D)) (ha : E X F.C (A ++ (D, Cont.lst ds) :: B) δ a n m (fun sv => ∃ es, sv = .d (.list es) ∧ R es)) (hz : ∀ es, R es → ds.length + es.length ≤ 100000)
    (g : ∀ es, R es → Bk X F ⟨A ++ (D, Cont.lst (ds ++ es)) :: B, δ, m⟩ D0 rest)
    (hbase : attributeBase o "extend" X.env (eval o X.env) = eval o X.env := by rfl)
    (hfew : ((backTo cpos (starEach [a] X.env)).all (fun x => !x.1) && (backToKw cpos (keywordEach [] X.env)).all (fun x => x.1.isSome)
      && decide ([a].length + ([] : List Keyword).length + (if ([] : List Keyword).isEmpty then 0 else 1) < 30)) = true := by rfl)
    (hline : (apos.endLine == cpos.line) = true := by rfl) (hst : starEach [a] X.env = (false, eval a X.env) :: starEach [] X.env := by rfl) (hplain : (backTo cpos (starEach [] X.env)).any (·.1) = false := by rfl)
    (hs : swapsWith (.Call (.Attribute o "extend" apos) [a] [] cpos) none pos.line X.env = pure false := by rfl) : Bk X F ⟨A ++ (D, Cont.lst ds) :: B, δ, n⟩ D0 (.Expr (.Call (.Attribute o "extend" apos) [a] [] cpos) pos :: rest) :=
  r_cons (fun c' => ∃ es, R es ∧ c' = ⟨A ++ (D, Cont.lst (ds ++ es)) :: B, δ, m⟩) (PS.imp (ps_expr (pe_bm PySem.F.plainAttrs_list PySem.F.slot_list_extend PySem.F.type_list_extend mt_extD ho (ar_cons ha ar_nil hst) hbase hfew hline hst hplain) hs) fun DD σ H ⟨le, ii⟩ => ⟨ii.at_, fun v H2 sv k1 h1 r1 s1 => by
    subst r1
    have e0 : v = .ref D := s1
    subst e0
    have inD : (D, Cont.lst ds) ∈ A ++ (D, Cont.lst ds) :: B := List.mem_append_right _ List.mem_cons_self
    obtain ⟨xs, hx, gx⟩ := h1.ls D ds inD
    refine ⟨.inl ⟨rfl, _, .inl (.inl hx)⟩, (ii.go k1 h1).at_, fun vs H3 svs k2 h2 r2 s2 => ?_⟩
    obtain ⟨sv, rs, rfl, ⟨es, rfl, hR⟩, rfl⟩ := r2
    obtain ⟨w, rfl, gw⟩ := DvAll.one (d := .list es) s2
    obtain ⟨ys, hy, gy⟩ := h2.ls D ds inD
    cases gw with
    | @lst b zs _ rb gz =>
      refine ⟨D, b, ys, zs, _, rfl, rfl, hy, rb, ?_, le.nx _ _ ⟨_, ⟨es, hR, rfl⟩, ?_⟩⟩
      · rw [gy.length, gz.length]
        exact Nat.le_trans (hz es hR) (by decide)
      · exact ((ii.go k1 h1).go k2 h2).putAtC ⟨_, rfl, gy.app gz⟩⟩) fun c' ⟨es, hR, ec⟩ => by subst ec; exact g es hR
end
end Wk
namespace N0
open PySem PySem.Spec PyProof.Rows L2 Wk
/-! ### drawn_blocks -/
theorem size_cnt {o : Own} (ho : OwnOk o) : size o.s o.b = cnt o * o.b := by
  unfold size cnt
  split <;> simp
/-- the blocks behind j rows -/
def blks (o : Own) (j : Nat) : List (List PD) := o.bl.mapIdx fun i bs => bs.take ((j - i * cnt o) * o.b)
theorem blks_len {o : Own} {j : Nat} : (blks o j).length = o.bl.length := by simp [blks]
theorem blks_zero {o : Own} (ho : OwnOk o) : blks o 0 = List.replicate o.ns.length [] := by
  apply List.ext_getElem?
  intro i
  rw [← ho.len]
  simp only [blks, List.getElem?_mapIdx, Nat.zero_sub, Nat.zero_mul, List.take_zero, List.getElem?_replicate]
  by_cases h : i < o.bl.length
  · rw [List.getElem?_eq_getElem h, if_pos h]
    rfl
  · rw [List.getElem?_eq_none (by omega), if_neg h]
    rfl
theorem blks_all {o : Own} (ho : OwnOk o) : blks o (o.ns.length * cnt o) = o.bl := by
  apply List.ext_getElem?
  intro i
  simp only [blks, List.getElem?_mapIdx]
  cases h : o.bl[i]? with
  | none => rfl
  | some bs =>
    have hi : i < o.bl.length := (List.getElem?_eq_some_iff.mp h).1
    have hb := ho.bl bs (List.mem_of_getElem? h)
    have e : bs.take ((o.ns.length * cnt o - i * cnt o) * o.b) = bs := by
      apply List.take_of_length_le
      rw [hb.1, size_cnt ho, ← Nat.sub_mul]
      refine Nat.mul_le_mul_right _ ?_
      have : 1 ≤ o.ns.length - i := by rw [← ho.len]; omega
      exact Nat.le_mul_of_pos_left _ (by omega)
    show some (bs.take _) = _
    rw [e]
theorem blks_next {o : Own} (ho : OwnOk o) {j : Nat} {bs : List PD} (hb : o.bl[j / cnt o]? = some bs) : blks o (j + 1) = (blks o j).set (j / cnt o) (bs.take (j % cnt o * o.b) ++ cellsT o bs (j % cnt o)) := by
  have hc := (cnt_pos ho).1
  have hdm : j / cnt o * cnt o + j % cnt o = j := Nat.div_add_mod' j (cnt o)
  have hml : j % cnt o < cnt o := Nat.mod_lt _ (by omega)
  have hql : j / cnt o < o.bl.length := (List.getElem?_eq_some_iff.mp hb).1
  apply List.ext_getElem?
  intro i
  by_cases hi : j / cnt o = i
  · subst hi
    rw [List.getElem?_set_self (by rw [blks_len]; exact hql)]
    simp only [blks, List.getElem?_mapIdx, hb, Option.map_some]
    have e1 : j + 1 - j / cnt o * cnt o = j % cnt o + 1 := by omega
    rw [e1, Nat.succ_mul, List.take_add]
    rfl
  · rw [List.getElem?_set_ne hi]
    simp only [blks, List.getElem?_mapIdx]
    cases h : o.bl[i]? with
    | none => rfl
    | some cs =>
      have hb2 := ho.bl cs (List.mem_of_getElem? h)
      show some (cs.take _) = some (cs.take _)
      congr 1
      rcases Nat.lt_or_gt_of_ne hi with q | q
      · have h1 : (j / cnt o + 1) * cnt o ≤ i * cnt o := Nat.mul_le_mul_right _ q
        rw [Nat.succ_mul] at h1
        rw [show j + 1 - i * cnt o = 0 by omega, show j - i * cnt o = 0 by omega]
      · have h1 : (i + 1) * cnt o ≤ j / cnt o * cnt o := Nat.mul_le_mul_right _ q
        rw [Nat.succ_mul] at h1
        have full : ∀ x : Nat, cnt o ≤ x → cs.take (x * o.b) = cs := fun x hx => by
          apply List.take_of_length_le
          rw [hb2.1, size_cnt ho]
          exact Nat.mul_le_mul_right _ hx
        rw [full _ (by omega), full _ (by omega)]
def okDBl : List PD → SV → Prop := fun ds sv => ∃ o : Own, OwnOk o ∧ ds = [.list (o.ns.map PyData.str), .list (allRows o (o.ns.length * cnt o))] ∧ sv = .d (.tuple (o.bl.map PyData.tuple))
theorem pairs_mem {ns : List Str} {d : PD} (h : d ∈ pairsD (ns.map PyData.str)) : ∃ (i : Nat) (s : Str), d = .tuple [.int (i : Nat), .str s] := by
  obtain ⟨i, hi⟩ := List.getElem?_of_mem h
  unfold pairsD at hi
  rw [List.getElem?_mapIdx, List.getElem?_map] at hi
  cases e : ns[i]? with
  | none =>
    rw [e] at hi
    cases hi
  | some s =>
    rw [e] at hi
    cases hi
    exact ⟨i, s, rfl⟩
def nameOf : PD → Str
  | .tuple [_, .str s] => s
  | _ => ""
def numOf : PD → PD
  | .tuple [i, _] => i
  | _ => .none
theorem pairs_numK (ns : List Str) : (pairsD (ns.map PyData.str)).map (fun d => (nameOf d, numOf d)) = numK ns := by
  unfold pairsD numK
  apply List.ext_getElem?
  intro j
  simp only [List.getElem?_map, List.getElem?_mapIdx]
  cases ns[j]? with
  | none => rfl
  | some s => rfl
theorem pairs_names (ns : List Str) : (pairsD (ns.map PyData.str)).map nameOf = ns := by
  have h := congrArg (List.map Prod.fst) (pairs_numK ns)
  rw [List.map_map] at h
  have e : (numK ns).map Prod.fst = ns := by
    unfold numK
    apply List.ext_getElem?
    intro j
    simp only [List.getElem?_map, List.getElem?_mapIdx]
    cases ns[j]? <;> rfl
  rw [e] at h
  exact h
section
variable {P : Program} {w : World} {K : PySem.W.Frag} {mg : Str → Option Value} {base : Heap} {f : Addr} {fd : FuncData}
theorem sc39 : FnScope ["names", "rows", "kinds", "blocks", "height", "index", "number", "row", "kind", "name", "_", "block"] ["names", "rows"] (defScope (topS 21)) := ⟨rfl, rfl, rfl, by decide +kernel, rfl, by decide +kernel, by decide +kernel⟩
theorem drawn_blocks (z : Bt mg) (hRow : Knw P w K mg base CX0 1 "drawn_row" ["number", "row", "kinds"] (SpV K okDR)) (F : Fun K "drawn_blocks" "drawn_blocks" (topS 21) f fd) : Gd P w K mg base CX0 2 f fd ["names", "rows"] (SpP K okDBl) := by
  refine okP F sc39 (fun ds sv ⟨_, _, e, _⟩ => by rw [e]; rfl) fun cdv A outer s H E B ds sv fm D0 ⟨o, ho, e1, e2⟩ gu hr hC hw hn => ?_
  subst e1 e2
  have hcp := cnt_pos ho
  have hnk := ho.k
  have hb4 := ho.b
  have hzl := zip_len ho
  have hpl : (pairsD (o.ns.map PyData.str)).length = o.ns.length := by simp [pairsD]
  refine r_dc (m := 0) (own := [("kind", 8), ("name", 9)]) (ds := pairsD (o.ns.map PyData.str)) (tgd := .tup [.name 8, .name 9]) 2 nameOf numOf rfl sc39.nd (i_enum z.enumerate (e_var 0))
    (blkOk_by (own := [("kind", 8), ("name", 9)]) (N := ["names", "rows", "kinds", "blocks", "height", "index", "number", "row", "kind", "name", "_", "block"]) (sc := defScope (topS 21)) (by decide +kernel))
    (fun _ _ _ _ _ _ => g_tup rfl (gs_cons (g_name 8 sc39.nd) (gs_cons (g_name 9 sc39.nd) gs_nil))) (by decide)
    (fun d hd => by obtain ⟨i, x, rfl⟩ := pairs_mem hd; exact ⟨_, rfl⟩) (by rw [hpl]; omega) (by rw [pairs_names]; exact ho.ns.nd)
    (fun _ _ _ _ _ _ d δ' hd hput => by
      obtain ⟨i, x, rfl⟩ := pairs_mem hd
      cases hput
      exact e_var 9)
    (fun _ _ _ _ _ _ d δ' hd hput => by
      obtain ⟨i, x, rfl⟩ := pairs_mem hd
      cases hput
      exact e_var 8) ?_
  rw [pairs_numK]
  refine r_newLs (m := 0) (i := 10) (ds := o.ns.map PyData.str) 3 rfl sc39.nd (i_list (e_var 0)) (blkOk_by (own := [("_", 10)]) (N := ["names", "rows", "kinds", "blocks", "height", "index", "number", "row", "kind", "name", "_", "block"]) (sc := defScope (topS 21)) (by decide +kernel)) (fun _ _ _ _ _ => g_name 10 sc39.nd) (by rw [List.length_map]; omega) fun D As hAs => ?_
  rw [List.length_map] at hAs ⊢
  have hrl : (allRows o (o.ns.length * cnt o)).length = o.ns.length * cnt o := by simp [allRows]
  have hh : (((allRows o (o.ns.length * cnt o)).length : Nat) : Int) / (((o.ns.map PyData.str).length : Nat) : Int) = (cnt o : Nat) := by
    rw [hrl, List.length_map, ← Int.natCast_ediv, Nat.mul_div_cancel_left _ (by omega)]
  have hlim : o.ns.length * cnt o ≤ 8 * 4 := Nat.mul_le_mul hnk.2 hcp.2
  refine r_set (m := 0) 4 (sv := .d (.int (cnt o : Nat))) (e_eq (e_div (i := (((allRows o (o.ns.length * cnt o)).length : Nat) : Int)) (j := (((o.ns.map PyData.str).length : Nat) : Int)) (by rw [hrl, List.length_map]; exact wide_div (b := 64) (by omega) (by rw [Int.natAbs_natCast]; exact Nat.lt_of_le_of_lt hnk.2 (by decide)) (by decide) (by decide)) (e_lenL z.len (e_var 1)) (e_lenL z.len (e_var 0))) (by rw [hh])) ?_ sc39.nd
  rw [← blks_zero ho]
  have hbl : As.length = o.bl.length := by rw [hAs, ho.len]
  refine r_for (m := 0) (tgd := .tup [.name 5, .tup [.name 6, .name 7]]) (ds := pairsD (allRows o (o.ns.length * cnt o)))
    (fun j cf => ∃ x5 x6 x7 : Option SV, cf = ⟨inn As (blks o j) ++ (D, Cont.vo (lsR As)) :: [], [some (.d (.list (o.ns.map PyData.str))), some (.d (.list (allRows o (o.ns.length * cnt o)))), some (.o (obD (numK o.ns))), some (.v (.ref D)), some (.d (.int (cnt o : Nat))), x5, x6, x7, none, none, none, none], 0⟩)
    rfl PassesOwn.never (i_enum z.enumerate (e_var 1)) (g_tup rfl (gs_cons (g_name 5 sc39.nd) (gs_cons (g_tup rfl (gs_cons (g_name 6 sc39.nd) (gs_cons (g_name 7 sc39.nd) gs_nil))) gs_nil))) ⟨none, none, none, rfl⟩ (fun k cf ⟨_, _, _, e⟩ => by
      rw [e]
      show (inn As (blks o k) ++ _).map _ = (inn As (blks o 0) ++ _).map _
      rw [List.map_append, List.map_append, inn_adr (by rw [hbl, blks_len]), inn_adr (by rw [hbl, blks_len])]) ?_ ?_
  · rintro j d cf H1 hd ⟨x5, x6, x7, rfl⟩
    have hj : j < o.ns.length * cnt o := by
      have := (List.getElem?_eq_some_iff.mp hd).1
      simpa [pairsD, allRows] using this
    have hq : j / cnt o < o.ns.length := by
      rw [Nat.div_lt_iff_lt_mul (by omega)]
      exact hj
    have hr' : j % cnt o < cnt o := Nat.mod_lt _ (by omega)
    have hql : j / cnt o < o.bl.length := by rw [ho.len]; exact hq
    have hz : (o.ns.zip o.bl)[j / cnt o]? = some (o.ns[j / cnt o], o.bl[j / cnt o]) := by
      rw [List.getElem?_eq_getElem (by rw [hzl]; exact hq), List.getElem_zip]
    have hbb : o.bl[j / cnt o]? = some o.bl[j / cnt o] := List.getElem?_eq_getElem hql
    have hbk := ho.bl o.bl[j / cnt o] (List.getElem_mem hql)
    have hAq : As[j / cnt o]? = some (As[j / cnt o]'(by omega)) := List.getElem?_eq_getElem (by omega)
    have hd2 : d = .tuple [.int (j : Nat), .tuple [.int ((2 + (j / cnt o * (cnt o + 1) + (j % cnt o + 1)) : Nat) : Int), .list ((cellsT o o.bl[j / cnt o] (j % cnt o)).map (toldD o))]] := by
      have : (pairsD (allRows o (o.ns.length * cnt o)))[j]? = some (.tuple [.int (j : Nat), rowD o j]) := by
        unfold pairsD allRows
        rw [List.getElem?_mapIdx, List.getElem?_map, List.getElem?_range hj]
        rfl
      rw [hd] at this
      cases this
      unfold rowD
      rw [hz]
    subst hd2
    generalize hbs : o.bl[j / cnt o] = bs at *
    generalize As[j / cnt o]'(by omega) = aq at *
    have hcell : ∀ d ∈ cellsT o bs (j % cnt o), CellOk o.s o.ns.length d := fun d hd => hbk.2 d (List.mem_of_mem_drop (List.mem_of_mem_take hd))
    have hcl : (cellsT o bs (j % cnt o)).length = o.b := cells_len ho hbk hr'
    have hnx := blks_next ho hbb
    have hold : (blks o j)[j / cnt o]? = some (bs.take (j % cnt o * o.b)) := by
      unfold blks
      rw [List.getElem?_mapIdx, hbb]
      have hdm : j / cnt o * cnt o + j % cnt o = j := Nat.div_add_mod' j (cnt o)
      rw [show j % cnt o = j - j / cnt o * cnt o by omega]
      rfl
    obtain ⟨A', B', e1, e2⟩ := inn_at (by rw [hbl, blks_len]) hAq hold
    refine ⟨_, rfl, ?_⟩
    rw [e1, List.append_assoc]
    have hm : (D, Cont.vo (lsR As)) ∈ A' ++ ((aq, Cont.lst (bs.take (j % cnt o * o.b))) :: (B' ++ [(D, Cont.vo (lsR As))])) := by simp
    refine r_extendAt (m := 0) A' (B' ++ [(D, Cont.vo (lsR As))]) (R := fun es => es = cellsT o bs (j % cnt o))
      (e_ixVs hm (e_var 3) (e_eq (e_div (i := ((j : Nat) : Int)) (j := ((cnt o : Nat) : Int)) (wide_div (b := 64) (by omega) (by rw [Int.natAbs_natCast]; exact Nat.lt_of_le_of_lt hcp.2 (by decide)) (by decide) (by decide)) (e_var 5) (e_var 4)) (by rw [← Int.natCast_ediv])) hAq)
      (e_imp (e_callV hRow gu hr (by decide) (ad_cons (e_var 6) (ad_cons (e_var 7) (ad_cons (e_var 2) ad_nil))) ⟨o, cellsT o bs (j % cnt o), _, ho, hcell, by omega, rfl, rfl⟩) fun sv e => ⟨_, e.symm, rfl⟩)
      (fun es he => by
        subst he
        have := List.length_take_le (j % cnt o * o.b) bs
        have hbl := hbk.1
        have hsz : size o.s o.b ≤ 16 := by
          unfold size
          split
          · omega
          · exact Nat.le_trans (Nat.mul_le_mul hb4.2 hb4.2) (by decide)
        have h2 := List.length_take_le' (j % cnt o * o.b) bs
        omega) fun es he => ?_
    subst he
    exact r_end (J := _) ⟨_, _, _, by rw [hnx, e2, List.append_assoc]; rfl⟩
  · rintro cf ⟨x5, x6, x7, rfl⟩
    have hlen : (pairsD (allRows o (o.ns.length * cnt o))).length = o.ns.length * cnt o := by
      simp [pairsD, allRows]
    rw [hlen, blks_all ho]
    refine r_frzLs 3 hbl ?_
    refine r_retD (m := 0) hw (e_tupleL z.tuple (e_lcM (i := 11) (l := o.bl) (g := PyData.list) PyData.tuple rfl sc39.nd (i_list (e_var 3)) (blkOk_by (own := [("block", 11)]) (N := ["names", "rows", "kinds", "blocks", "height", "index", "number", "row", "kind", "name", "_", "block"]) (sc := defScope (topS 21)) (by decide +kernel)) (fun _ _ _ _ _ => g_name 11 sc39.nd) (fun _ _ _ _ _ _ _ _ _ => e_tupleL z.tuple (e_var 11)) (by omega))) rfl
end
end N0
namespace N0
open PySem PySem.Spec PyProof.Rows L2 Wk
/-! ### the class Book -/
theorem bookT_len {o : Own} (ho : OwnOk o) : (bookT o).length ≤ 10000 := by
  have h1 := sum_le (g := fun s : Str => s.length) (c := 60) (linesTo o o.ns.length) (line_len ho)
  have h2 := lines_len ho (i := o.ns.length)
  have h3 := join_len "\n" (linesTo o o.ns.length)
  have e3 : ("\n" : Str).length = 1 := by decide +kernel
  rw [e3] at h3
  show (Txt.join "\n" _).length ≤ _
  omega
def bookG (o : Own) : Fl := [("text", .str (bookT o)), ("sides", .int (o.s : Nat)), ("base", .int (o.b : Nat)), ("names", .tuple (o.ns.map PyData.str)), ("blocks", .tuple (o.bl.map PyData.tuple))]
/-- what the top says of the class -/
structure BkT (K : PySem.W.Frag) (Cl : Addr) : Prop where
  cl : Cls K Cl
  nT : NoAttr K Cl "text"
  nS : NoAttr K Cl "sides"
  nB : NoAttr K Cl "base"
  nN : NoAttr K Cl "names"
  nK : NoAttr K Cl "blocks"
abbrev sInit : Stmt := inClass (topS 22) 0
abbrev sLen : Stmt := inClass (topS 22) 1
abbrev sIn : Stmt := inClass (topS 22) 2
abbrev sEq : Stmt := inClass (topS 22) 3
def okBook : List PD → Fl → Prop := fun ds gs => ∃ o : Own, OwnOk o ∧ ds = [.str (bookT o)] ∧ gs = bookG o
section
variable {P : Program} {w : World} {K : PySem.W.Frag} {mg : Str → Option Value} {base : Heap} {f : Addr} {fd : FuncData}
theorem scI : FnScope ["self", "text", "lines", "sides", "base", "names", "rows"] ["self", "text"] (defScope sInit) := ⟨rfl, rfl, rfl, by decide +kernel, rfl, by decide +kernel, by decide +kernel⟩
theorem book_init {Cl : Addr} (z : Bt mg) (T : BkT K Cl) (hHead : Knw P w K mg base CX0 1 "told_head" ["line"] (SpP K okHead)) (hKinds : Knw P w K mg base CX0 5 "told_kinds" ["lines", "sides", "base"] (SpP K okTK)) (hBlocks : Knw P w K mg base CX0 2 "drawn_blocks" ["names", "rows"] (SpP K okDBl))
    (F : Fun K "__init__" "Book.__init__" sInit f fd) : Gd P w K mg base CX0 6 f fd ["self", "text"] (SpI K Cl okBook) := by
  refine okI F scI (fun ds gs ⟨_, _, e, _⟩ => by rw [e]; rfl) fun cdv A outer s H E r B ds gs fm D0 ⟨o, ho, e1, e2⟩ gu hr hC hw => ?_
  subst e1 e2
  have hbt := bookT_len ho
  have hlines := text_split ho
  refine r_ifF (m := 0) (t_not (t_val (e_isStr z (e_var 1)))) (by rfl) ?_
  refine r_set (m := 0) 2 (sv := .d (.list ((linesTo o o.ns.length).map PyData.str))) (e_eq (e_split (e_var 1) e_str (by decide +kernel) (by omega)) (by rw [hlines])) ?_ scI.nd
  refine r_tup (m := 0) (R := Eq (.d (.tuple [.int (o.s : Nat), .int (o.b : Nat)]))) (ts := [.name 3, .name 4]) rfl (g_tup rfl (gs_cons (g_name 3 scI.nd) (gs_cons (g_name 4 scI.nd) gs_nil))) (e_callP hHead gu hr (by decide) (a_cons (e_ixL (d := .str (headOf o.s o.b)) (e_var 2) (e_int (i := 0)) (show atI ((linesTo o o.ns.length).map PyData.str) ((0 : Nat) : Int) = some (.str (headOf o.s o.b)) from atI_nat (by unfold linesTo; rfl))) a_nil) ⟨o.s, o.b, rfl, ho.s, ho.b.1, ho.b.2, rfl⟩) fun sv e => ⟨_, _, e.symm, rfl, ?_⟩
  refine r_tup (m := 0) (R := Eq (.d (.tuple [.list (o.ns.map PyData.str), .list (allRows o (o.ns.length * cnt o))]))) (ts := [.name 5, .name 6]) rfl (g_tup rfl (gs_cons (g_name 5 scI.nd) (gs_cons (g_name 6 scI.nd) gs_nil))) (e_callP hKinds gu hr (by decide) (a_cons (e_var 2) (a_cons (e_var 3) (a_cons (e_var 4) a_nil))) ⟨o, ho, rfl, rfl⟩) fun sv e => ⟨_, _, e.symm, rfl, ?_⟩
  refine r_fld (m := 0) [] [] T.cl T.nT (Nat.le_of_ble_eq_true rfl) (e_var 1) (e_var 0) ?_
  refine r_fld (m := 0) [] [] T.cl T.nS (Nat.le_of_ble_eq_true rfl) (e_var 3) (e_var 0) ?_
  refine r_fld (m := 0) [] [] T.cl T.nB (Nat.le_of_ble_eq_true rfl) (e_var 4) (e_var 0) ?_
  refine r_fld (m := 0) [] [] T.cl T.nN (Nat.le_of_ble_eq_true rfl) (e_tupleL z.tuple (e_var 5)) (e_var 0) ?_
  refine r_fld (m := 0) [] [] T.cl T.nK (Nat.le_of_ble_eq_true rfl) (d := .tuple (o.bl.map PyData.tuple)) (e_callP hBlocks gu hr (by decide) (a_cons (e_var 5) (a_cons (e_var 6) a_nil)) ⟨o, ho, rfl, rfl⟩) (e_var 0) ?_
  exact r_nil fun σ H i => hw _ _ σ H i
theorem scIn : FnScope ["self", "x"] ["self", "x"] (defScope sIn) := ⟨rfl, rfl, rfl, by decide +kernel, rfl, by decide +kernel, by decide +kernel⟩
def okIn (Cl : Addr) : List SV → (SV → Prop) → Prop := fun ds R => ∃ (o : Own) (x : Str), ds = [.o (insO Cl (bookG o)), .d (.str x)] ∧ R = Eq (.d (.bool (decide (x ∈ o.ns))))
theorem book_in {Cl : Addr} (z : Bt mg) (T : BkT K Cl) (F : Fun K "__contains__" "Book.__contains__" sIn f fd) : Gd P w K mg base CX0 1 f fd ["self", "x"] (SpV K (okIn Cl)) := by
  refine okV F scIn (fun ds R ⟨_, _, e, _⟩ => by rw [e]; rfl) fun cdv A outer s H E B ds R fm D0 ⟨o, x, e1, e2⟩ gu hr hC hw => ?_
  subst e1 e2
  exact r_ret (m := 0) (S := Eq (.d (.bool (decide (x ∈ o.ns))))) hw (e_and (u := true) (v := decide (x ∈ o.ns)) (e_isStr (d := .str x) z (e_var 1)) (fun _ => e_one (e_inT (s := x) (ss := o.ns) (e_var 1) (e_fld (gs := bookG o) (d := .tuple (o.ns.map PyData.str)) T.cl T.nN (e_var 0) rfl)))) fun sv e => e
end
end N0
/-! len, isinstance, ==, != of instances of the text's classes -/
namespace Wk
open PySem PySem.Spec PyProof.Rows L2
/-- a def runs somewhere below the running body -/
theorem run_gdA {X : Cx} {A : Around} {Z : CXT} {k : Nat} {f : Addr} {fd : FuncData} {ps : List Str} {sp : Sp} {E : XK} {pins : List (Addr × Obj)} {σ : L2.St} {H : Hp} {s : Shared} {Q : VK} {us : List Value} {vs : List V}
    (F : Gd X.prog X.w X.K X.mg X.base Z k f fd ps sp) (gu : A.guards = some []) (hr : Room k A) (fr : A.frames = X.A.frames) (hb : Binds X.K fd ps []) (hx : Passes Z X E) (I : Inv X pins σ H s) (r : Vals vs us) (want : sp vs H Q E) :
    wpAny (model X.prog X.w) A (call (.ref f) us) (EP X pins σ Q) X.xe s := by
  have hl : (us ++ []).length = ps.length := by
    rw [List.append_nil, ← r.length]
    exact F.len vs H Q E want
  have bi := hb s us I.kIn hl
  rw [List.append_nil] at bi
  have e0 : Env0 X.prog X.w X.K X.mg X.base A X.stack s H := by
    have e := I.env0
    exact ⟨by rw [fr]; exact e.frames, e.mod, e.bs, e.bsz, e.funs, e.frf, e.hok, e.bare⟩
  have run := F.run A gu X.stack s H ⟨us, []⟩ us vs Q E hr e0 bi r want
  refine wpAny_call (codeAny_mono run fun res s' hres => ?_)
  match res, hres with
  | .error e, h => exact hx pins σ H s e s' I h
  | .ok (.ret u), h => exact I.after h
  | .ok .next, h => exact (show False from h).elim
  | .ok .brk, h => exact (show False from h).elim
  | .ok .cont, h => exact (show False from h).elim
section
variable {X : Cx} {Z : CXT} {C : Ct} {L : Ls} {δ : Dl} {n m k l : Nat} {a b c e o : Expr} {es : List Expr} {pos p q : Pos} {ds : List PD} {d : PD} {x : Str} {gs : Fl} {Cl : Addr} {ps : List Str} {sp : Sp} {ta tb : TE} {E : XK}
/-! len -/
def rLenO (Cl : Addr) (sp : Sp) (E : XK) : List V → Hp → VK → Prop := fun vs H Q => ∃ r dx fs, vs = [.ref r] ∧ H r = some (.ins Cl dx fs) ∧ sp [.ref r] H (fun v H' => ∃ i : Int, v = .int i ∧ (0 ≤ i ∧ i < 2 ^ 63) ∧ Q (.int i) H') E
theorem cr_lenO (F : KnM X Z k Cl "__len__" ps sp) (gu : X.A.guards = some []) (hr : Room (k + 1) X.A) (hx : Passes Z X E) : CallR X (.builtin "len") (rLenO Cl sp E) := by
  obtain ⟨f, fd, hs, hf, hk, hbi, G⟩ := F.ex
  intro pins s σ H xs us Q I rv h
  obtain ⟨r, dx, fs, rfl, e2, want⟩ := h
  obtain ⟨u, rfl, ru⟩ := vals1 rv
  obtain rfl : u = Value.ref r := ru
  obtain ⟨mA, J, _⟩ := ins_get I.hok e2
  obtain ⟨od, J, _⟩ := J.look
  obtain ⟨m', hF⟩ := I.fr
  refine PySem.W.len_K hF I.ok.mod.kin J hs hf (wpAny_mono (run_gdA (A := X.A.in1) G gu hr.in1 rfl hbi hx I (us := [.ref r]) (vs := [.ref r]) (.cons rfl .nil) want) (fun z s' ⟨v, H3, I3, rv, i, ev, hi, q⟩ => ?_) fun _ _ z => z)
  subst ev
  obtain ⟨t, rfl⟩ := (show ∃ t, z = Value.int i t from rv)
  exact ⟨hi, .int i, H3, I3.tok _, ⟨_, rfl⟩, q⟩
theorem e_lenO {r : Nat} {ok : List SV → (SV → Prop) → Prop} {i : Int} (F : KnM X CX0 l Cl "__len__" ps (SpV X.K ok)) (gu : X.A.guards = some []) (hr : Room r X.A) (hk : l + 1 ≤ r) (hi : 0 ≤ i ∧ i < 2 ^ 63) (h : ok [.o (insO Cl gs)] (Eq (.d (.int i)))) (hm : X.mg "len" = none) (ha : Wk.E X C L δ a n m (Eq (.o (insO Cl gs)))) (hg : Gl X "len" := by rfl)
    (he : starEach [a] X.env = (false, eval a X.env) :: starEach [] X.env := by rfl) : Ed X C L δ (.Call (.Name "len" p) [a] [] pos) n m (.int i) :=
  PE.imp (pe_callB (cr_lenO F gu (hr.mono hk) (E := fun _ _ _ => False) pass0) hg hm (by decide +kernel) (ad_cons ha ad_nil he) (he := he)) fun σ H Q ⟨t, q⟩ => ⟨t, fun vs H2 svs k1 h1 e1 s1 => by
    subst e1
    cases s1 with
    | cons s1 s2 =>
      cases s2
      have hr := s1
      obtain ⟨r, dx, fs, rfl, hn, h3, g⟩ := s1
      refine ⟨r, dx, fs, rfl, h3, Bd C L, _, _, fun b hb => h1.known hb, .cons hr .nil, h, fun z H4 d sm ed g4 => ?_⟩
      subst ed
      cases g4
      exact ⟨i, rfl, hi, q _ H4 _ (k1.trans (.same sm)) (h1.same sm) rfl (Dv.int i)⟩⟩
/-! isinstance -/
theorem e_isC {sv : SV} {t : Value} {u : Bool} (ty : ∀ v H, SvOk X.K (Bd C L) H v sv → TyX X.K H v t) (hk : PySem.W.kitOne X.K t (.ref Cl) = some u) (hm : X.mg "isinstance" = none) (g : X.mg x = some (.ref Cl)) (h : Wk.E X C L δ e n m (Eq sv)) (hg : Gl X "isinstance" := by rfl) (hg2 : Gl X x := by rfl)
    (hdb : (x == ("__debug__" : Str)) = false := by decide) (he : starEach [e, .Name x q] X.env = (false, eval e X.env) :: starEach [.Name x q] X.env := by rfl) (he2 : starEach [.Name x q] X.env = (false, eval (.Name x q) X.env) :: starEach [] X.env := by rfl)
    (hpl : (backTo pos (starEach [.Name x q] X.env)).any (·.1) = false := by rfl) : Ed X C L δ (.Call (.Name "isinstance" p) [e, .Name x q] [] pos) n m (.bool u) :=
  PE.imp (pe_callB call_isi hg hm (by decide +kernel) (ad_cons h (ad_cons (e_globV (v := .ref Cl) g rfl hg2 hdb) ad_nil he2) he) (he := he) (hpl := hpl)) fun σ H Q ⟨t', q'⟩ => ⟨t', fun vs H2 svs k1 h1 e1 s1 => by
    subst e1
    cases s1 with
    | @cons v1 vs1 _ _ s1 s2 =>
      cases s2 with
      | @cons w1 vs2 _ _ s2 s3 =>
        cases s3
        have ew : w1 = .ref Cl := s2
        subst ew
        exact ⟨v1, .ref Cl, t, _, u, rfl, .own Cl, ty v1 H2 s1, hk, q' _ H2 _ k1 h1 rfl (Dv.bl u)⟩⟩
theorem ty_ins (c : C8.InsC X.K Cl) : ∀ v H, SvOk X.K (Bd C L) H v (.o (insO Cl gs)) → TyX X.K H v (.ref Cl) := fun v H h => by
  obtain ⟨r, dx, fs, rfl, hn, h3, g⟩ := h
  exact .base (.ins h3 c.cl c.ha c.hn c.htk c.hm)
theorem ty_dat : ∀ v H, SvOk X.K (Bd C L) H v (.d d) → TyX X.K H v (.type (tyN d)) := fun v H h => Dv.ty h
/-! == -/
def tEqO (K : PySem.W.Frag) (ta tb : TE) (sp : Sp) (Cl : Addr) (neg : Bool → Bool) (E : XK) : TE := fun σ H Q => ta σ H fun x H1 => tb σ H1 fun y H2 => ∃ r dx fs t, x = .ref r ∧ H2 r = some (.ins Cl dx fs) ∧ TyX K H2 y t ∧ PySem.W.notFirst K Cl t = true ∧ sp [.ref r, y] H2 (fun v H3 => ∃ b, v = .bl b ∧ Q (.bl (neg b)) H3) E
theorem pc_eqO (F : KnM X Z k Cl "__eq__" ps sp) (gu : X.A.guards = some []) (hr : Room k X.A) (hx : Passes Z X E) (ha : PE X a ta) (hb : PE X b tb) : PC X .Eq a b (tEqO X.K ta tb sp Cl (fun b => b) E) := by
  obtain ⟨f, fd, hs, hf, hk, hbi, G⟩ := F.ex
  refine ⟨fun pins s σ H Q I h => ?_⟩
  refine thn (ha.run pins s σ H _ I h) fun iv s1 ⟨y, H1, I1, ry, q1⟩ => thn (hb.run pins s1 σ H1 _ I1 q1) fun u s2 ⟨x, H2, I2, rx, r, dx, fs, t, ex, e2, ty, nf, want⟩ => ?_
  subst ex
  obtain rfl : iv = Value.ref r := ry
  obtain ⟨mA, J, _⟩ := ins_get I2.hok e2
  obtain ⟨od, J, _⟩ := J.look
  obtain ⟨m', hF⟩ := I2.fr
  obtain ⟨P, Zt, pt, _⟩ := kit_of I2 rx ty
  show wpAny _ _ (richCompare .Eq (.ref r) u) _ _ _
  refine PySem.W.cmp_K (op := .Eq) hr.units0 hF I2.ok.mod.kin J (Zt.ty _ _ I2.kIn pt) nf hs hf (wpAny_mono (run_gd G gu hr hbi hx I2 (us := [.ref r, u]) (vs := [.ref r, x]) (.cons rfl (.cons rx .nil)) want) (fun z s' ⟨v, H3, I3, rv, bb, ev, q⟩ => ?_) fun _ _ z => z)
  subst ev
  cases rv
  exact ⟨.bl _, H3, I3, rfl, q⟩
theorem eqO_imp {neg : Bool → Bool} {ok : List SV → (SV → Prop) → Prop} {sv : SV} {t : Value} {u : Bool} (h : ok [.o (insO Cl gs), sv] (Eq (.d (.bool u)))) (ty : ∀ v H, SvOk X.K (Bd C L) H v sv → TyX X.K H v t) (nf : PySem.W.notFirst X.K Cl t = true) {σ : L2.St} {H : Hp} {Q : VK}
    (q : tTs X.K C L δ n k (neg u) σ H (fun b H' => Q (.bl b) H')) : tEqO X.K (tOf X.K C L δ n m (Eq (.o (insO Cl gs)))) (tOf X.K C L δ m k (Eq sv)) (SpV X.K ok) Cl neg E σ H Q := by
  obtain ⟨t', q⟩ := q
  refine ⟨t', fun v H2 s1' k1 h1 e1 s1 => ?_⟩
  subst e1
  refine ⟨t'.go k1 h1, fun w H3 s2' k2 h2 e2 s2 => ?_⟩
  subst e2
  have s1b : SvOk X.K (Bd C L) H3 v (.o (insO Cl gs)) := SvOk.keep s1 (k2.wider bs_bd)
  have hr := s1b
  obtain ⟨r, dx, fs, rfl, hn, h3, g⟩ := s1b
  refine ⟨r, dx, fs, t, rfl, h3, ty w H3 s2, nf, Bd C L, _, _, fun b hb => h2.known hb, .cons hr (.cons s2 .nil), h, fun z H4 d sm ed g4 => ?_⟩
  subst ed
  cases g4
  exact ⟨u, rfl, q H4 ((k1.trans k2).trans (.same sm)) (h2.same sm)⟩
/-- o == x, by the class's own __eq__ -/
theorem t_eqO {r : Nat} {ok : List SV → (SV → Prop) → Prop} {sv : SV} {t : Value} {u : Bool} (F : KnM X CX0 l Cl "__eq__" ps (SpV X.K ok)) (gu : X.A.guards = some []) (hr : Room r X.A) (hk : l ≤ r) (ty : ∀ v H, SvOk X.K (Bd C L) H v sv → TyX X.K H v t) (nf : PySem.W.notFirst X.K Cl t = true)
    (ha : Wk.E X C L δ a n m (Eq (.o (insO Cl gs)))) (hb : Wk.E X C L δ b m k (Eq sv)) (h : ok [.o (insO Cl gs), sv] (Eq (.d (.bool u)))) : T X C L δ (.Compare a [.Eq] [b] pos) n k u :=
  PT.imp (pt_cmp (pc_eqO F gu (hr.mono hk) (E := fun _ _ _ => False) pass0 ha hb)) fun σ H Q q => eqO_imp (neg := fun b => b) h ty nf ⟨q.1, fun H2 k1 h1 => ⟨_, rfl, q.2 H2 k1 h1⟩⟩
end
end Wk
/-! != of instances whose class has an own __eq__ -/
namespace Wk
open PySem PySem.Spec PyProof.Rows L2
section
variable {prog : Program} {w : World} {A : Around} {E : Value → Shared → Prop} {s : Shared} {K : PySem.W.Frag} {x C L f : Addr} {h₀ : Heap} {m : Str → Option Value} {ox : Obj} {od : Option Obj} {b tb : Value}
/-- what comes back of the own __eq__: its truth, turned -/
def NeBack (prog : Program) (w : World) (A : Around) (E : Value → Shared → Prop) (Q : Value → Shared → Prop) (v : Value) (s' : Shared) : Prop := ∃ r, v = .bool r ∧ Q (.bool (!r)) s'
theorem ne_entry {Q : PySem.Fin → Shared → Prop} (hu : A.units < cLine) (X : K.In s.heap) (I : PySem.W.InstAt s.heap x ox C od) (hs : PySem.W.findIn K (.ref C) "__eq__" = some (some (.ref f))) (hf : PySem.W.isFn K (.ref f) = true)
    (h : wpAny (model prog w) A (call (.ref f) [.ref x, b]) (NeBack prog w A E (fun v => Q (.done (.ret v)))) E s) : wpAny (model prog w) A (Builtin.«object.__ne__» ⟨[.ref x, b], []⟩) Q E s := by
  unfold Builtin.«object.__ne__»
  refine wpAny_bind (wpAny_pure ?_)
  show wpAny _ _ (cRoomFor "comparison" [.ref x, b] >>= _) _ _ s
  refine wpAny_bind (wpAny_cRoomFor hu ?_)
  refine wpAny_bind (PySem.W.ifBound_K X I hs hf (wpAny_mono h (fun v s' ⟨r, ev, q⟩ => ?_) fun _ _ e => e))
  subst ev
  refine wpAny_bind (wpAny_truthy_bool ?_)
  exact wpAny_pure q
theorem ne_bound {args : List Value} {Q : Option Value → Shared → Prop} {M : Model} (X : K.In s.heap) (I : PySem.W.InstAt s.heap x ox C od) (hn : PySem.W.findIn K (.ref C) "__ne__" = some (some (.builtin "object.__ne__")))
    (h : wpAny M A (call (.builtin "object.__ne__") (.ref x :: args)) (fun v => Q (some v)) E s) : wpAny M A (callSpecialIfBound? (.ref x) "__ne__" args) Q E s := by
  simp only [callSpecialIfBound?, bindSpecialIfBound?]
  refine wpAny_holding (wpAny_bind (wpAny_bind (wpAny_bind (I.type.here ((PySem.W.looks_findIn X hn).here (wpAny_bind (wpAny_askSetting (wpAny_ite ?_))))))))
  have last : wpAny M A (call (.builtin "object.__ne__") ([.ref x] ++ args) >>= fun v => pure (some v)) Q E s := wpAny_bind (wpAny_mono h (fun v s' h' => wpAny_pure h') fun _ _ h' => h')
  split
  · exact wpAny_bind (wpAny_of_eq (F.cmp_object.ne.bind _) (wpAny_pure (by exact last)))
  · exact wpAny_tryCatch (wpAny_bind (wpAny_of_eq (F.cmp_object.ne.bind _) (wpAny_pure (by exact last))))
theorem ne_call {Q : Value → Shared → Prop} (hu : A.in1.units < cLine) (X : K.In s.heap) (I : PySem.W.InstAt s.heap x ox C od) (hm : PySem.W.mroIn K C (.type "object") = some true) (hs : PySem.W.findIn K (.ref C) "__eq__" = some (some (.ref f))) (hf : PySem.W.isFn K (.ref f) = true)
    (h : wpAny (model prog w) A.in1 (call (.ref f) [.ref x, b]) (NeBack prog w A E Q) E s) : wpAny (model prog w) A (call (.builtin "object.__ne__") [.ref x, b]) Q E s :=
  wpAny_call (codeAny_call_builtin F.cmp_object.ne.plain F.cmpEntry_ne (PySem.W.check_slot F.cmpKind_ne F.cmpSplit_ne (I.type.andThen (PySem.W.looks_mroIn X hm)) (F.cmpArgs_ne _ _) (ne_entry (A := A.in1) hu X I hs hf h)))
theorem ne_K {Q : Value → Shared → Prop} (hu : A.units + 1 < cLine) (X : K.In s.heap) (I : PySem.W.InstAt s.heap x ox C od) (hb : PySem.W.Looks (model prog w) s.heap (typeOf b) tb) (nf : PySem.W.notFirst K C tb = true) (hn : PySem.W.findIn K (.ref C) "__ne__" = some (some (.builtin "object.__ne__")))
    (hm : PySem.W.mroIn K C (.type "object") = some true) (hs : PySem.W.findIn K (.ref C) "__eq__" = some (some (.ref f))) (hf : PySem.W.isFn K (.ref f) = true)
    (h : wpAny (model prog w) A.in1 (call (.ref f) [.ref x, b]) (NeBack prog w A E Q) E s) : wpAny (model prog w) A (richCompare .NotEq (.ref x) b) Q E s := by
  have first : wpAny (model prog w) A (tryCompare (.ref x) "__ne__" b) (fun r s' => ∃ v, r = some v ∧ Q v s') E s := by
    unfold tryCompare
    refine wpAny_bind (ne_bound X I hn (wpAny_mono (ne_call (by show A.units + 1 < _; exact hu) X I hm hs hf (Q := fun v s' => (∃ z, v = .bool z) ∧ Q v s') (wpAny_mono h (fun v s' ⟨r, ev, q⟩ => ⟨r, ev, ⟨_, rfl⟩, q⟩) fun _ _ e => e)) (fun v s' ⟨⟨z, ez⟩, q⟩ => ?_) fun _ _ e => e))
    subst ez
    exact wpAny_pure ⟨_, rfl, q⟩
  unfold richCompare
  simp only [oneThing_ref]
  refine wpAny_holding (wpAny_bind (wpAny_cRoomFor (by omega) (wpAny_bind (I.type.here (wpAny_bind (hb.here ?_))))))
  split
  · rename_i cond
    have sub : PySem.W.subIn K tb (.ref C) = some false := by
      rcases Bool.or_eq_true_iff.mp nf with e | e
      · rw [beq_iff_eq.mp e] at cond
        simp at cond
      · exact beq_iff_eq.mp e
    refine wpAny_bind ((PySem.W.looks_subIn X sub).here ?_)
    simp only [Bool.false_eq_true, if_false]
    exact wpAny_bind (wpAny_mono first (fun r s' ⟨v, e, q⟩ => by subst e; exact wpAny_pure q) fun _ _ e => e)
  · refine wpAny_bind (wpAny_pure ?_)
    simp only [Bool.false_eq_true, if_false]
    exact wpAny_bind (wpAny_mono first (fun r s' ⟨v, e, q⟩ => by subst e; exact wpAny_pure q) fun _ _ e => e)
end
section
variable {X : Cx} {Z : CXT} {C : Ct} {L : Ls} {δ : Dl} {n m k l : Nat} {a b c e o : Expr} {es : List Expr} {pos p q : Pos} {ds : List PD} {d : PD} {x : Str} {gs : Fl} {Cl : Addr} {ps : List Str} {sp : Sp} {ta tb : TE} {E : XK}
theorem pc_neO (F : KnM X Z k Cl "__eq__" ps sp) (gu : X.A.guards = some []) (hr : Room (k + 1) X.A) (hx : Passes Z X E) (hn : PySem.W.findIn X.K (.ref Cl) "__ne__" = some (some (.builtin "object.__ne__"))) (hm : PySem.W.mroIn X.K Cl (.type "object") = some true) (ha : PE X a ta) (hb : PE X b tb) : PC X .NotEq a b (tEqO X.K ta tb sp Cl (fun b => !b) E) := by
  obtain ⟨f, fd, hs, hf, hk, hbi, G⟩ := F.ex
  refine ⟨fun pins s σ H Q I h => ?_⟩
  refine thn (ha.run pins s σ H _ I h) fun iv s1 ⟨y, H1, I1, ry, q1⟩ => thn (hb.run pins s1 σ H1 _ I1 q1) fun u s2 ⟨x, H2, I2, rx, r, dx, fs, t, ex, e2, ty, nf, want⟩ => ?_
  subst ex
  obtain rfl : iv = Value.ref r := ry
  obtain ⟨mA, J, _⟩ := ins_get I2.hok e2
  obtain ⟨od, J, _⟩ := J.look
  obtain ⟨P, Zt, pt, _⟩ := kit_of I2 rx ty
  show wpAny _ _ (richCompare .NotEq (.ref r) u) _ _ _
  refine ne_K (by have := hr.un; omega) I2.kIn J (Zt.ty _ _ I2.kIn pt) nf hn hm hs hf (wpAny_mono (run_gdA (A := X.A.in1) G gu hr.in1 rfl hbi hx I2 (us := [.ref r, u]) (vs := [.ref r, x]) (.cons rfl (.cons rx .nil)) want) (fun z s' ⟨v, H3, I3, rv, bb, ev, q⟩ => ?_) fun _ _ z => z)
  subst ev
  cases rv
  exact ⟨bb, rfl, .bl _, H3, I3, rfl, q⟩
/-- o != x, by the class's own __eq__ -/
theorem t_neO {r : Nat} {ok : List SV → (SV → Prop) → Prop} {sv : SV} {t : Value} {u : Bool} (F : KnM X CX0 l Cl "__eq__" ps (SpV X.K ok)) (gu : X.A.guards = some []) (hr : Room r X.A) (hk : l + 1 ≤ r) (hn : PySem.W.findIn X.K (.ref Cl) "__ne__" = some (some (.builtin "object.__ne__"))) (hm : PySem.W.mroIn X.K Cl (.type "object") = some true)
    (ty : ∀ v H, SvOk X.K (Bd C L) H v sv → TyX X.K H v t) (nf : PySem.W.notFirst X.K Cl t = true) (ha : Wk.E X C L δ a n m (Eq (.o (insO Cl gs)))) (hb : Wk.E X C L δ b m k (Eq sv)) (h : ok [.o (insO Cl gs), sv] (Eq (.d (.bool u)))) : T X C L δ (.Compare a [.NotEq] [b] pos) n k (!u) :=
  PT.imp (pt_cmp (pc_neO F gu (hr.mono hk) (E := fun _ _ _ => False) pass0 hn hm ha hb)) fun σ H Q q => eqO_imp (neg := fun b => !b) h ty nf ⟨q.1, fun H2 k1 h1 => ⟨_, rfl, q.2 H2 k1 h1⟩⟩
theorem e_eqO {r : Nat} {ok : List SV → (SV → Prop) → Prop} {sv : SV} {t : Value} {u : Bool} (F : KnM X CX0 l Cl "__eq__" ps (SpV X.K ok)) (gu : X.A.guards = some []) (hr : Room r X.A) (hk : l ≤ r) (ty : ∀ v H, SvOk X.K (Bd C L) H v sv → TyX X.K H v t) (nf : PySem.W.notFirst X.K Cl t = true)
    (ha : Wk.E X C L δ a n m (Eq (.o (insO Cl gs)))) (hb : Wk.E X C L δ b m k (Eq sv)) (h : ok [.o (insO Cl gs), sv] (Eq (.d (.bool u)))) : Ed X C L δ (.Compare a [.Eq] [b] pos) n k (.bool u) :=
  PE.imp (pe_cmp (pc_eqO F gu (hr.mono hk) (E := fun _ _ _ => False) pass0 ha hb)) fun σ H Q q => eqO_imp (neg := fun b => b) h ty nf ⟨q.1, fun H2 k1 h1 => q.2 _ H2 _ k1 h1 rfl (Dv.bl u)⟩
theorem e_neO {r : Nat} {ok : List SV → (SV → Prop) → Prop} {sv : SV} {t : Value} {u : Bool} (F : KnM X CX0 l Cl "__eq__" ps (SpV X.K ok)) (gu : X.A.guards = some []) (hr : Room r X.A) (hk : l + 1 ≤ r) (hn : PySem.W.findIn X.K (.ref Cl) "__ne__" = some (some (.builtin "object.__ne__"))) (hm : PySem.W.mroIn X.K Cl (.type "object") = some true)
    (ty : ∀ v H, SvOk X.K (Bd C L) H v sv → TyX X.K H v t) (nf : PySem.W.notFirst X.K Cl t = true) (ha : Wk.E X C L δ a n m (Eq (.o (insO Cl gs)))) (hb : Wk.E X C L δ b m k (Eq sv)) (h : ok [.o (insO Cl gs), sv] (Eq (.d (.bool u)))) : Ed X C L δ (.Compare a [.NotEq] [b] pos) n k (.bool (!u)) :=
  PE.imp (pe_cmp (pc_neO F gu (hr.mono hk) (E := fun _ _ _ => False) pass0 hn hm ha hb)) fun σ H Q q => eqO_imp (neg := fun b => !b) h ty nf ⟨q.1, fun H2 k1 h1 => q.2 _ H2 _ k1 h1 rfl (Dv.bl _)⟩
theorem e_inO {r : Nat} {ok : List SV → (SV → Prop) → Prop} {sv : SV} {u : Bool} (F : KnM X CX0 l Cl "__contains__" ps (SpV X.K ok)) (gu : X.A.guards = some []) (hr : Room r X.A) (hk : l ≤ r) (ha : Wk.E X C L δ a n m (Eq sv)) (hb : Wk.E X C L δ b m k (Eq (.o (insO Cl gs)))) (h : ok [.o (insO Cl gs), sv] (Eq (.d (.bool u))))
    (hm : behindInMarks .In b = false := by with_unfolding_all rfl) : Ed X C L δ (.Compare a [.In] [b] pos) n k (.bool u) :=
  PE.imp (pe_cmp (pc_inO F gu (hr.mono hk) (E := fun _ _ _ => False) pass0 ha hb) hm) fun σ H Q q => inO_imp (neg := fun b => b) (l := 0) h ⟨q.1, fun H2 k1 h1 => q.2 _ H2 _ k1 h1 rfl (Dv.bl u)⟩
end
end Wk
namespace N0
open PySem PySem.Spec PyProof.Rows L2 Wk
/-- what the top says of the class, for len, in, ==, != -/
structure BkE (K : PySem.W.Frag) (mg : Str → Option Value) (Cl : Addr) : Prop where
  ic : C8.InsC K Cl
  nm : mg "Book" = some (.ref Cl)
  kS : PySem.W.kitOne K (.type "str") (.ref Cl) = some false
  kT : PySem.W.kitOne K (.type "tuple") (.ref Cl) = some false
  fC : PySem.W.notFirst K Cl (.ref Cl) = true
  fS : PySem.W.notFirst K Cl (.type "str") = true
  fT : PySem.W.notFirst K Cl (.type "tuple") = true
  ne : PySem.W.findIn K (.ref Cl) "__ne__" = some (some (.builtin "object.__ne__"))
section
variable {P : Program} {w : World} {K : PySem.W.Frag} {mg : Str → Option Value} {base : Heap} {f : Addr} {fd : FuncData}
/-! __len__ -/
theorem scLn : FnScope ["self"] ["self"] (defScope sLen) := ⟨rfl, rfl, rfl, by decide +kernel, rfl, by decide +kernel, by decide +kernel⟩
def okLn (Cl : Addr) : List SV → (SV → Prop) → Prop := fun ds R => ∃ o : Own, ds = [.o (insO Cl (bookG o))] ∧ R = Eq (.d (.int (o.ns.length : Nat)))
theorem book_len {Cl : Addr} (z : Bt mg) (T : BkT K Cl) (F : Fun K "__len__" "Book.__len__" sLen f fd) : Gd P w K mg base CX0 1 f fd ["self"] (SpV K (okLn Cl)) := by
  refine okV F scLn (fun ds R ⟨_, e, _⟩ => by rw [e]; rfl) fun cdv A outer s H E B ds R fm D0 ⟨o, e1, e2⟩ gu hr hC hw => ?_
  subst e1 e2
  refine r_ret (m := 0) (S := Eq (.d (.int (o.ns.length : Nat)))) hw (e_eq (e_lenT z.len (e_fld (gs := bookG o) (d := .tuple (o.ns.map PyData.str)) T.cl T.nN (e_var 0) rfl)) ?_) fun sv e => e
  rw [List.length_map]
/-! __contains__ of any datum -/
def inB (o : Own) : PD → Bool
  | .str x => decide (x ∈ o.ns)
  | _ => false
def okInA (Cl : Addr) : List SV → (SV → Prop) → Prop := fun ds R => ∃ (o : Own) (d : PD), ds = [.o (insO Cl (bookG o)), .d d] ∧ R = Eq (.d (.bool (inB o d)))
theorem book_inA {Cl : Addr} (z : Bt mg) (T : BkT K Cl) (F : Fun K "__contains__" "Book.__contains__" sIn f fd) : Gd P w K mg base CX0 1 f fd ["self", "x"] (SpV K (okInA Cl)) := by
  refine okV F scIn (fun ds R ⟨_, _, e, _⟩ => by rw [e]; rfl) fun cdv A outer s H E B ds R fm D0 ⟨o, d, e1, e2⟩ gu hr hC hw => ?_
  subst e1 e2
  by_cases hs : isS d = true
  · obtain ⟨x, rfl⟩ : ∃ x, d = .str x := by
      cases d <;> first | exact ⟨_, rfl⟩ | cases hs
    exact r_ret (m := 0) (S := Eq (.d (.bool (decide (x ∈ o.ns))))) hw (e_and (u := true) (v := decide (x ∈ o.ns)) (e_isStr (d := .str x) z (e_var 1)) (fun _ => e_one (e_inT (s := x) (ss := o.ns) (e_var 1) (e_fld (gs := bookG o) (d := .tuple (o.ns.map PyData.str)) T.cl T.nN (e_var 0) rfl)))) fun sv e => e
  · have hf : isS d = false := by simpa using hs
    have hb : inB o d = false := by
      cases d <;> first | rfl | cases hf
    exact r_ret (m := 0) (S := Eq (.d (.bool false))) hw (e_and (u := false) (v := false) (e_eq (e_isStr (d := d) z (e_var 1)) (by rw [hf])) (fun h => by cases h)) fun sv e => by rw [hb]; exact e
/-! __eq__ -/
theorem scEq : FnScope ["self", "other"] ["self", "other"] (defScope sEq) := ⟨rfl, rfl, rfl, by decide +kernel, rfl, by decide +kernel, by decide +kernel⟩
def okEq (Cl : Addr) : List SV → (SV → Prop) → Prop := fun ds R => ∃ o : Own, (∃ o' : Own, ds = [.o (insO Cl (bookG o)), .o (insO Cl (bookG o'))] ∧ R = Eq (.d (.bool (decide (bookT o = bookT o'))))) ∨
  ((∃ d : PD, ds = [.o (insO Cl (bookG o)), .d d] ∧ (tyN d = "str" ∨ tyN d = "tuple")) ∧ R = Eq (.d (.bool false)))
theorem e_eqS2 {X : Cx} {C : Ct} {L : Ls} {δ : Dl} {n m k : Nat} {a b : Expr} {pos : Pos} {s t : Str} (ha : Ed X C L δ a n m (.str s)) (hb : Ed X C L δ b m k (.str t)) : Ed X C L δ (.Compare a [.Eq] [b] pos) n k (.bool (decide (s = t))) := e_cmp op_eq v_eqS (nomark _) ha hb
theorem book_eq {Cl : Addr} (z : Bt mg) (T : BkT K Cl) (U : BkE K mg Cl) (F : Fun K "__eq__" "Book.__eq__" sEq f fd) : Gd P w K mg base CX0 1 f fd ["self", "other"] (SpV K (okEq Cl)) := by
  refine okV F scEq (fun ds R ⟨_, h⟩ => by rcases h with ⟨_, e, _⟩ | ⟨⟨_, e, _⟩, _⟩ <;> rw [e] <;> rfl) fun cdv A outer s H E B ds R fm D0 ⟨o, h⟩ gu hr hC hw => ?_
  rcases h with ⟨o', e1, e2⟩ | ⟨⟨d, e1, hd⟩, e2⟩
  · subst e1 e2
    exact r_ret (m := 0) (S := Eq (.d (.bool (decide (bookT o = bookT o'))))) hw (e_and (u := true) (v := decide (bookT o = bookT o')) (e_isC (sv := .o (insO Cl (bookG o'))) (t := .ref Cl) (ty_ins U.ic) U.ic.me z.isinstance U.nm (e_var 1)) (fun _ => e_one (e_eqS2 (e_fld (gs := bookG o) (d := .str (bookT o)) T.cl T.nT (e_var 0) rfl) (e_fld (gs := bookG o') (d := .str (bookT o')) T.cl T.nT (e_var 1) rfl)))) fun sv e => e
  · subst e1 e2
    have hk : PySem.W.kitOne K (.type (tyN d)) (.ref Cl) = some false := by
      rcases hd with e | e <;> rw [e]
      · exact U.kS
      · exact U.kT
    exact r_ret (m := 0) (S := Eq (.d (.bool false))) hw (e_and (u := false) (v := false) (e_isC (sv := .d d) (t := .type (tyN d)) ty_dat hk z.isinstance U.nm (e_var 1)) (fun h => by cases h)) fun sv e => e
end
end N0
namespace Wk
open PySem PySem.Spec PyProof.Rows L2
section
variable {X : Cx} {C : Ct} {L : Ls} {δ : Dl} {n m k : Nat} {e v : Expr} {pos p1 p2 : Pos} {d : PD} {x : Str}
/-- {} as a datum -/
theorem e_dic0 {es : List (PD × PD)} : Ed X C L δ (.Dict [] [] pos) n n (.dict es) :=
  PE.imp pe_dnewT fun σ H Q ⟨t, q⟩ => fun r nr => by
    have sm := same_new (o := .dT []) nr
    exact q (.ref r) _ _ (.same sm) (t.hold.same sm) rfl (Dv.dic (.inl rfl) (t.hold.fresh nr) upd_same)
/-- {x: v} as a datum, x a text -/
theorem e_dic1 {es : List (PD × PD)} (hk : Ed X C L δ e n n (.str x)) (hv : Ed X C L δ v n n d) : Ed X C L δ (.Dict [some e] [v] pos) n n (.dict es) :=
  PE.imp (pe_disp (pps_cons hk hv pps_nil) rfl rfl (by simp) (Nat.le_of_ble_eq_true rfl)) fun σ H Q ⟨t, q⟩ p np => by
    have sm := same_new (o := .dK []) np
    have np1 : p ∉ Bs C L := fun z => t.hold.fresh np (bs_bd _ z)
    have np2 : p ∉ Bd C L := t.hold.fresh np
    have t1 : At X.K C L δ n σ (upd H p (.dK [])) := t.same sm
    refine ⟨t1, fun u1 H1 s1 a1 g1 r1 w1 => ?_⟩
    subst r1
    cases w1
    refine ⟨t1.go a1 g1, fun w H2 s2 a2 g2 r2 w2 => ?_⟩
    subst r2
    have kk : Keep (Bs C L) (upd H p (.dK [])) H2 := a1.trans a2
    have hp : H2 p = some (.dK []) := kk p _ np1 upd_same
    refine ⟨hp, [(Sum.inr x, w)], rfl, Nat.le_of_ble_eq_true rfl, ?_⟩
    have em : mergeK [] [((Sum.inr x : L2.Key), w)] = [(Sum.inr x, w)] := merge_own _ [] (by simp)
    rw [em]
    have ho : Hold X.K C L n (upd H2 p (.dK [(Sum.inr x, w)])) := g2.off np2 hp
    exact q (.ref p) _ _ (keep_over (.refl _ H) ((Keep.same sm).trans ((kk.wider fun b hb => List.mem_cons_of_mem _ hb).trans (keep_upd List.mem_cons_self))) np) ho rfl (Dv.dic (.inr ⟨_, rfl, List.cons_ne_nil _ _⟩) np2 upd_same)
end
/-! what is written out has room: texts, too -/
mutual
def Ps : PD → Prop
  | .none => True
  | .bool _ => True
  | .int i => i.natAbs.log2 < 1000
  | .str s => ∀ c ∈ s.cps.toList, c < 200
  | .list ds => PsAll ds
  | .tuple ds => PsAll ds
  | .dict _ => False
def PsAll : List PD → Prop
  | [] => True
  | d :: ds => Ps d ∧ PsAll ds
end
mutual
theorem Ps.all : ∀ d : PD, Ps d → PyData.showable d = true ∧ PyData.hasDict d = false ∧ PyData.leavesShort 1001 d = true
  | .none, _ => ⟨rfl, rfl, rfl⟩
  | .bool _, _ => ⟨rfl, rfl, rfl⟩
  | .int i, h => by
    have h1 : i.natAbs.log2 < 1000 := h
    refine ⟨?_, rfl, ?_⟩
    · simp only [PyData.showable]
      exact decide_eq_true (by omega)
    · simp only [PyData.leavesShort, PyData.shown]
      exact decide_eq_true (by rw [PySem.ofString_length]; exact int_text_length_le (by decide) h1)
  | .str s, h => by
    have h1 : ∀ c ∈ s.cps.toList, c < 200 := h
    refine ⟨rfl, rfl, ?_⟩
    simp only [PyData.leavesShort]
    exact List.all_eq_true.mpr fun c hc => decide_eq_true (Nat.lt_trans (h1 c hc) (by decide))
  | .list ds, h => by
    obtain ⟨a, b, c⟩ := PsAll.all ds h
    exact ⟨by simp only [PyData.showable]; exact a, by simp only [PyData.hasDict]; exact b, by simp only [PyData.leavesShort]; exact c⟩
  | .tuple ds, h => by
    obtain ⟨a, b, c⟩ := PsAll.all ds h
    exact ⟨by simp only [PyData.showable]; exact a, by simp only [PyData.hasDict]; exact b, by simp only [PyData.leavesShort]; exact c⟩
  | .dict _, h => False.elim h
theorem PsAll.all : ∀ ds : List PD, PsAll ds → PyData.showableAll ds = true ∧ PyData.hasDictAll ds = false ∧ PyData.leavesShortAll 1001 ds = true
  | [], _ => ⟨rfl, rfl, rfl⟩
  | d :: ds, h => by
    obtain ⟨a, b, c⟩ := Ps.all d h.1
    obtain ⟨a', b', c'⟩ := PsAll.all ds h.2
    refine ⟨?_, ?_, ?_⟩
    · simp only [PyData.showableAll, a, a', Bool.and_self]
    · simp only [PyData.hasDictAll, b, b', Bool.or_self]
    · simp only [PyData.leavesShortAll, c, c', Bool.and_self]
end
theorem showyS {d : PD} (h : Ps d) (hb : d.bulk ≤ 16000) (hd : d.depth ≤ 62) : Showy d := by
  obtain ⟨a, b, c⟩ := Ps.all d h
  refine ⟨a, b, ?_, hd⟩
  have := PyData.shown_le_bulk 1001 (by decide) d c
  rw [sizeLine_eq]
  omega
theorem PsAll.of : ∀ {ds : List PD}, (∀ d ∈ ds, Ps d) → PsAll ds
  | [], _ => trivial
  | d :: ds, h => ⟨h d List.mem_cons_self, PsAll.of fun e he => h e (List.mem_cons_of_mem _ he)⟩
end Wk
namespace N0
open PySem PySem.Spec PyProof.Rows L2 Wk
/-! ### what a book's text and data are made of -/
def Asc (s : Str) : Prop := ∀ c ∈ s.cps.toList, c < 200
theorem asc_app {s t : Str} (h : Asc s) (g : Asc t) : Asc (s ++ t) := fun c hc => by
  rw [str_app] at hc
  exact (List.mem_append.mp hc).elim (h c) (g c)
theorem asc_join {sp : Str} {ss : List Str} (h : Asc sp) (g : ∀ s ∈ ss, Asc s) : Asc (Txt.join sp ss) := fun c hc => by
  rcases join_mem hc with q | ⟨s, hs, q⟩
  · exact h c q
  · exact g s hs c q
theorem asc_nm {s : Str} (h : Nm s) : Asc s := fun c hc => by
  have := h.2.2.1 c hc
  omega
theorem asc_lit {s : Str} (h : ∀ c ∈ s.cps.toList, c < 200 := by decide +kernel) : Asc s := h
theorem asc_mo {m : Nat} (h : m < 8) : Asc (toString ((m : Nat) : Int) : Str) := by
  have : ∀ m : Nat, m < 8 → ∀ c ∈ (toString ((m : Nat) : Int) : Str).cps.toList, c < 200 := by decide +kernel
  exact this m h
theorem asc_cell {o : Own} (ho : OwnOk o) {d : PD} (hd : CellOk o.s o.ns.length d) : Asc (cellT o d) := by
  rcases hd with rfl | rfl | ⟨a, m, rfl, ha, hm⟩
  · exact (show ∀ c ∈ ("." : Str).cps.toList, c < 200 by decide +kernel)
  · exact (show ∀ c ∈ ("#" : Str).cps.toList, c < 200 by decide +kernel)
  · rw [cellT_at]
    refine asc_app (asc_nm (ho.ns.ok _ (by simp [ha]))) ?_
    split
    · exact asc_app (show ∀ c ∈ ("/" : Str).cps.toList, c < 200 by decide +kernel) (asc_mo (mo_lt hm))
    · exact fun c hc => absurd hc List.not_mem_nil
theorem asc_head {s b : Nat} (hs : s = 1 ∨ s = 2) (h2 : 2 ≤ b) (h4 : b ≤ 4) : Asc (headOf s b) :=
  combos (p := fun s b => ∀ c ∈ (headOf s b).cps.toList, c < 200) hs h2 h4 (by decide +kernel)
theorem asc_book {o : Own} (ho : OwnOk o) : Asc (bookT o) := by
  refine asc_join (show ∀ c ∈ ("\n" : Str).cps.toList, c < 200 by decide +kernel) fun s hs => ?_
  rcases List.mem_cons.mp (show s ∈ head o :: ((o.ns.zip o.bl).take o.ns.length).flatMap (kindT o) from hs) with e | h
  · rw [e]
    exact asc_head (s := o.s) (b := o.b) ho.s ho.b.1 ho.b.2
  · obtain ⟨z, hz, h⟩ := List.mem_flatMap.mp h
    have hz2 := List.mem_of_mem_take hz
    obtain ⟨nm, bs⟩ := z
    have hn := (List.of_mem_zip hz2).1
    have hb := ho.bl bs (List.of_mem_zip hz2).2
    rcases List.mem_cons.mp (show s ∈ (("kind " : Str) ++ nm) :: rows o bs from h) with e | h
    · rw [e]
      exact asc_app (show ∀ c ∈ ("kind " : Str).cps.toList, c < 200 by decide +kernel) (asc_nm (ho.ns.ok nm hn))
    · obtain ⟨r, _, rfl⟩ := List.mem_map.mp h
      refine asc_join (show ∀ c ∈ (" " : Str).cps.toList, c < 200 by decide +kernel) fun t ht => ?_
      obtain ⟨d, hd, rfl⟩ := List.mem_map.mp (take_sub ht)
      exact asc_cell ho (hb.2 d hd)
/-- what the law holds against the book -/
def dueD (o : Own) : PD := .list [.str (bookT o), .int (o.s : Nat), .int (o.b : Nat), .tuple (o.ns.map PyData.str), .tuple (o.bl.map PyData.tuple), .int (o.ns.length : Nat)]
theorem bulk_le {c : Nat} : ∀ {ds : List PD}, (∀ d ∈ ds, d.bulk ≤ c) → PyData.bulkAll ds ≤ ds.length * (c + 1)
  | [], _ => Nat.zero_le _
  | d :: ds, h => by
    have h1 := h d List.mem_cons_self
    have h2 := bulk_le (ds := ds) fun e he => h e (List.mem_cons_of_mem _ he)
    show d.bulk + 1 + PyData.bulkAll ds ≤ _
    rw [List.length_cons, Nat.succ_mul]
    omega
theorem depth_le {c : Nat} : ∀ {ds : List PD}, (∀ d ∈ ds, d.depth ≤ c) → PyData.depthAll ds ≤ c
  | [], _ => Nat.zero_le _
  | d :: ds, h => by
    have h1 := h d List.mem_cons_self
    have h2 := depth_le (ds := ds) fun e he => h e (List.mem_cons_of_mem _ he)
    show max d.depth (PyData.depthAll ds) ≤ c
    exact Nat.max_le.mpr ⟨h1, h2⟩
theorem cell_b {s k : Nat} {d : PD} (h : CellOk s k d) : d.bulk ≤ 4 ∧ d.depth ≤ 1 := by
  rcases h with rfl | rfl | ⟨a, m, rfl, _, _⟩
  · exact ⟨Nat.zero_le _, Nat.zero_le _⟩
  · exact ⟨by decide +kernel, by decide +kernel⟩
  · exact ⟨Nat.le_of_ble_eq_true rfl, Nat.le_of_ble_eq_true rfl⟩
theorem cell_ps {s k : Nat} (hs : s = 1 ∨ s = 2) (hk : k ≤ 8) {d : PD} (h : CellOk s k d) : Ps d := by
  rcases h with rfl | rfl | ⟨a, m, rfl, ha, hm⟩
  · trivial
  · exact (show ∀ c ∈ ("full" : Str).cps.toList, c < 200 by decide +kernel)
  · have := mo_lt hm
    exact ⟨log_small (by rw [Int.natAbs_natCast]; exact Nat.lt_of_lt_of_le (by omega : a < 8) (by decide)), log_small (by rw [Int.natAbs_natCast]; exact Nat.lt_of_lt_of_le this (by decide)), trivial⟩
end N0
namespace N0
open PySem PySem.Spec PyProof.Rows L2 Wk
theorem size16 {o : Own} (ho : OwnOk o) : size o.s o.b ≤ 16 := by
  have hb4 := ho.b
  unfold size
  split
  · omega
  · exact Nat.le_trans (Nat.mul_le_mul hb4.2 hb4.2) (by decide)
theorem showy_due {o : Own} (ho : OwnOk o) : Showy (dueD o) := by
  have hk := ho.k
  have hb := ho.b
  have hs : o.s ≤ 2 := by rcases ho.s with h | h <;> omega
  have hsz := size16 ho
  have hbt := bookT_len ho
  have nlog : ∀ i : Nat, i ≤ 8 → (((i : Nat) : Int)).natAbs.log2 < 1000 := fun i hi => log_small (by rw [Int.natAbs_natCast]; exact Nat.lt_of_le_of_lt hi (by decide))
  have pn : PsAll (o.ns.map PyData.str) := PsAll.of fun d hd => by
    obtain ⟨x, hx, rfl⟩ := List.mem_map.mp hd
    exact asc_nm (ho.ns.ok x hx)
  have pb : PsAll (o.bl.map PyData.tuple) := PsAll.of fun d hd => by
    obtain ⟨bs, hx, rfl⟩ := List.mem_map.mp hd
    exact PsAll.of (ds := bs) fun e he => cell_ps ho.s hk.2 ((ho.bl bs hx).2 e he)
  have bn : PyData.bulkAll (o.ns.map PyData.str) ≤ 8 * 9 := by
    refine Nat.le_trans (bulk_le (c := 8) fun d hd => ?_) (by rw [List.length_map]; omega)
    obtain ⟨x, hx, rfl⟩ := List.mem_map.mp hd
    exact (ho.ns.ok x hx).2.1
  have bb : PyData.bulkAll (o.bl.map PyData.tuple) ≤ 8 * 81 := by
    refine Nat.le_trans (bulk_le (c := 80) fun d hd => ?_) (by rw [List.length_map, ho.len]; omega)
    obtain ⟨bs, hx, rfl⟩ := List.mem_map.mp hd
    have h1 := bulk_le (c := 4) (ds := bs) fun e he => (cell_b ((ho.bl bs hx).2 e he)).1
    have h2 := (ho.bl bs hx).1
    show PyData.bulkAll bs ≤ 80
    omega
  have dn : PyData.depthAll (o.ns.map PyData.str) ≤ 0 := depth_le fun d hd => by
    obtain ⟨x, hx, rfl⟩ := List.mem_map.mp hd
    exact Nat.le_refl _
  have db : PyData.depthAll (o.bl.map PyData.tuple) ≤ 2 := depth_le fun d hd => by
    obtain ⟨bs, hx, rfl⟩ := List.mem_map.mp hd
    have h1 := depth_le (c := 1) (ds := bs) fun e he => (cell_b ((ho.bl bs hx).2 e he)).2
    show PyData.depthAll bs + 1 ≤ 2
    omega
  refine showyS ⟨asc_book ho, nlog _ (by omega), nlog _ (by omega), pn, pb, nlog _ (by omega), trivial⟩ ?_ ?_
  · show (bookT o).cps.size + 1 + (0 + 1 + (0 + 1 + (PyData.bulkAll (o.ns.map PyData.str) + 1 + (PyData.bulkAll (o.bl.map PyData.tuple) + 1 + (0 + 1 + 0))))) ≤ 16000
    have e : (bookT o).cps.size = (bookT o).length := rfl
    omega
  · show max 0 (max 0 (max 0 (max (PyData.depthAll (o.ns.map PyData.str) + 1) (max (PyData.depthAll (o.bl.map PyData.tuple) + 1) (max 0 0))))) + 1 ≤ 62
    omega
section
variable {P : Program} {w : World} {K : PySem.W.Frag} {mg : Str → Option Value} {base : Heap} {f : Addr} {fd : FuncData}
/-! _law_is_told -/
theorem sc37 : FnScope ["own", "book", "text", "blocks", "due", "block"] ["own", "book", "text"] (defScope (topS 37)) := ⟨rfl, rfl, rfl, by decide +kernel, rfl, by decide +kernel, by decide +kernel⟩
def okTold (Cl : Addr) : List SV → (SV → Prop) → Prop := fun ds R => ∃ o : Own, OwnOk o ∧ ds = [.o (Own.ob o), .o (insO Cl (bookG o)), .d (.str (bookT o))] ∧ R = Eq (.d (.bool true))
theorem law_is_told {Cl : Addr} (z : Bt mg) (T : BkT K Cl) (hL : KnwM P w K mg base CX0 1 Cl "__len__" ["self"] (SpV K (okLn Cl))) (F : Fun K "_law_is_told" "_law_is_told" (topS 37) f fd) : Gd P w K mg base CX0 3 f fd ["own", "book", "text"] (SpV K (okTold Cl)) := by
  refine okV F sc37 (fun ds R ⟨_, _, e, _⟩ => by rw [e]; rfl) fun cdv A outer s H E B ds R fm D0 ⟨o, ho, e1, e2⟩ gu hr hC hw => ?_
  subst e1 e2
  have hk := ho.k
  refine r_set (m := 0) 3 (sv := .d (.tuple (o.bl.map PyData.tuple))) (e_tupleL z.tuple (e_lcM (i := 5) (l := o.bl) (g := PyData.list) PyData.tuple rfl sc37.nd (i_list (e_dget hr (e_var 0) (find_blocks o))) (blkOk_by (own := [("block", 5)]) (N := ["own", "book", "text", "blocks", "due", "block"]) (sc := defScope (topS 37)) (by decide +kernel)) (fun _ _ _ _ _ => g_name 5 sc37.nd) (fun _ _ _ _ _ _ _ _ _ => e_tupleL z.tuple (e_var 5)) (by rw [ho.len]; omega))) ?_ sc37.nd
  refine r_set (m := 0) 4 (sv := .d (dueD o)) (e_lst (a_cons (e_var 2) (a_cons (e_dget hr (e_var 0) (find_sides o)) (a_cons (e_dget hr (e_var 0) (find_base o)) (a_cons (e_tupleL z.tuple (e_dget hr (e_var 0) (find_names o))) (a_cons (e_var 3) (a_cons (e_eq (e_lenL z.len (e_dget hr (e_var 0) (find_names o))) (by rw [List.length_map])) a_nil))))))) ?_ sc37.nd
  refine r_ret (m := 0) (S := Eq (.d (.bool true))) hw (e_eq (e_eqS2 (s := (dueD o).shown) (t := (dueD o).shown) (e_repr z gu hr (showy_due ho) (e_lst (a_cons (e_fld (gs := bookG o) (d := .str (bookT o)) T.cl T.nT (e_var 1) rfl) (a_cons (e_fld (gs := bookG o) (d := .int (o.s : Nat)) T.cl T.nS (e_var 1) rfl) (a_cons (e_fld (gs := bookG o) (d := .int (o.b : Nat)) T.cl T.nB (e_var 1) rfl)
    (a_cons (e_fld (gs := bookG o) (d := .tuple (o.ns.map PyData.str)) T.cl T.nN (e_var 1) rfl) (a_cons (e_fld (gs := bookG o) (d := .tuple (o.bl.map PyData.tuple)) T.cl T.nK (e_var 1) rfl) (a_cons (e_lenO (i := ((o.ns.length : Nat) : Int)) hL gu hr (by decide) ⟨by omega, by omega⟩ ⟨o, rfl, rfl⟩ z.len (e_var 1)) a_nil)))))))) (e_repr z gu hr (showy_due ho) (e_var 4))) ?_) fun sv e => e
  rw [decide_eq_true rfl]
end
end N0
namespace Wk
open PySem PySem.Spec PyProof.Rows L2
section
variable {X : Cx} {F : Fm} {L : Ls} {δ : Dl} {n m k : Nat} {D0 : Ends} {rest : List Stmt} {x y : Str} {pos p q : Pos} {a b : Expr}
/-- a, b = e, f, through a pair -/
theorem r_pairSV {R : List SV → Prop} {px py pt pt2 : Pos} {kt k2 : Nat} (i j : Nat) (hc : X.calm = true) (hN : X.N.Nodup) (ha : Ar X F.C L δ [a, b] n m R)
    (g : ∀ svs, R svs → ∃ u v, svs = [u, v] ∧ Bk X F ⟨L, (δ.set i (some u)).set j (some v), m⟩ D0 rest)
    (hi : X.N[i]? = some x := by rfl) (hj : X.N[j]? = some y := by rfl) (hx : Loc X.env.scope x := by first | exact Or.inl rfl | exact Or.inr rfl) (hy : Loc X.env.scope y := by first | exact Or.inl rfl | exact Or.inr rfl)
    (hf : X.fn x = true ∨ X.env.scope.names.lookup x = some .local := by first | exact .inl rfl | exact .inr rfl) (hf2 : X.fn y = true ∨ X.env.scope.names.lookup y = some .local := by first | exact .inl rfl | exact .inr rfl)
    (hw : swappedStores [.Tuple [.Name x px, .Name y py] kt pt] (.Tuple [a, b] k2 pt2) X.env = pure none := by rfl) (hs : swapsWithSole [.Tuple [.Name x px, .Name y py] kt pt] (.Tuple [a, b] k2 pt2) pos.line X.env = pure false := by rfl)
    (ha1 : ((assignEach [.Name x px, .Name y py] X.env).map (·.2)) = assign (.Name x px) X.env :: ((assignEach [.Name y py] X.env).map (·.2)) := by rfl) (ha2 : ((assignEach [.Name y py] X.env).map (·.2)) = assign (.Name y py) X.env :: ((assignEach [] X.env).map (·.2)) := by rfl)
    (hn : (assignEach [.Name x px, .Name y py] X.env).length = 2 := by rfl) (hst : (assignEach [.Name x px, .Name y py] X.env).findIdx? (·.1) = none := by rfl) (h1 : (assignEach [.Tuple [.Name x px, .Name y py] kt pt] X.env).map (·.2) = [assign (.Tuple [.Name x px, .Name y py] kt pt) X.env] := by rfl) :
    Bk X F ⟨L, δ, n⟩ D0 (.Assign [.Tuple [.Name x px, .Name y py] kt pt] (.Tuple [a, b] k2 pt2) pos :: rest) := by
  have hT : PE X (.Tuple [a, b] k2 pt2) _ := pe_tup ha
  have hG : PG X (.Tuple [.Name x px, .Name y py] kt pt) _ := pg_tup hc (pgs_cons (pg_name hN hi hx hf) (pgs_cons (pg_name hN hj hy hf2) pgs_nil ha2) ha1) hn hst
  refine r_cons (fun c' => Bk X F c' D0 rest) (PS.imp (ps_asg hT hG hs hw h1) fun D σ H ⟨le, ii⟩ => ⟨ii.at_, fun vs H2 svs k1 g1 r1 s1 => ?_⟩) fun c' h => h
  obtain ⟨u, v, rfl, hb⟩ := g svs r1
  cases s1 with
  | @cons w1 ws _ _ s1 s2 =>
    cases s2 with
    | @cons w2 ws2 _ _ s2 s3 =>
      cases s3
      refine ⟨(by show 2 ≤ sizeLine; decide), fun t nt => ?_⟩
      have sm := same_new (o := .tup [w1, w2]) nt
      have i2 := (ii.go k1 g1).same sm
      exact ⟨t, _, rfl, .inl (.inl upd_same), rfl, _, _, rfl, _, _, rfl, rfl, le.nx _ _ ⟨_, hb, i2.slots ⟨(i2.at_.sl.set (s1.keep (.same sm))).set (s2.keep (.same sm)), i2.at_.hold⟩⟩⟩
end
section
variable {X : Cx} {C : Ct} {L : Ls} {δ : Dl} {n m k : Nat} {e : Expr} {es : List Expr} {pos p : Pos} {x : Str} {ps : List Str}
/-- a call of a pure def whose arguments are drawn -/
theorem e_callVR {r : Nat} {ok : List SV → (SV → Prop) → Prop} {RA : List SV → Prop} {S : SV → Prop} (F : Kn X CX0 k x ps (SpV X.K ok)) (gu : X.A.guards = some []) (hr : Room r X.A) (hk : k ≤ r) (ha : Ar X C L δ (e :: es) n m RA) (h : ∀ svs, RA svs → ∃ R, ok svs R ∧ ∀ d, R d → S d) (hg : Gl X x := by rfl)
    (hdb : (x == ("__debug__" : Str)) = false := by decide) (he : starEach (e :: es) X.env = (false, eval e X.env) :: starEach es X.env := by rfl) (hpl : (backTo pos (starEach es X.env)).any (·.1) = false := by rfl) :
    E X C L δ (.Call (.Name x p) (e :: es) [] pos) n m S :=
  PE.imp (pe_callG F gu (hr.mono hk) hg pass0 ha hdb he hpl) fun σ H Q ⟨t, q⟩ => ⟨t, fun vs H2 svs k1 h1 e1 s1 => by
    obtain ⟨R, hok, himp⟩ := h svs e1
    exact ⟨Bd C L, svs, R, fun b hb => h1.known hb, s1, hok, fun v H3 d sm hd g => q v H3 d (k1.trans (.same sm)) (h1.same sm) (himp d hd) g⟩⟩
/-- any of nothing but False -/
theorem e_anyF (hc : X.calm = true) (hm : X.mg "any" = none) (h : E X C L δ e n m (fun sv => ∃ ds, sv = .d (.list ds) ∧ ∀ d ∈ ds, d = .bool false)) (hg : Gl X "any" := by rfl) (he : starEach [e] X.env = (false, eval e X.env) :: starEach [] X.env := by rfl) : Ed X C L δ (.Call (.Name "any" p) [e] [] pos) n m (.bool false) :=
  e_callB (cr_any hc) (fun vs svs H Q h1 e1 s1 q => by
    obtain ⟨sv, rest, rfl, ⟨ds, rfl, hd⟩, rfl⟩ := e1
    obtain ⟨v, rfl, g⟩ := DvAll.one (d := .list ds) s1
    have ed : ds = (List.replicate ds.length false).map PyData.bool := by
      rw [List.map_replicate]
      exact List.eq_replicate_iff.mpr ⟨rfl, hd⟩
    cases g with
    | lst r g =>
      rw [ed] at g
      have e := g.bools
      subst e
      have ea : (List.replicate ds.length false).any id = false := by simp
      refine ⟨_, List.replicate ds.length false, rfl, r.sq, ?_⟩
      rw [ea]
      exact q _ H _ (.refl H) rfl (Dv.bl _)) hm (by decide +kernel) (ar_cons h ar_nil he) hg (he := he)
end
end Wk
namespace N0
open PySem PySem.Spec PyProof.Rows L2 Wk
theorem e_inL {X : Cx} {C : Ct} {L : Ls} {δ : Dl} {n m k : Nat} {a b : Expr} {pos : Pos} {s : Str} {ss : List Str} (ha : Ed X C L δ a n m (.str s)) (hb : Ed X C L δ b m k (.list (ss.map PyData.str))) (hm : behindInMarks .In b = false := by with_unfolding_all rfl) : Ed X C L δ (.Compare a [.In] [b] pos) n k (.bool (decide (s ∈ ss))) := e_cmp op_in_seq v_inL hm ha hb
theorem e_notL {X : Cx} {C : Ct} {L : Ls} {δ : Dl} {n m k : Nat} {a b : Expr} {pos : Pos} {s : Str} {ss : List Str} (ha : Ed X C L δ a n m (.str s)) (hb : Ed X C L δ b m k (.list (ss.map PyData.str))) (hm : behindInMarks .NotIn b = false := by with_unfolding_all rfl) : Ed X C L δ (.Compare a [.NotIn] [b] pos) n k (.bool (!decide (s ∈ ss))) := e_cmp op_notIn_seq v_notL hm ha hb
section
variable {P : Program} {w : World} {K : PySem.W.Frag} {mg : Str → Option Value} {base : Heap} {f : Addr} {fd : FuncData}
theorem sc38 : FnScope ["pot", "own", "text", "book", "other", "words", "some", "again", "late", "word", "value"] ["pot"] (defScope (topS 38)) := ⟨rfl, rfl, rfl, by decide +kernel, rfl, by decide +kernel, by decide +kernel⟩
def okRight : List PD → Nat → (PD → Prop) → Prop := fun ds c R => ds = [] ∧ c = 3000 ∧ R = fun d => d = .bool true
/-- names that come on top of Bt's -/
theorem law_right {Cl : Addr} (z : Bt mg) (hany : mg "any" = none) (U : BkE K mg Cl) (hTk : Knw P w K mg base CX0 1 "_law_take" ["pot", "upto"] (SpQ K okTake)) (hSm : Knw P w K mg base CX0 2 "_law_some" ["pot", "pool", "many"] (SpQ K okSome))
    (hDb : Knw P w K mg base CX0 5 "_law_drawn_book" ["pot"] (SpW K okDB)) (hTx : Knw P w K mg base CX0 2 "_law_book_text" ["own"] (SpV K okText)) (hTold : Knw P w K mg base CX0 3 "_law_is_told" ["own", "book", "text"] (SpV K (okTold Cl)))
    (hBook : KnwC P w K mg base CX0 6 "Book" Cl ["self", "text"] (SpI K Cl okBook)) (hIn : KnwM P w K mg base CX0 1 Cl "__contains__" ["self", "x"] (SpV K (okInA Cl))) (hEq : KnwM P w K mg base CX0 1 Cl "__eq__" ["self", "other"] (SpV K (okEq Cl)))
    (F : Fun K "_law_right" "_law_right" (topS 38) f fd) : Gd P w K mg base CX0 8 f fd ["pot"] (SpQ K okRight) := by
  refine okQ F sc38 (fun ds c R ⟨e, _, _⟩ => by rw [e]; rfl) fun cdv A outer s H E p B ds c R n fm D0 ⟨e1, e2, e3⟩ hz gu hr hC hw => ?_
  subst e1 e2 e3
  have hP : fm.C.P = some p := by rw [hC]
  refine r_setR (m := n + 1003) (R := fun sv => ∃ o, sv = .o (Own.ob o) ∧ OwnOk o) 1 (e_callW hDb gu hr (by decide) hP (e_var 0) ad_nil ⟨rfl, rfl, rfl⟩ (by omega)) (fun sv ⟨o, e, ho⟩ => ?_) sc38.nd
  subst e
  have hk := ho.k
  refine r_set (m := n + 1003) 2 (sv := .d (.str (bookT o))) (e_callV hTx gu hr (by decide) (ad_cons (e_var 1) ad_nil) ⟨o, rfl, ho, rfl⟩) ?_ sc38.nd
  refine r_pairSV (m := n + 1003 + 1 + 1003) 3 4 (R := fun svs => ∃ o2, OwnOk o2 ∧ svs = [.o (insO Cl (bookG o)), .d (.str (bookT o2))]) rfl sc38.nd
    (PA.imp (ar_cons (e_make hBook gu hr (by decide) (a_cons (e_var 2) a_nil) ⟨o, ho, rfl, rfl⟩) (ar_cons (e_ifX (S := fun sv => ∃ o2, OwnOk o2 ∧ sv = .d (.str (bookT o2))) (x_gtI (e_callQ hTk gu hr (by decide) hP (e_var 0) (a_cons e_int a_nil) ⟨3, rfl, by decide, by decide +kernel, rfl, rfl⟩ (by omega)) e_int)
      (fun _ => e_callVR hTx gu hr (by decide) (ar_cons (e_callW hDb gu hr (by decide) hP (e_var 0) ad_nil ⟨rfl, rfl, rfl⟩ (by omega)) ar_nil) fun svs h => by
        obtain ⟨_, _, rfl, ⟨o2, rfl, h2⟩, rfl⟩ := h
        exact ⟨_, ⟨o2, rfl, h2, rfl⟩, fun d hd => ⟨o2, h2, hd.symm⟩⟩) (fun _ => e_mono (e_imp (e_var 2) fun sv e => ⟨o, ho, e.symm⟩) (by omega))) ar_nil)) fun σ H Q ⟨t, q⟩ => ⟨t, fun vs H2 svs k1 h1 r1 s1 => by
        obtain ⟨_, _, rfl, rfl, _, _, rfl, ⟨o2, h2, rfl⟩, rfl⟩ := r1
        exact q vs H2 _ k1 h1 ⟨o2, h2, rfl⟩ s1⟩) (fun svs ⟨o2, ho2, e⟩ => ⟨_, _, e, ?_⟩)
  have hn0 : Nm (o.ns.getD 0 "") := ho.ns.ok _ (by
    have : 0 < o.ns.length := by omega
    simp [List.getD, this])
  have hnl : Nm (o.ns.getD (o.ns.length - 1) "") := ho.ns.ok _ (by
    have : o.ns.length - 1 < o.ns.length := by omega
    simp [List.getD, this])
  have h0 : atI (o.ns.map PyData.str) ((0 : Nat) : Int) = some (.str (o.ns.getD 0 "")) := atI_nat (by
    have : 0 < o.ns.length := by omega
    rw [List.getElem?_map, List.getElem?_eq_getElem this]
    simp [List.getD, this])
  have hl : atI (o.ns.map PyData.str) (-1) = some (.str (o.ns.getD (o.ns.length - 1) "")) := by
    have lt : o.ns.length - 1 < o.ns.length := by omega
    unfold atI ixN
    rw [if_neg (by decide), if_pos (by rw [List.length_map]; omega)]
    have e : (-1 + (((o.ns.map PyData.str).length : Nat) : Int)).toNat = o.ns.length - 1 := by
      rw [List.length_map]
      omega
    rw [e]
    show (o.ns.map PyData.str)[o.ns.length - 1]? = _
    rw [List.getElem?_map, List.getElem?_eq_getElem lt]
    simp [List.getD, lt]
  generalize hb0 : o.ns.getD 0 "" = n0 at *
  generalize hbl : o.ns.getD (o.ns.length - 1) "" = nl at *
  have z0 : n0.length ≤ 8 := hn0.2.1
  have lx : ("x" : Str).length = 1 := by decide +kernel
  have l1 : ("/1" : Str).length = 2 := by decide +kernel
  have zl : nl.length ≤ 8 := hnl.2.1
  refine r_set (m := n + 1003 + 1 + 1003) 5 (sv := .d (.list ((o.ns ++ [n0 ++ "x", cutS nl none (some (-1)), "", "A", "kind", ".", n0 ++ "/1"]).map PyData.str)))
    (e_eq (e_catD (ds := o.ns.map PyData.str) (fs := [.str (n0 ++ "x"), .str (cutS nl none (some (-1))), .str "", .str "A", .str "kind", .str ".", .str (n0 ++ "/1")]) (e_dget hr (e_var 1) (find_names o))
      (e_lst (a_cons (e_addS (e_ixL (e_dget hr (e_var 1) (find_names o)) (e_int (i := 0)) h0) e_str (by omega))
        (a_cons (e_slS (by omega) (e_ixL (e_dget hr (e_var 1) (find_names o)) (e_neg (e_int (i := 1))) hl) (e_neg (e_int (i := 1))))
        (a_cons e_str (a_cons e_str (a_cons e_str (a_cons e_str (a_cons (e_addS (e_ixL (e_dget hr (e_var 1) (find_names o)) (e_int (i := 0)) h0) e_str (by omega)) a_nil)))))))) (by rw [List.length_map]; show _ + 7 ≤ _; omega)) (by rw [List.map_append]; rfl)) ?_ sc38.nd
  generalize hws : o.ns ++ [n0 ++ "x", cutS nl none (some (-1)), "", "A", "kind", ".", n0 ++ "/1"] = ws
  have wz : ws.length ≤ 20 := by
    rw [← hws, List.length_append]
    show _ + 7 ≤ _
    omega
  refine r_ifF (m := n + 1003 + 1 + 1003) (u := false) (t_of (w_or (u := false) (v := false) (t_not (u := true) (t_val (e_callV hTold gu hr (by decide) (ad_cons (e_var 1) (ad_cons (e_var 3) (ad_cons (e_var 2) ad_nil))) ⟨o, ho, rfl, rfl⟩))) (fun _ => w_or1 (t_val (e_anyF rfl hany (e_imp (e_lcM (i := 9) (l := ws) (g := PyData.str) (fun _ => .bool false) rfl sc38.nd (i_list (e_var 5))
    (blkOk_by (own := [("word", 9)]) (N := ["pot", "own", "text", "book", "other", "words", "some", "again", "late", "word", "value"]) (sc := defScope (topS 38)) (by decide +kernel)) (fun _ _ _ _ _ => g_name 9 sc38.nd) (fun s' H' Cc cl fp D acc x hx => ?_) (by omega)) fun sv e => ⟨_, e.symm, fun d hd => ?_⟩)))))) rfl ?_
  · refine e_eq (e_neB (u := inB o (.str x)) (v := decide (x ∈ o.ns)) (e_inO hIn gu hr (by decide) (e_var 9) (e_var 3) ⟨o, _, rfl, rfl⟩) (e_inL (e_var 9) (e_dget hr (e_var 1) (find_names o)))) ?_
    show PyData.bool (decide (x ∈ o.ns) != decide (x ∈ o.ns)) = _
    rw [bne_self_eq_false]
  · obtain ⟨_, _, rfl⟩ := List.mem_map.mp hd
    rfl
  generalize hM : n + 1003 + 1 + 1003 = M at *
  refine r_set (m := M) 6 (sv := .d (.list [.none, .bool true, .int 0, .tuple [], .tuple [.str n0], .list [.str n0], .dict [], .dict [], .str "full"])) (e_lst (a_cons e_non (a_cons e_bl (a_cons e_int (a_cons (e_tup a_nil) (a_cons (e_tup (a_cons (e_ixL (e_dget hr (e_var 1) (find_names o)) (e_int (i := 0)) h0) a_nil))
    (a_cons (e_lst (a_cons (e_ixL (e_dget hr (e_var 1) (find_names o)) (e_int (i := 0)) h0) a_nil)) (a_cons e_dic0 (a_cons (e_dic1 (e_ixL (e_dget hr (e_var 1) (find_names o)) (e_int (i := 0)) h0) e_int) (a_cons e_str a_nil)))))))))) ?_ sc38.nd
  refine r_ifF (m := M + 4 + 4 * 0) (u := false) (t_val (e_anyF rfl hany (e_imp (e_lcX (i := 10) (m := M + 4) 4 0 (Rd := fun ds => ds.length = 4) (S := fun e => e = .bool false) rfl sc38.nd
    (i_listX (e_imp (e_callQ hSm gu hr (by decide) hP (e_var 0) (a_cons (e_var 6) (a_cons e_int a_nil)) ⟨[.none, .bool true, .int 0, .tuple [], .tuple [.str n0], .list [.str n0], .dict [], .dict [], .str "full"], 4, rfl, Nat.le_of_ble_eq_true rfl, Nat.le_of_ble_eq_true rfl, rfl, rfl⟩ (by omega)) (fun sv ⟨d, e, fs, ls, e2, _, hl⟩ => ⟨fs, by rw [e, e2], hl⟩)))
    (blkOk_by (own := [("value", 10)]) (N := ["pot", "own", "text", "book", "other", "words", "some", "again", "late", "word", "value"]) (sc := defScope (topS 38)) (by decide +kernel)) (fun _ _ _ _ _ => g_name 10 sc38.nd) (fun s' H' Cc cl fp D acc j d hj => ?_) (fun ds h => by rw [h]; exact Nat.le_refl _) (by decide)) fun sv ⟨es, ds, e, _, _, h⟩ => ⟨es, e, h⟩))) rfl ?_
  · rw [Nat.mul_zero, Nat.mul_zero]
    by_cases hs : isS d = true
    · obtain ⟨x, rfl⟩ : ∃ x, d = .str x := by
        cases d <;> first | exact ⟨_, rfl⟩ | cases hs
      refine e_imp (R := Eq (SV.d (.bool false))) ?_ fun sv e => ⟨_, e.symm, rfl⟩
      refine e_eq (e_and (u := inB o (.str x)) (v := !decide (x ∈ o.ns)) (e_inO hIn gu hr (by decide) (e_var 10) (e_var 3) ⟨o, _, rfl, rfl⟩) (fun _ => e_one (e_notL (e_var 10) (e_dget hr (e_var 1) (find_names o))))) ?_
      show PyData.bool (decide (x ∈ o.ns) && !decide (x ∈ o.ns)) = _
      rw [Bool.and_not_self]
    · have hf : isS d = false := by simpa using hs
      have hb : inB o d = false := by
        cases d <;> first | rfl | cases hf
      exact e_imp (e_and (u := false) (v := false) (e_inO (u := false) hIn gu hr (by decide) (e_var 10) (e_var 3) ⟨o, d, rfl, by rw [hb]⟩) (fun h => by cases h)) fun sv e => ⟨_, e.symm, rfl⟩
  generalize hM2 : M + 4 + 4 * 0 = M2 at *
  refine r_par (m := M2) 7 8 (R := fun svs => svs = [.o (insO Cl (bookG o)), .o (insO Cl (bookG o2))]) rfl sc38.nd (by decide) (PA.imp (ar_cons (e_make hBook gu hr (by decide) (a_cons (e_var 2) a_nil) ⟨o, ho, rfl, rfl⟩) (ar_cons (e_make hBook gu hr (by decide) (a_cons (e_var 4) a_nil) ⟨o2, ho2, rfl, rfl⟩) ar_nil)) fun σ H Q ⟨t, q⟩ => ⟨t, fun vs H2 svs k1 h1 r1 s1 => by
    obtain ⟨_, _, rfl, rfl, _, _, rfl, rfl, rfl⟩ := r1
    exact q vs H2 _ k1 h1 rfl s1⟩) fun svs e => ⟨_, _, e, ?_⟩
  have same : okEq Cl [.o (insO Cl (bookG o)), .o (insO Cl (bookG o))] (Eq (.d (.bool true))) := ⟨o, .inl ⟨o, rfl, by rw [decide_eq_true rfl]⟩⟩
  refine r_ifF (m := M2) (u := false) (t_of (w_or (u := false) (v := false) (t_not (u := true) (t_eqO hEq gu hr (by decide) (ty_ins U.ic) U.fC (e_var 3) (e_var 7) same)) (fun _ => w_or (u := false) (v := false) (t_neO (u := true) hEq gu hr (by decide) U.ne U.ic.hm (ty_ins U.ic) U.fC (e_var 3) (e_var 7) same)
    (fun _ => w_or (u := false) (v := false) (t_eqO (u := false) hEq gu hr (by decide) (ty_dat (d := .str (bookT o))) U.fS (e_var 3) (e_var 2) ⟨o, .inr ⟨⟨_, rfl, .inl rfl⟩, rfl⟩⟩)
    (fun _ => w_or (u := false) (v := false) (t_not (u := true) (t_neO (u := false) hEq gu hr (by decide) U.ne U.ic.hm (ty_dat (d := .str (bookT o))) U.fS (e_var 3) (e_var 2) ⟨o, .inr ⟨⟨_, rfl, .inl rfl⟩, rfl⟩⟩))
    (fun _ => w_or1 (t_eqO (u := false) hEq gu hr (by decide) (ty_dat (d := .tuple [.str (bookT o)])) U.fT (e_var 3) (e_tup (a_cons (e_var 2) a_nil)) ⟨o, .inr ⟨⟨_, rfl, .inr rfl⟩, rfl⟩⟩))))))) rfl ?_
  have late : okEq Cl [.o (insO Cl (bookG o)), .o (insO Cl (bookG o2))] (Eq (.d (.bool (decide (bookT o = bookT o2))))) := ⟨o, .inl ⟨o2, rfl, rfl⟩⟩
  have shy : Showy (.list [.bool (decide (bookT o = bookT o2)), .bool (!decide (bookT o = bookT o2))]) := showyS ⟨trivial, trivial, trivial⟩ (Nat.le_of_ble_eq_true rfl) (Nat.le_of_ble_eq_true rfl)
  refine r_ret (m := M2) (S := Eq (.d (.bool true))) hw (e_eq (e_eqS2 (e_repr z gu hr shy (e_lst (a_cons (e_eqO hEq gu hr (by decide) (ty_ins U.ic) U.fC (e_var 3) (e_var 8) late) (a_cons (e_neO hEq gu hr (by decide) U.ne U.ic.hm (ty_ins U.ic) U.fC (e_var 3) (e_var 8) late) a_nil))))
    (e_repr z gu hr shy (e_lst (a_cons (e_eqS2 (e_var 2) (e_var 4)) (a_cons (e_cmp op_ne v_neS (nomark _) (e_var 2) (e_var 4)) a_nil))))) ?_) fun sv e => ⟨by omega, _, e.symm, rfl⟩
  rw [decide_eq_true rfl]
end
end N0
namespace N0
open PySem PySem.Spec PyProof.Rows L2 Wk
section
variable {P : Program} {w : World} {K : PySem.W.Frag} {mg : Str → Option Value} {base : Heap} {f : Addr} {fd : FuncData}
/-! law -/
theorem sc39l : FnScope ["script", "place"] ["script"] (defScope (topS 39)) := ⟨rfl, rfl, rfl, by decide +kernel, rfl, by decide +kernel, by decide +kernel⟩
def okLaw : List PD → SV → Prop := fun ds sv => ∃ ns : List Int, ds = [.list (ns.map PyData.int)] ∧ sv = .d (.bool true)
theorem the_law (z : Bt mg) (h1 : Knw P w K mg base CX0 1 "_law_pot" ["script", "place"] (SpPot K)) (h2 : Knw P w K mg base CX0 1 "_law_cells" ["script", "most"] (SpP K okCells)) (h3 : Knw P w K mg base CX0 8 "_law_right" ["pot"] (SpQ K okRight))
    (F : Fun K "law" "law" (topS 39) f fd) : Gd P w K mg base CX0 9 f fd ["script"] (SpP K okLaw) := by
  refine okP F sc39l (fun ds sv ⟨_, e, _⟩ => by rw [e]; rfl) fun cdv A outer s H E B ds sv fm D0 ⟨ns, e1, e2⟩ gu hr hC hw hn => ?_
  subst e1 e2
  have hb := cellsN_le (m := 3) (l := ((ns.length : Nat) : Int)) (by decide) (by omega)
  refine r_retD (m := 0) hw (e_allT z rfl (e_imp (e_lcNR (i := 1) (ds := rangeD 0 (cellsN 3 (ns.length : Nat)).toNat) 0 (fun _ _ e => e = .bool true) rfl sc39l.nd (i_list (e_callP h2 gu hr (by decide) (a_cons (e_var 0) (a_cons e_int a_nil)) ⟨ns, 3, rfl, by decide, by decide, rfl⟩)) (blkOk_by (own := [("place", 1)]) (N := ["script", "place"]) (sc := defScope (topS 39)) (by decide +kernel)) (fun _ _ _ _ _ => g_name 1 sc39l.nd)
      (fun s' H' Cc cl fp D acc k d hd => ?_) (by simp only [rangeD, List.length_map, List.length_range]; omega)) fun sv ⟨es, q1, q2, q3⟩ => ⟨es, q1, fun d hd => ?_⟩)) rfl
  · have hk : k < (cellsN 3 (ns.length : Nat)).toNat := by
      have := (List.getElem?_eq_some_iff.mp hd).1
      simpa [rangeD] using this
    have ed : d = .int (k : Nat) := by
      simp only [rangeD, List.getElem?_map, List.getElem?_range hk] at hd
      have := (Option.some.inj hd).symm
      rw [this]
      show PyData.int (0 + ((k : Nat) : Int)) = _
      rw [Int.zero_add]
    subst ed
    have hk2 : k < 100 := by omega
    exact e_callFresh h3 h1 gu hr (by decide) (by decide) (a_cons (e_var 0) (a_cons (e_var 1) a_nil)) ⟨by omega, by omega⟩ ⟨rfl, rfl, rfl⟩ (by decide)
  · obtain ⟨k, hk, rfl⟩ := List.mem_iff_getElem.mp hd
    exact q3 k _ _ (List.getElem?_eq_getElem (by rw [← q2]; exact hk)) (List.getElem?_eq_getElem hk)
end
end N0
namespace N0
open PySem PySem.Spec PyProof.Rows L2 Wk
theorem fin {P : Program} {w : World} {K : PySem.W.Frag} {h : Heap} {mg : Str → Option Value} {fa : Addr} (X : K.In h) (G : h.Ns mainGlobals mg) (hfa : mg "law" = some (.ref fa))
    {Cl : Addr} (aC : PySem.W.nsIn K mainGlobals "Book" = some (some (.ref Cl)))
    {gL_t : Tok} (gL : PySem.W.nsIn K mainGlobals "MOST_LETTERS" = some (some (.int 8 gL_t)))
    {gM_t : Tok} (gM : PySem.W.nsIn K mainGlobals "MOST_KINDS" = some (some (.int 200 gM_t)))
    {gR_a : Addr} (gR : PySem.W.nsIn K mainGlobals "RESERVED" = some (some (.ref gR_a))) (gR_r : rdV K 2 (.ref gR_a) = some (.tuple (reserved.map PyData.str)))
    {gB_t : Tok} (gB : PySem.W.nsIn K mainGlobals "BLANK_WORD" = some (some (.str "." gB_t)))
    {gF_t : Tok} (gF : PySem.W.nsIn K mainGlobals "FULL_WORD" = some (some (.str "#" gF_t)))
    {aS : Addr} {eS : Array DictEntry} {nS : Nat} (gS : PySem.W.nsIn K mainGlobals "SIDES" = some (some (.ref aS))) (lS : K.lookup aS = some ⟨.type "dict", none, .dict eS nS, #[]⟩) (kS : PySem.W.KeysLit w.params eS.toList) (oS : (aS == sysModules) = false)
    {aB : Addr} {eB : Array DictEntry} {nB : Nat} (gA : PySem.W.nsIn K mainGlobals "BASES" = some (some (.ref aB))) (lB : K.lookup aB = some ⟨.type "dict", none, .dict eB nB, #[]⟩) (kB : PySem.W.KeysLit w.params eB.toList) (oB : (aB == sysModules) = false)
    {s1 s2 b2 b3 b4 : Tok} (v1 : PySem.W.nsIn K aS "line" = some (some (.int 1 s1))) (v2 : PySem.W.nsIn K aS "plane" = some (some (.int 2 s2))) (w2 : PySem.W.nsIn K aB "2" = some (some (.int 2 b2))) (w3 : PySem.W.nsIn K aB "3" = some (some (.int 3 b3))) (w4 : PySem.W.nsIn K aB "4" = some (some (.int 4 b4)))
    {aM t1 t2 : Addr} {eM : Array DictEntry} {nM : Nat} (gT : PySem.W.nsIn K mainGlobals "MOTIONS_TOLD" = some (some (.ref aM))) (lM : K.lookup aM = some ⟨.type "dict", none, .dict eM nM, #[]⟩) (kM : ∀ e, e ∈ eM → ∃ (k : Int) (t : Tok), e.key = .int k t ∧ e.hash = hashInt k) (m1 : findBy Value.isInt eM (1 : Nat) = some (.ref t1)) (m2 : findBy Value.isInt eM (2 : Nat) = some (.ref t2)) (r1 : rdV K 2 (.ref t1) = some (.tuple ((motionsT 1).map PyData.str))) (r2 : rdV K 2 (.ref t2) = some (.tuple ((motionsT 2).map PyData.str)))
    (pg : PySem.W.plainGet K Cl Str.empty = true) (hd0 : PySem.W.hasDictIn K Cl = true) (po : PySem.W.plainOver K Cl = true) (sa : PySem.W.findIn K (.ref Cl) "__setattr__" = some (some (.builtin "object.__setattr__"))) (mk : PySem.W.makesIn K Cl = true) (kc : PySem.W.keepIn K (.ref Cl) = true)
    (nT : PySem.W.findIn K (.ref Cl) "text" = some none) (nD : PySem.W.findIn K (.ref Cl) "sides" = some none) (nB0 : PySem.W.findIn K (.ref Cl) "base" = some none) (nN : PySem.W.findIn K (.ref Cl) "names" = some none) (nK : PySem.W.findIn K (.ref Cl) "blocks" = some none)
    (ic1 : PySem.W.findIn K (.ref Cl) "__class__" = some (some (.builtin "object.__class__"))) (ic2 : PySem.W.specialIn K (.builtin "object.__class__") "__get__" = some (some (.builtin "getset_descriptor.__get__"))) (ic3 : PySem.W.takesIn K (.builtin "object.__class__") = some true) (ic4 : PySem.W.mroIn K Cl (.type "object") = some true) (ic5 : PySem.W.kitOne K (.ref Cl) (.ref Cl) = some true)
    (q1 : PySem.W.kitOne K (.type "str") (.ref Cl) = some false) (q2 : PySem.W.kitOne K (.type "tuple") (.ref Cl) = some false) (q3 : PySem.W.notFirst K Cl (.ref Cl) = true) (q4 : PySem.W.notFirst K Cl (.type "str") = true) (q5 : PySem.W.notFirst K Cl (.type "tuple") = true) (q6 : PySem.W.findIn K (.ref Cl) "__ne__" = some (some (.builtin "object.__ne__")))
    {f1 : Addr} {oc1 : Value} {od1 an1 : Option Addr} {sl1 : Array (Option Value)} {kV1 dc1 pm1 cd1 ct1 : Value} (ma1 : PySem.W.findIn K (.ref Cl) "__init__" = some (some (.ref f1))) (mi1 : PySem.W.isFn K (.ref f1) = true) (ml1 : K.lookup f1 = some ⟨oc1, od1, .func (PySem.W.fnOf "__init__" "Book.__init__" (defArgs sInit) (defBody sInit) (defScope sInit) .none kV1 dc1 pm1 an1 cd1 ct1), sl1⟩) (mc1 : PySem.W.codeIn K cd1 "Book.__init__" = true) (mk1 : PySem.W.keepIn K (.ref f1) = true)
    {f2 : Addr} {oc2 : Value} {od2 an2 : Option Addr} {sl2 : Array (Option Value)} {kV2 dc2 pm2 cd2 ct2 : Value} (ma2 : PySem.W.findIn K (.ref Cl) "__len__" = some (some (.ref f2))) (mi2 : PySem.W.isFn K (.ref f2) = true) (ml2 : K.lookup f2 = some ⟨oc2, od2, .func (PySem.W.fnOf "__len__" "Book.__len__" (defArgs sLen) (defBody sLen) (defScope sLen) .none kV2 dc2 pm2 an2 cd2 ct2), sl2⟩) (mc2 : PySem.W.codeIn K cd2 "Book.__len__" = true) (mk2 : PySem.W.keepIn K (.ref f2) = true)
    {f3 : Addr} {oc3 : Value} {od3 an3 : Option Addr} {sl3 : Array (Option Value)} {kV3 dc3 pm3 cd3 ct3 : Value} (ma3 : PySem.W.findIn K (.ref Cl) "__contains__" = some (some (.ref f3))) (mi3 : PySem.W.isFn K (.ref f3) = true) (ml3 : K.lookup f3 = some ⟨oc3, od3, .func (PySem.W.fnOf "__contains__" "Book.__contains__" (defArgs sIn) (defBody sIn) (defScope sIn) .none kV3 dc3 pm3 an3 cd3 ct3), sl3⟩) (mc3 : PySem.W.codeIn K cd3 "Book.__contains__" = true) (mk3 : PySem.W.keepIn K (.ref f3) = true)
    {f4 : Addr} {oc4 : Value} {od4 an4 : Option Addr} {sl4 : Array (Option Value)} {kV4 dc4 pm4 cd4 ct4 : Value} (ma4 : PySem.W.findIn K (.ref Cl) "__eq__" = some (some (.ref f4))) (mi4 : PySem.W.isFn K (.ref f4) = true) (ml4 : K.lookup f4 = some ⟨oc4, od4, .func (PySem.W.fnOf "__eq__" "Book.__eq__" (defArgs sEq) (defBody sEq) (defScope sEq) .none kV4 dc4 pm4 an4 cd4 ct4), sl4⟩) (mc4 : PySem.W.codeIn K cd4 "Book.__eq__" = true) (mk4 : PySem.W.keepIn K (.ref f4) = true)
    (h_len : NoN K "len")
    (h_abs : NoN K "abs")
    (h_int : NoN K "int")
    (h_sum : NoN K "sum")
    (h_tuple : NoN K "tuple")
    (h_list : NoN K "list")
    (h_range : NoN K "range")
    (h_enumerate : NoN K "enumerate")
    (h_all : NoN K "all")
    (h_isinstance : NoN K "isinstance")
    (h_repr : NoN K "repr")
    (h_max : NoN K "max")
    (h_min : NoN K "min")
    (h_str : NoN K "str")
    (h_bool : NoN K "bool")
    (h_dict : NoN K "dict")
    (h_any : NoN K "any")
    (h_zip : NoN K "zip")
    (d3 : Std K "is_name" (topS 3)) (d4 : Std K "is_kind_name" (topS 4)) (d15 : Std K "told_head" (topS 15)) (d16 : Std K "told_word" (topS 16)) (d17 : Std K "told_row" (topS 17)) (d18 : Std K "can_be_told" (topS 18)) (d19 : Std K "told_kinds" (topS 19)) (d20 : Std K "drawn_row" (topS 20)) (d21 : Std K "drawn_blocks" (topS 21)) (d24 : Std K "_law_pot" (topS 24)) (d25 : Std K "_law_take" (topS 25)) (d26 : Std K "_law_of" (topS 26)) (d27 : Std K "_law_some" (topS 27)) (d28 : Std K "_law_cells" (topS 28)) (d29 : Std K "_law_spots" (topS 29)) (d30 : Std K "_law_names" (topS 30)) (d31 : Std K "_law_word" (topS 31)) (d32 : Std K "_law_block" (topS 32)) (d33 : Std K "_law_made" (topS 33)) (d34 : Std K "_law_cell_text" (topS 34)) (d35 : Std K "_law_book_text" (topS 35)) (d36 : Std K "_law_drawn_book" (topS 36)) (d37 : Std K "_law_is_told" (topS 37)) (d38 : Std K "_law_right" (topS 38)) (d39 : Std K "law" (topS 39)) :
    ∃ fd : FuncData, (∀ (s : Shared) (u : Value), BindsTo s fd ⟨[u], []⟩ [("script", u)]) ∧ ∀ under : Heap, K.In under → under.Ns mainGlobals mg → Gd P w K mg under CX0 9 fa fd ["script"] (SpP K okLaw) := by
  have z : Bt mg := bt_of X G h_len h_abs h_int h_sum h_tuple h_list h_range h_enumerate h_all h_isinstance h_repr h_max h_min h_str h_bool h_dict
  have hany := PySem.W.mg_none_of X G h_any
  have hzip := PySem.W.mg_none_of X G h_zip
  have gL' := PySem.W.mg_of X G gL
  have gM' := PySem.W.mg_of X G gM
  have gR' := PySem.W.mg_of X G gR
  have gR_k := kt_of gR_r
  have hd : Heads K w mg := ⟨aS, aB, eS, eB, nS, nB, PySem.W.mg_of X G gS, ⟨lS, kS, oS⟩, PySem.W.mg_of X G gA, ⟨lB, kB, oB⟩, fun s hs => by
    rcases hs with rfl | rfl
    · exact ⟨s1, v1⟩
    · exact ⟨s2, v2⟩, fun b h2 h4 => by
    have : b = 2 ∨ b = 3 ∨ b = 4 := by omega
    rcases this with rfl | rfl | rfl
    · exact ⟨b2, w2⟩
    · exact ⟨b3, w3⟩
    · exact ⟨b4, w4⟩⟩
  have wd : Words K mg := ⟨gB_t, gF_t, aM, eM, nM, PySem.W.mg_of X G gB, PySem.W.mg_of X G gF, PySem.W.mg_of X G gT, ⟨lM, kM⟩, fun s hs => by
    rcases hs with rfl | rfl
    · exact ⟨t1, m1, kt_of r1⟩
    · exact ⟨t2, m2, kt_of r2⟩⟩
  have cls : Cls K Cl := ⟨pg, hd0, po, sa⟩
  have T : BkT K Cl := ⟨cls, nT, nD, nB0, nN, nK⟩
  have U : BkE K mg Cl := ⟨⟨cls, ic1, ic2, ic3, ic4, ic5⟩, PySem.W.mg_of X G aC, q1, q2, q3, q4, q5, q6⟩
  have F1 := fun_mk (st := sInit) ml1 mc1 mk1
  have B1 := F1.binds (ps := ["self", "text"]) fun _ _ _ _ _ _ us hl => match us, hl with | [_, _], _ => rfl
  have F2 := fun_mk (st := sLen) ml2 mc2 mk2
  have B2 := F2.binds (ps := ["self"]) fun _ _ _ _ _ _ us hl => match us, hl with | [_], _ => rfl
  have F3 := fun_mk (st := sIn) ml3 mc3 mk3
  have B3 := F3.binds (ps := ["self", "x"]) fun _ _ _ _ _ _ us hl => match us, hl with | [_, _], _ => rfl
  have F4 := fun_mk (st := sEq) ml4 mc4 mk4
  have B4 := F4.binds (ps := ["self", "other"]) fun _ _ _ _ _ _ us hl => match us, hl with | [_, _], _ => rfl
  obtain ⟨f, fd, a, F⟩ := d39.ex
  have e := hfa.symm.trans (PySem.W.mg_of X G a)
  cases e
  have bl := F.binds (ps := ["script"]) fun _ _ _ _ _ _ us hl => match us, hl with | [_], _ => rfl
  obtain ⟨oc, od, kV, doc, pm, an, cdv, ct, osl, efd, lk, hcd⟩ := F.ex
  refine ⟨fd, fun s u => ?_, fun under X2 G2 => ?_⟩
  · subst efd
    exact .of_eq rfl
  have k3 : Knw P w K mg under CX0 1 "is_name" ["value"] (SpP K okNm) := d3.know X G (fun _ _ _ _ _ _ us hl => match us, hl with | [_], _ => rfl) fun F => is_name z gL' F
  have k4 : Knw P w K mg under CX0 2 "is_kind_name" ["value"] (SpP K okKN) := d4.know X G (fun _ _ _ _ _ _ us hl => match us, hl with | [_], _ => rfl) fun F => is_kind_name z gR' gR_k k3 F
  have k15 : Knw P w K mg under CX0 1 "told_head" ["line"] (SpP K okHead) := d15.know X G (fun _ _ _ _ _ _ us hl => match us, hl with | [_], _ => rfl) fun F => told_head z hd F
  have k16 : Knw P w K mg under CX0 3 "told_word" ["word", "sides"] (SpP K okTW) := d16.know X G (fun _ _ _ _ _ _ us hl => match us, hl with | [_, _], _ => rfl) fun F => told_word z wd k4 F
  have k17 : Knw P w K mg under CX0 4 "told_row" ["words", "sides", "base"] (SpP K okTR) := d17.know X G (fun _ _ _ _ _ _ us hl => match us, hl with | [_, _, _], _ => rfl) fun F => told_row z k16 F
  have k18 : Knw P w K mg under CX0 3 "can_be_told" ["words", "names"] (SpP K okCan) := d18.know X G (fun _ _ _ _ _ _ us hl => match us, hl with | [_, _], _ => rfl) fun F => can_be_told z gM' k4 F
  have k19 : Knw P w K mg under CX0 5 "told_kinds" ["lines", "sides", "base"] (SpP K okTK) := d19.know X G (fun _ _ _ _ _ _ us hl => match us, hl with | [_, _, _], _ => rfl) fun F => told_kinds z k18 k17 F
  have k20 : Knw P w K mg under CX0 1 "drawn_row" ["number", "row", "kinds"] (SpV K okDR) := d20.know X G (fun _ _ _ _ _ _ us hl => match us, hl with | [_, _, _], _ => rfl) fun F => drawn_row z wd F
  have k21 : Knw P w K mg under CX0 2 "drawn_blocks" ["names", "rows"] (SpP K okDBl) := d21.know X G (fun _ _ _ _ _ _ us hl => match us, hl with | [_, _], _ => rfl) fun F => drawn_blocks z k20 F
  have k24 : Knw P w K mg under CX0 1 "_law_pot" ["script", "place"] (SpPot K) := d24.know X G (fun _ _ _ _ _ _ us hl => match us, hl with | [_, _], _ => rfl) fun F => law_pot z F
  have k25 : Knw P w K mg under CX0 1 "_law_take" ["pot", "upto"] (SpQ K okTake) := d25.know X G (fun _ _ _ _ _ _ us hl => match us, hl with | [_, _], _ => rfl) fun F => law_take z F
  have k26 : Knw P w K mg under CX0 2 "_law_of" ["pot", "some"] (SpQ K okOf) := d26.know X G (fun _ _ _ _ _ _ us hl => match us, hl with | [_, _], _ => rfl) fun F => law_of z k25 F
  have k26s : Knw P w K mg under CX0 2 "_law_of" ["pot", "some"] (SpQ K okOfS) := d26.know X G (fun _ _ _ _ _ _ us hl => match us, hl with | [_, _], _ => rfl) fun F => law_ofS z k25 F
  have k27 : Knw P w K mg under CX0 2 "_law_some" ["pot", "pool", "many"] (SpQ K okSome) := d27.know X G (fun _ _ _ _ _ _ us hl => match us, hl with | [_, _, _], _ => rfl) fun F => law_some z k25 F
  have k28 : Knw P w K mg under CX0 1 "_law_cells" ["script", "most"] (SpP K okCells) := d28.know X G (fun _ _ _ _ _ _ us hl => match us, hl with | [_, _], _ => rfl) fun F => law_cells z F
  have k29 : Knw P w K mg under CX0 1 "_law_spots" ["sides", "size"] (SpP K okSpots) := d29.know X G (fun _ _ _ _ _ _ us hl => match us, hl with | [_, _], _ => rfl) fun F => law_spots z F
  have k30 : Knw P w K mg under CX0 3 "_law_names" ["pot", "many"] (SpQ K okNames) := d30.know X G (fun _ _ _ _ _ _ us hl => match us, hl with | [_, _], _ => rfl) fun F => law_names z k25 k26 k26s F
  have k31 : Knw P w K mg under CX0 2 "_law_word" ["pot", "kinds", "sides", "seldom"] (SpQ K okWord) := d31.know X G (fun _ _ _ _ _ _ us hl => match us, hl with | [_, _, _, _], _ => rfl) fun F => law_word z k25 F
  have k32 : Knw P w K mg under CX0 3 "_law_block" ["pot", "sides", "base", "kinds", "seldom"] (SpQ K okBlock) := d32.know X G (fun _ _ _ _ _ _ us hl => match us, hl with | [_, _, _, _, _], _ => rfl) fun F => law_block z k25 k29 k27 k31 F
  have k33 : Knw P w K mg under CX0 4 "_law_made" ["pot", "sides", "base", "kinds", "seldom"] (SpW K okMade) := d33.know X G (fun _ _ _ _ _ _ us hl => match us, hl with | [_, _, _, _, _], _ => rfl) fun F => law_made z k32 k30 F
  have k34 : Knw P w K mg under CX0 1 "_law_cell_text" ["own", "cell"] (SpV K okCT) := d34.know X G (fun _ _ _ _ _ _ us hl => match us, hl with | [_, _], _ => rfl) fun F => law_cell_text z F
  have k35 : Knw P w K mg under CX0 2 "_law_book_text" ["own"] (SpV K okText) := d35.know X G (fun _ _ _ _ _ _ us hl => match us, hl with | [_], _ => rfl) fun F => law_book_text z hzip k34 F
  have k36 : Knw P w K mg under CX0 5 "_law_drawn_book" ["pot"] (SpW K okDB) := d36.know X G (fun _ _ _ _ _ _ us hl => match us, hl with | [_], _ => rfl) fun F => law_drawn_book z k25 k33 F
  have mL : KnwM P w K mg under CX0 1 Cl "__len__" ["self"] (SpV K (okLn Cl)) := ⟨f2, _, ma2, mi2, mk2, B2, book_len z T F2⟩
  have mI : KnwM P w K mg under CX0 1 Cl "__contains__" ["self", "x"] (SpV K (okInA Cl)) := ⟨f3, _, ma3, mi3, mk3, B3, book_inA z T F3⟩
  have mE : KnwM P w K mg under CX0 1 Cl "__eq__" ["self", "other"] (SpV K (okEq Cl)) := ⟨f4, _, ma4, mi4, mk4, B4, book_eq z T U F4⟩
  have cB : KnwC P w K mg under CX0 6 "Book" Cl ["self", "text"] (SpI K Cl okBook) := ⟨f1, _, PySem.W.mg_of X G aC, ⟨mk, ma1, mi1, kc⟩, B1, book_init z T k15 k19 k21 F1⟩
  have k37 : Knw P w K mg under CX0 3 "_law_is_told" ["own", "book", "text"] (SpV K (okTold Cl)) := d37.know X G (fun _ _ _ _ _ _ us hl => match us, hl with | [_, _, _], _ => rfl) fun F => law_is_told z T mL F
  have k38 : Knw P w K mg under CX0 8 "_law_right" ["pot"] (SpQ K okRight) := d38.know X G (fun _ _ _ _ _ _ us hl => match us, hl with | [_], _ => rfl) fun F => law_right z hany U k25 k27 k36 k35 k37 cB mI mE F
  exact the_law z k24 k28 k38 F
end N0
open PySem PySem.W PySem.Calls PyProof.Rows
set_option maxHeartbeats 0 in
theorem PySem.Challenge.cw_selfdrawn_k00_whole_books_as_they_are_to_holds : PySem.Challenge.rw_selfdrawn_k00_whole_books_as_they_are_to.Holds := by
  w_on; o_law; k_head; (case hw => w_witness2)
  k_fill
  refine Wk.row_end (l := PySem.Challenge.rw_selfdrawn_k00_whole_books_as_they_are_to) (n := 63) (k := 9) (y := "script") (ok := N0.okLaw) rfl (by decide) rfl ⟨rfl, by decide, by decide⟩ (fun w h Y => PySem.W.kIn_of Y) ?F (fun is => ⟨is, rfl, rfl⟩)
  case F =>
    intro w mg fa h KX G hmg
    refine' N0.fin KX G hmg ?aC ?gL ?gM ?gR ?gR_r ?gB ?gF ?gS ?lS ?kS ?oS ?gA ?lB ?kB ?oB ?v1 ?v2 ?w2 ?w3 ?w4 ?gT ?lM ?kM ?m1 ?m2 ?r1 ?r2 ?pg ?hd0 ?po ?sa ?mk ?kc ?nT ?nD ?nB0 ?nN ?nK ?ic1 ?ic2 ?ic3 ?ic4 ?ic5 ?q1 ?q2 ?q3 ?q4 ?q5 ?q6 ?ma1 ?mi1 ?ml1 ?mc1 ?mk1 ?ma2 ?mi2 ?ml2 ?mc2 ?mk2 ?ma3 ?mi3 ?ml3 ?mc3 ?mk3 ?ma4 ?mi4 ?ml4 ?mc4 ?mk4 ?h_len ?h_abs ?h_int ?h_sum ?h_tuple ?h_list ?h_range ?h_enumerate ?h_all ?h_isinstance ?h_repr ?h_max ?h_min ?h_str ?h_bool ?h_dict ?h_any ?h_zip ?d3 ?d4 ?d15 ?d16 ?d17 ?d18 ?d19 ?d20 ?d21 ?d24 ?d25 ?d26 ?d27 ?d28 ?d29 ?d30 ?d31 ?d32 ?d33 ?d34 ?d35 ?d36 ?d37 ?d38 ?d39
    (case aC => k_is)
    (case gL => k_is)
    (case gM => k_is)
    (case gR => k_is)
    (case gB => k_is)
    (case gF => k_is)
    (case gS => k_is)
    (case lS => k_is)
    (case gA => k_is)
    (case lB => k_is)
    (case v1 => k_is)
    (case v2 => k_is)
    (case w2 => k_is)
    (case w3 => k_is)
    (case w4 => k_is)
    (case gT => k_is)
    (case lM => k_is)
    (case pg => k_is)
    (case hd0 => k_is)
    (case po => k_is)
    (case sa => k_is)
    (case mk => k_is)
    (case kc => k_is)
    (case nT => k_is)
    (case nD => k_is)
    (case nB0 => k_is)
    (case nN => k_is)
    (case nK => k_is)
    (case ic1 => k_is)
    (case ic2 => k_is)
    (case ic3 => k_is)
    (case ic4 => k_is)
    (case ic5 => kit_is)
    (case q1 => kit_is)
    (case q2 => kit_is)
    (case q3 => k_is)
    (case q4 => k_is)
    (case q5 => k_is)
    (case q6 => k_is)
    (case ma1 => k_is)
    (case mi1 => k_is)
    (case ml1 => k_is)
    (case mc1 => k_is)
    (case mk1 => k_is)
    (case ma2 => k_is)
    (case mi2 => k_is)
    (case ml2 => k_is)
    (case mc2 => k_is)
    (case mk2 => k_is)
    (case ma3 => k_is)
    (case mi3 => k_is)
    (case ml3 => k_is)
    (case mc3 => k_is)
    (case mk3 => k_is)
    (case ma4 => k_is)
    (case mi4 => k_is)
    (case ml4 => k_is)
    (case mc4 => k_is)
    (case mk4 => k_is)
    (case h_len => (unfold Wk.NoN; k_is))
    (case h_abs => (unfold Wk.NoN; k_is))
    (case h_int => (unfold Wk.NoN; k_is))
    (case h_sum => (unfold Wk.NoN; k_is))
    (case h_tuple => (unfold Wk.NoN; k_is))
    (case h_list => (unfold Wk.NoN; k_is))
    (case h_range => (unfold Wk.NoN; k_is))
    (case h_enumerate => (unfold Wk.NoN; k_is))
    (case h_all => (unfold Wk.NoN; k_is))
    (case h_isinstance => (unfold Wk.NoN; k_is))
    (case h_repr => (unfold Wk.NoN; k_is))
    (case h_max => (unfold Wk.NoN; k_is))
    (case h_min => (unfold Wk.NoN; k_is))
    (case h_str => (unfold Wk.NoN; k_is))
    (case h_bool => (unfold Wk.NoN; k_is))
    (case h_dict => (unfold Wk.NoN; k_is))
    (case h_any => (unfold Wk.NoN; k_is))
    (case h_zip => (unfold Wk.NoN; k_is))
    (case oS => first | rfl | kernel_rfl)
    (case oB => first | rfl | kernel_rfl)
    (case m1 => first | rfl | kernel_rfl)
    (case m2 => first | rfl | kernel_rfl)
    (case gR_r => kernel_rfl)
    (case r1 => kernel_rfl)
    (case r2 => kernel_rfl)
    (case kS => exact ⟨⟨_, _, rfl, rfl⟩, ⟨_, _, rfl, rfl⟩, trivial⟩)
    (case kB => exact ⟨⟨_, _, rfl, rfl⟩, ⟨_, _, rfl, rfl⟩, ⟨_, _, rfl, rfl⟩, trivial⟩)
    (case kM => (intro e he; simp only [List.mem_toArray, List.mem_cons, List.not_mem_nil, or_false] at he; rcases he with rfl | rfl <;> exact ⟨_, _, rfl, rfl⟩))
    (case d3 => (refine' Wk.Std.mk' ?a ?l ?c ?k; (case a => k_is); (case l => k_is); (case c => k_is); (case k => k_is)))
    (case d4 => (refine' Wk.Std.mk' ?a ?l ?c ?k; (case a => k_is); (case l => k_is); (case c => k_is); (case k => k_is)))
    (case d15 => (refine' Wk.Std.mk' ?a ?l ?c ?k; (case a => k_is); (case l => k_is); (case c => k_is); (case k => k_is)))
    (case d16 => (refine' Wk.Std.mk' ?a ?l ?c ?k; (case a => k_is); (case l => k_is); (case c => k_is); (case k => k_is)))
    (case d17 => (refine' Wk.Std.mk' ?a ?l ?c ?k; (case a => k_is); (case l => k_is); (case c => k_is); (case k => k_is)))
    (case d18 => (refine' Wk.Std.mk' ?a ?l ?c ?k; (case a => k_is); (case l => k_is); (case c => k_is); (case k => k_is)))
    (case d19 => (refine' Wk.Std.mk' ?a ?l ?c ?k; (case a => k_is); (case l => k_is); (case c => k_is); (case k => k_is)))
    (case d20 => (refine' Wk.Std.mk' ?a ?l ?c ?k; (case a => k_is); (case l => k_is); (case c => k_is); (case k => k_is)))
    (case d21 => (refine' Wk.Std.mk' ?a ?l ?c ?k; (case a => k_is); (case l => k_is); (case c => k_is); (case k => k_is)))
    (case d24 => (refine' Wk.Std.mk' ?a ?l ?c ?k; (case a => k_is); (case l => k_is); (case c => k_is); (case k => k_is)))
    (case d25 => (refine' Wk.Std.mk' ?a ?l ?c ?k; (case a => k_is); (case l => k_is); (case c => k_is); (case k => k_is)))
    (case d26 => (refine' Wk.Std.mk' ?a ?l ?c ?k; (case a => k_is); (case l => k_is); (case c => k_is); (case k => k_is)))
    (case d27 => (refine' Wk.Std.mk' ?a ?l ?c ?k; (case a => k_is); (case l => k_is); (case c => k_is); (case k => k_is)))
    (case d28 => (refine' Wk.Std.mk' ?a ?l ?c ?k; (case a => k_is); (case l => k_is); (case c => k_is); (case k => k_is)))
    (case d29 => (refine' Wk.Std.mk' ?a ?l ?c ?k; (case a => k_is); (case l => k_is); (case c => k_is); (case k => k_is)))
    (case d30 => (refine' Wk.Std.mk' ?a ?l ?c ?k; (case a => k_is); (case l => k_is); (case c => k_is); (case k => k_is)))
    (case d31 => (refine' Wk.Std.mk' ?a ?l ?c ?k; (case a => k_is); (case l => k_is); (case c => k_is); (case k => k_is)))
    (case d32 => (refine' Wk.Std.mk' ?a ?l ?c ?k; (case a => k_is); (case l => k_is); (case c => k_is); (case k => k_is)))
    (case d33 => (refine' Wk.Std.mk' ?a ?l ?c ?k; (case a => k_is); (case l => k_is); (case c => k_is); (case k => k_is)))
    (case d34 => (refine' Wk.Std.mk' ?a ?l ?c ?k; (case a => k_is); (case l => k_is); (case c => k_is); (case k => k_is)))
    (case d35 => (refine' Wk.Std.mk' ?a ?l ?c ?k; (case a => k_is); (case l => k_is); (case c => k_is); (case k => k_is)))
    (case d36 => (refine' Wk.Std.mk' ?a ?l ?c ?k; (case a => k_is); (case l => k_is); (case c => k_is); (case k => k_is)))
    (case d37 => (refine' Wk.Std.mk' ?a ?l ?c ?k; (case a => k_is); (case l => k_is); (case c => k_is); (case k => k_is)))
    (case d38 => (refine' Wk.Std.mk' ?a ?l ?c ?k; (case a => k_is); (case l => k_is); (case c => k_is); (case k => k_is)))
    (case d39 => (refine' Wk.Std.mk' ?a ?l ?c ?k; (case a => k_is); (case l => k_is); (case c => k_is); (case k => k_is)))
