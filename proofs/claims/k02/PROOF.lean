import PyProof.Rows.All
import Wide.All
import OpenK.AllK
import Wide.FinOn
import HandS.ForMost
import HandS.Conv
import HandS.IsInst
import HandS.Gcd
import HandS.Wide
import HandS.Deep
import HandS.Style
import HandS.Exc
import HandS.Flow
import PyProof.ReprReads
import KE.KIndexOf
import HandS.Walk
import HandS.WordsExc
import KE.GoesMore
import PyProof.ReprBulk
import HandS.Ends
import PySem.Challenge.RW_selfdrawn_k02_whole_motions_one_behind_a
set_option Elab.async false
set_option linter.all false
set_option maxRecDepth 100000
set_option maxHeartbeats 4000000
/-! Wk: a walk over data. Values are told by data (PyData), apart from the addresses B that may still change. -/
namespace Wk
open PySem PySem.Spec PyProof.Rows L2

abbrev PD := PyData
def RdL (K : PySem.W.Frag) (B : List Addr) (H : Hp) (a : Addr) (xs : List V) : Prop := (a ∉ B ∧ Rd H a (.lst xs)) ∨ SqL K (fun _ => none) a xs
def RdT (K : PySem.W.Frag) (B : List Addr) (H : Hp) (a : Addr) (xs : List V) : Prop := (a ∉ B ∧ Rd H a (.tup xs)) ∨ SqT K (fun _ => none) a xs
theorem rd_no {a : Addr} {o : HO} (h : Rd (fun _ => none) a o) : False := by
  rcases h with h | ⟨_, h⟩ <;> cases h
section
variable {K : PySem.W.Frag} {B B' : List Addr} {H H' H1 H2 : Hp} {a : Addr} {xs : List V}
theorem RdL.sq (h : RdL K B H a xs) : SqL K H a xs := by
  rcases h with ⟨_, h⟩ | h
  · exact .inl h
  · rcases h with h | h
    · exact (rd_no h).elim
    · exact .inr h
theorem RdT.sq (h : RdT K B H a xs) : SqT K H a xs := by
  rcases h with ⟨_, h⟩ | h
  · exact .inl h
  · rcases h with h | h
    · exact (rd_no h).elim
    · exact .inr h
/-- all that was known stays, but at B -/
def Keep (B : List Addr) (H H' : Hp) : Prop := ∀ b o, b ∉ B → H b = some o → H' b = some o
theorem Keep.refl (B : List Addr) (H : Hp) : Keep B H H := fun _ _ _ h => h
theorem Keep.trans (h : Keep B H H1) (g : Keep B H1 H2) : Keep B H H2 := fun b o n e => g b o n (h b o n e)
theorem Keep.same (h : Same H H') : Keep B H H' := fun b o _ e => h b o e
theorem Keep.wider (h : Keep B H H') (s : ∀ b, b ∈ B → b ∈ B') : Keep B' H H' := fun b o n e => h b o (fun z => n (s b z)) e
theorem RdL.keep (h : RdL K B H a xs) (k : Keep B H H') : RdL K B H' a xs := by
  rcases h with ⟨n, h⟩ | h
  · refine .inl ⟨n, ?_⟩
    rcases h with h | ⟨o, h⟩
    · exact .inl (k _ _ n h)
    · exact .inr ⟨o, k _ _ n h⟩
  · exact .inr h
theorem RdT.keep (h : RdT K B H a xs) (k : Keep B H H') : RdT K B H' a xs := by
  rcases h with ⟨n, h⟩ | h
  · refine .inl ⟨n, ?_⟩
    rcases h with h | ⟨o, h⟩
    · exact .inl (k _ _ n h)
    · exact .inr ⟨o, k _ _ n h⟩
  · exact .inr h
theorem rd_ne {o : HO} {p : Addr} (h : Rd H a o) (f : H p = none) : a ≠ p := by
  rcases h with h | ⟨_, h⟩
  · exact ne_of_none h f
  · exact ne_of_none h f
theorem RdL.grow {p : Addr} (h : RdL K B H a xs) (f : H p = none) : RdL K (p :: B) H a xs := by
  rcases h with ⟨n, h⟩ | h
  · exact .inl ⟨fun z => (List.mem_cons.mp z).elim (rd_ne h f) n, h⟩
  · exact .inr h
theorem RdT.grow {p : Addr} (h : RdT K B H a xs) (f : H p = none) : RdT K (p :: B) H a xs := by
  rcases h with ⟨n, h⟩ | h
  · exact .inl ⟨fun z => (List.mem_cons.mp z).elim (rd_ne h f) n, h⟩
  · exact .inr h
theorem RdL.less (h : RdL K B H a xs) (s : ∀ b, b ∈ B' → b ∈ B) : RdL K B' H a xs := by
  rcases h with ⟨n, h⟩ | h
  · exact .inl ⟨fun z => n (s _ z), h⟩
  · exact .inr h
theorem RdT.less (h : RdT K B H a xs) (s : ∀ b, b ∈ B' → b ∈ B) : RdT K B' H a xs := by
  rcases h with ⟨n, h⟩ | h
  · exact .inl ⟨fun z => n (s _ z), h⟩
  · exact .inr h
end

mutual
inductive Dv (K : PySem.W.Frag) (B : List Addr) (H : Hp) : V → PyData → Prop
  | non : Dv K B H .non .none
  | bl (b : Bool) : Dv K B H (.bl b) (.bool b)
  | int (i : Int) : Dv K B H (.int i) (.int i)
  | str (x : Str) : Dv K B H (.str x) (.str x)
  | lst {a : Addr} {xs : List V} {ds : List PyData} : RdL K B H a xs → DvAll K B H xs ds → Dv K B H (.ref a) (.list ds)
  | tup {a : Addr} {xs : List V} {ds : List PyData} : RdT K B H a xs → DvAll K B H xs ds → Dv K B H (.ref a) (.tuple ds)
inductive DvAll (K : PySem.W.Frag) (B : List Addr) (H : Hp) : List V → List PyData → Prop
  | nil : DvAll K B H [] []
  | cons {v : V} {vs : List V} {d : PyData} {ds : List PyData} : Dv K B H v d → DvAll K B H vs ds → DvAll K B H (v :: vs) (d :: ds)
end
section
variable {K : PySem.W.Frag} {B B' : List Addr} {H H' H1 H2 : Hp}
mutual
theorem Dv.imp (f : ∀ a xs, RdL K B H a xs → RdL K B' H' a xs) (g : ∀ a xs, RdT K B H a xs → RdT K B' H' a xs) : ∀ (d : PyData) (v : V), Dv K B H v d → Dv K B' H' v d
  | .none, _, h => by cases h; exact .non
  | .bool _, _, h => by cases h; exact .bl _
  | .int _, _, h => by cases h; exact .int _
  | .str _, _, h => by cases h; exact .str _
  | .list ds, _, h => by
    cases h with
    | lst r a => exact .lst (f _ _ r) (DvAll.imp f g ds _ a)
  | .tuple ds, _, h => by
    cases h with
    | tup r a => exact .tup (g _ _ r) (DvAll.imp f g ds _ a)
  | .dict _, _, h => by cases h
theorem DvAll.imp (f : ∀ a xs, RdL K B H a xs → RdL K B' H' a xs) (g : ∀ a xs, RdT K B H a xs → RdT K B' H' a xs) : ∀ (ds : List PyData) (vs : List V), DvAll K B H vs ds → DvAll K B' H' vs ds
  | [], _, h => by cases h; exact .nil
  | d :: ds, _, h => by
    cases h with
    | cons x y => exact .cons (Dv.imp f g d _ x) (DvAll.imp f g ds _ y)
end
mutual
theorem Dv.dp : ∀ (d : PyData) (v : V), Dv K B H v d → Dp K H v d
  | .none, _, h => by cases h; exact .non
  | .bool _, _, h => by cases h; exact .bl _
  | .int _, _, h => by cases h; exact .int _
  | .str _, _, h => by cases h; exact .str _
  | .list ds, _, h => by
    cases h with
    | lst r a => exact .lst r.sq (DvAll.dp ds _ a)
  | .tuple ds, _, h => by
    cases h with
    | tup r a => exact .tup r.sq (DvAll.dp ds _ a)
  | .dict _, _, h => by cases h
theorem DvAll.dp : ∀ (ds : List PyData) (vs : List V), DvAll K B H vs ds → DpAll K H vs ds
  | [], _, h => by cases h; exact .nil
  | d :: ds, _, h => by
    cases h with
    | cons x y => exact .cons (Dv.dp d _ x) (DvAll.dp ds _ y)
end
theorem Dv.keep {v : V} {d : PD} (h : Dv K B H v d) (k : Keep B H H') : Dv K B H' v d := Dv.imp (fun _ _ r => r.keep k) (fun _ _ r => r.keep k) _ _ h
theorem DvAll.keep {v : List V} {d : List PD} (h : DvAll K B H v d) (k : Keep B H H') : DvAll K B H' v d := DvAll.imp (fun _ _ r => r.keep k) (fun _ _ r => r.keep k) _ _ h
theorem Dv.grow {v : V} {d : PD} {p : Addr} (h : Dv K B H v d) (f : H p = none) : Dv K (p :: B) H v d := Dv.imp (fun _ _ r => r.grow f) (fun _ _ r => r.grow f) _ _ h
theorem DvAll.grow {v : List V} {d : List PD} {p : Addr} (h : DvAll K B H v d) (f : H p = none) : DvAll K (p :: B) H v d := DvAll.imp (fun _ _ r => r.grow f) (fun _ _ r => r.grow f) _ _ h
theorem Dv.less {v : V} {d : PD} (h : Dv K B H v d) (s : ∀ b, b ∈ B' → b ∈ B) : Dv K B' H v d := Dv.imp (fun _ _ r => r.less s) (fun _ _ r => r.less s) _ _ h
theorem DvAll.less {v : List V} {d : List PD} (h : DvAll K B H v d) (s : ∀ b, b ∈ B' → b ∈ B) : DvAll K B' H v d := DvAll.imp (fun _ _ r => r.less s) (fun _ _ r => r.less s) _ _ h
theorem DvAll.length : ∀ {vs : List V} {ds : List PD}, DvAll K B H vs ds → vs.length = ds.length
  | _, [], h => by cases h; rfl
  | _, d :: ds, h => by
    cases h with
    | cons x y => rw [List.length_cons, List.length_cons, DvAll.length y]
theorem DvAll.get : ∀ {ds : List PD} {vs : List V} {i : Nat} {d : PD}, DvAll K B H vs ds → ds[i]? = some d → ∃ v, vs[i]? = some v ∧ Dv K B H v d
  | [], _, _, _, _, e => by simp at e
  | _ :: _, _, 0, _, h, e => by
    cases h with
    | cons x y =>
      simp at e
      subst e
      exact ⟨_, rfl, x⟩
  | _ :: ds, _, i + 1, _, h, e => by
    cases h with
    | cons x y =>
      obtain ⟨v, h1, h2⟩ := DvAll.get (i := i) y (by simpa using e)
      exact ⟨v, by simpa using h1, h2⟩
theorem DvAll.vget : ∀ {ds : List PD} {vs : List V} {i : Nat} {v : V}, DvAll K B H vs ds → vs[i]? = some v → ∃ d, ds[i]? = some d ∧ Dv K B H v d
  | [], _, _, _, h, e => by cases h; simp at e
  | _ :: _, _, 0, _, h, e => by
    cases h with
    | cons x y =>
      simp at e
      subst e
      exact ⟨_, rfl, x⟩
  | _ :: ds, _, i + 1, _, h, e => by
    cases h with
    | cons x y =>
      obtain ⟨v, h1, h2⟩ := DvAll.vget (i := i) y (by simpa using e)
      exact ⟨v, by simpa using h1, h2⟩
theorem DvAll.app : ∀ {ds es : List PD} {vs us : List V}, DvAll K B H vs ds → DvAll K B H us es → DvAll K B H (vs ++ us) (ds ++ es)
  | [], _, _, _, h, g => by cases h; exact g
  | _ :: ds, _, _, _, h, g => by
    cases h with
    | cons x y => exact .cons x (DvAll.app y g)
theorem DvAll.set : ∀ {ds : List PD} {vs : List V} (i : Nat) {v : V} {d : PD}, DvAll K B H vs ds → Dv K B H v d → DvAll K B H (vs.set i v) (ds.set i d)
  | [], _, _, _, _, h, _ => by cases h; exact .nil
  | _ :: ds, _, 0, _, _, h, g => by
    cases h with
    | cons x y => exact .cons g y
  | _ :: ds, _, i + 1, _, _, h, g => by
    cases h with
    | cons x y => exact .cons x (DvAll.set i y g)
theorem DvAll.ints : ∀ {ns : List Int} {vs : List V}, DvAll K B H vs (ns.map PyData.int) → vs = ns.map V.int
  | [], _, h => by cases h; rfl
  | n :: ns, _, h => by
    cases h with
    | cons x y =>
      cases x
      rw [DvAll.ints y]
      rfl
theorem DvAll.bools : ∀ {ns : List Bool} {vs : List V}, DvAll K B H vs (ns.map PyData.bool) → vs = ns.map V.bl
  | [], _, h => by cases h; rfl
  | n :: ns, _, h => by
    cases h with
    | cons x y =>
      cases x
      rw [DvAll.bools y]
      rfl
theorem DvAll.of_ints : ∀ (ns : List Int), DvAll K B H (ns.map V.int) (ns.map PyData.int)
  | [] => .nil
  | n :: ns => .cons (.int n) (DvAll.of_ints ns)
end

/-! ### slots and the state -/
inductive SV where
  | d (x : PD)
  | v (x : V)
def SvOk (K : PySem.W.Frag) (B : List Addr) (H : Hp) (v : V) : SV → Prop
  | .d x => Dv K B H v x
  | .v x => v = x
section
variable {K : PySem.W.Frag} {B B' : List Addr} {H H' H1 H2 : Hp} {v : V} {sv : SV}
theorem SvOk.keep (h : SvOk K B H v sv) (k : Keep B H H') : SvOk K B H' v sv := by
  cases sv with
  | d x => exact Dv.keep h k
  | v x => exact h
theorem SvOk.grow {p : Addr} (h : SvOk K B H v sv) (f : H p = none) : SvOk K (p :: B) H v sv := by
  cases sv with
  | d x => exact Dv.grow h f
  | v x => exact h
theorem SvOk.less (h : SvOk K B H v sv) (s : ∀ b, b ∈ B' → b ∈ B) : SvOk K B' H v sv := by
  cases sv with
  | d x => exact Dv.less h s
  | v x => exact h
end
abbrev Dl := List (Option SV)
def Sl (K : PySem.W.Frag) (B : List Addr) (H : Hp) (σ : L2.St) (δ : Dl) : Prop := σ.length = δ.length ∧ ∀ (i : Nat) (sv : SV), δ[i]? = some (some sv) → ∃ v, σ[i]? = some (some v) ∧ SvOk K B H v sv
section
variable {K : PySem.W.Frag} {B B' : List Addr} {H H' H1 H2 : Hp} {σ : L2.St} {δ : Dl}
theorem Sl.keep (h : Sl K B H σ δ) (k : Keep B H H') : Sl K B H' σ δ := ⟨h.1, fun i sv e => let ⟨v, a, b⟩ := h.2 i sv e; ⟨v, a, b.keep k⟩⟩
theorem Sl.grow {p : Addr} (h : Sl K B H σ δ) (f : H p = none) : Sl K (p :: B) H σ δ := ⟨h.1, fun i sv e => let ⟨v, a, b⟩ := h.2 i sv e; ⟨v, a, b.grow f⟩⟩
theorem Sl.less (h : Sl K B H σ δ) (s : ∀ b, b ∈ B' → b ∈ B) : Sl K B' H σ δ := ⟨h.1, fun i sv e => let ⟨v, a, b⟩ := h.2 i sv e; ⟨v, a, b.less s⟩⟩
theorem Sl.set {v : V} {sv : SV} {j : Nat} (h : Sl K B H σ δ) (g : SvOk K B H v sv) : Sl K B H (σ.set j (some v)) (δ.set j (some sv)) := by
  refine ⟨by rw [List.length_set, List.length_set]; exact h.1, fun i w e => ?_⟩
  by_cases hj : j = i
  · subst hj
    by_cases hl : j < δ.length
    · rw [List.getElem?_set_self hl] at e
      cases e
      exact ⟨v, List.getElem?_set_self (by rw [h.1]; exact hl), g⟩
    · rw [List.getElem?_eq_none (by rw [List.length_set]; omega)] at e
      cases e
  · rw [List.getElem?_set_ne hj] at e
    rw [List.getElem?_set_ne hj]
    exact h.2 i w e
theorem Sl.drop {j : Nat} (h : Sl K B H σ δ) : Sl K B H (σ.set j none) (δ.set j none) := by
  refine ⟨by rw [List.length_set, List.length_set]; exact h.1, fun i w e => ?_⟩
  by_cases hj : j = i
  · subst hj
    by_cases hl : j < δ.length
    · rw [List.getElem?_set_self hl] at e
      cases e
    · rw [List.getElem?_eq_none (by rw [List.length_set]; omega)] at e
      cases e
  · rw [List.getElem?_set_ne hj] at e
    rw [List.getElem?_set_ne hj]
    exact h.2 i w e
def wipeD (δ : Dl) : List Nat → Dl
  | [] => δ
  | v :: vs => (wipeD δ vs).set v none
theorem Sl.wipe (h : Sl K B H σ δ) : ∀ vs : List Nat, Sl K B H (L2.wipe σ vs) (wipeD δ vs)
  | [] => h
  | v :: vs => Sl.drop (Sl.wipe h vs)
end

/-- the purse of draws: what is left to be cut off, the seed, how many were drawn -/
def PotAt (p : Addr) (n : Nat) (H : Hp) : Prop := ∃ a b c : Int, H p = some (.lst [.int a, .int b, .int c]) ∧ (0 ≤ a ∧ a.natAbs < 2 ^ 1000) ∧ (0 ≤ b ∧ b < 2305843009213693951) ∧ 0 ≤ c ∧ c ≤ n
abbrev Ls := List (Addr × List PD)
/-- the purse in hand; what others hold that may change behind the end -/
structure Ct where
  P : Option Addr
  W : List Addr
def Bs (C : Ct) (L : Ls) : List Addr := L.map (·.1) ++ C.P.toList
def Bd (C : Ct) (L : Ls) : List Addr := Bs C L ++ C.W
theorem bs_bd {C : Ct} {L : Ls} : ∀ b, b ∈ Bs C L → b ∈ Bd C L := fun _ h => List.mem_append_left _ h
structure Hold (K : PySem.W.Frag) (C : Ct) (L : Ls) (n : Nat) (H : Hp) : Prop where
  pot : ∀ p, C.P = some p → PotAt p n H
  ls : ∀ a ds, (a, ds) ∈ L → ∃ xs, H a = some (.lst xs) ∧ DvAll K (Bd C L) H xs ds
  nd : (Bs C L).Nodup
  wk : ∀ b, b ∈ C.W → H b ≠ none
  dj : ∀ x, x ∈ L → x.1 ∉ C.W
section
variable {K : PySem.W.Frag} {C : Ct} {L : Ls} {n m : Nat} {H H' : Hp}
theorem PotAt.mono {p : Addr} (h : PotAt p n H) (l : n ≤ m) : PotAt p m H := by
  obtain ⟨a, b, c, h1, h2, h3, h4, h5⟩ := h
  exact ⟨a, b, c, h1, h2, h3, h4, by omega⟩
theorem Hold.mono (h : Hold K C L n H) (l : n ≤ m) : Hold K C L m H := ⟨fun p e => (h.pot p e).mono l, h.ls, h.nd, h.wk, h.dj⟩
theorem same_some {b : Addr} (s : Same H H') (h : H b ≠ none) : H' b ≠ none := by
  cases e : H b with
  | none => exact absurd e h
  | some o =>
    rw [s b o e]
    simp
theorem Hold.same (h : Hold K C L n H) (s : Same H H') : Hold K C L n H' := by
  refine ⟨fun p e => ?_, fun a ds m => ?_, h.nd, fun b hb => same_some s (h.wk b hb), h.dj⟩
  · obtain ⟨a, b, c, h1, h2⟩ := h.pot p e
    exact ⟨a, b, c, s _ _ h1, h2⟩
  · obtain ⟨xs, h1, h2⟩ := h.ls a ds m
    exact ⟨xs, s _ _ h1, h2.keep (.same s)⟩
/-- all volatile addresses are known -/
theorem Hold.known (h : Hold K C L n H) {b : Addr} (hb : b ∈ Bd C L) : H b ≠ none := by
  rcases List.mem_append.mp hb with q | q
  · rcases List.mem_append.mp q with q | q
    · obtain ⟨⟨a, ds⟩, hm, rfl⟩ := List.mem_map.mp q
      obtain ⟨xs, h1, _⟩ := h.ls a ds hm
      show H a ≠ none
      rw [h1]
      simp
    · have e : C.P = some b := by simpa using q
      obtain ⟨_, _, _, h1, _⟩ := h.pot b e
      rw [h1]
      simp
  · exact h.wk b q
theorem Hold.fresh (h : Hold K C L n H) {p : Addr} (f : H p = none) : p ∉ Bd C L := fun z => h.known z f
end
theorem same_new {H : Hp} {p : Addr} {o : HO} (h : H p = none) : Same H (upd H p o) := fun b x e => by
  rw [upd_ne (ne_of_none e h)]
  exact e

/-! ### readings by data -/
section
variable {X : Cx}
theorem PE.imp {e : Expr} {t t' : TE} (h : PE X e t) (f : ∀ σ H Q, t' σ H Q → t σ H Q) : PE X e t' := ⟨fun pins s σ H Q I q => h.run pins s σ H Q I (f σ H Q q)⟩
theorem PT.imp {e : Expr} {t t' : TT} (h : PT X e t) (f : ∀ σ H Q, t' σ H Q → t σ H Q) : PT X e t' := ⟨fun pins s σ H Q I q => h.run pins s σ H Q I (f σ H Q q)⟩
theorem PW.imp {e : Expr} {t t' : TT} (h : PW X e t) (f : ∀ σ H Q, t' σ H Q → t σ H Q) : PW X e t' := ⟨fun wh pins s σ H Q I q => h.run wh pins s σ H Q I (f σ H Q q)⟩
theorem PA.imp {es : List Expr} {t t' : TA} (h : PA X es t) (f : ∀ σ H Q, t' σ H Q → t σ H Q) : PA X es t' := ⟨fun pos pins s σ H Q I q => h.run pos pins s σ H Q I (f σ H Q q)⟩
theorem PS.imp {st : Stmt} {t t' : TS} (h : PS X st t) (f : ∀ D σ H, t' D σ H → t D σ H) : PS X st t' := ⟨fun pins s σ H D I q => h.run pins s σ H D I (f D σ H q)⟩
theorem PSs.imp {st : List Stmt} {t t' : TS} (h : PSs X st t) (f : ∀ D σ H, t' D σ H → t D σ H) : PSs X st t' := ⟨fun pins s σ H D I q => h.run pins s σ H D I (f D σ H q)⟩
end

/-- where an expression stands -/
structure At (K : PySem.W.Frag) (C : Ct) (L : Ls) (δ : Dl) (n : Nat) (σ : L2.St) (H : Hp) : Prop where
  sl : Sl K (Bd C L) H σ δ
  hold : Hold K C L n H
def tOf (K : PySem.W.Frag) (C : Ct) (L : Ls) (δ : Dl) (n m : Nat) (R : SV → Prop) : TE := fun σ H Q => At K C L δ n σ H ∧
  ∀ v H2 sv, Keep (Bs C L) H H2 → Hold K C L m H2 → R sv → SvOk K (Bd C L) H2 v sv → Q v H2
def tTs (K : PySem.W.Frag) (C : Ct) (L : Ls) (δ : Dl) (n m : Nat) (b : Bool) : TT := fun σ H Q => At K C L δ n σ H ∧
  ∀ H2, Keep (Bs C L) H H2 → Hold K C L m H2 → Q b H2
inductive SvAll (K : PySem.W.Frag) (B : List Addr) (H : Hp) : List V → List SV → Prop
  | nil : SvAll K B H [] []
  | cons {v vs d ds} : SvOk K B H v d → SvAll K B H vs ds → SvAll K B H (v :: vs) (d :: ds)
theorem SvAll.keep {K : PySem.W.Frag} {B : List Addr} {H H' : Hp} : ∀ {ds : List SV} {vs : List V}, SvAll K B H vs ds → Keep B H H' → SvAll K B H' vs ds
  | [], _, h, _ => by cases h; exact .nil
  | _ :: ds, _, h, k => by
    cases h with
    | cons x y => exact .cons (x.keep k) (SvAll.keep y k)
theorem SvAll.data {K : PySem.W.Frag} {B : List Addr} {H : Hp} : ∀ {ds : List PD} {vs : List V}, SvAll K B H vs (ds.map SV.d) → DvAll K B H vs ds
  | [], _, h => by cases h; exact .nil
  | _ :: ds, _, h => by
    cases h with
    | cons x y => exact .cons x (SvAll.data y)
def tAr (K : PySem.W.Frag) (C : Ct) (L : Ls) (δ : Dl) (n m : Nat) (R : List SV → Prop) : TA := fun σ H Q => At K C L δ n σ H ∧
  ∀ vs H2 svs, Keep (Bs C L) H H2 → Hold K C L m H2 → R svs → SvAll K (Bd C L) H2 vs svs → Q vs H2
abbrev E (X : Cx) (C : Ct) (L : Ls) (δ : Dl) (e : Expr) (n m : Nat) (R : SV → Prop) : Prop := PE X e (tOf X.K C L δ n m R)
abbrev Ed (X : Cx) (C : Ct) (L : Ls) (δ : Dl) (e : Expr) (n m : Nat) (d : PD) : Prop := PE X e (tOf X.K C L δ n m (Eq (SV.d d)))
abbrev Ev (X : Cx) (C : Ct) (L : Ls) (δ : Dl) (e : Expr) (n m : Nat) (d : V) : Prop := PE X e (tOf X.K C L δ n m (Eq (SV.v d)))
abbrev T (X : Cx) (C : Ct) (L : Ls) (δ : Dl) (e : Expr) (n m : Nat) (b : Bool) : Prop := PT X e (tTs X.K C L δ n m b)
abbrev Tw (X : Cx) (C : Ct) (L : Ls) (δ : Dl) (e : Expr) (n m : Nat) (b : Bool) : Prop := PW X e (tTs X.K C L δ n m b)
abbrev Ar (X : Cx) (C : Ct) (L : Ls) (δ : Dl) (es : List Expr) (n m : Nat) (R : List SV → Prop) : Prop := PA X es (tAr X.K C L δ n m R)
abbrev Ad (X : Cx) (C : Ct) (L : Ls) (δ : Dl) (es : List Expr) (n m : Nat) (ds : List SV) : Prop := PA X es (tAr X.K C L δ n m (Eq ds))
abbrev Dd (X : Cx) (C : Ct) (L : Ls) (δ : Dl) (es : List Expr) (n m : Nat) (ds : List PD) : Prop := PA X es (tAr X.K C L δ n m (Eq (ds.map SV.d)))
section
variable {K : PySem.W.Frag} {C : Ct} {L : Ls} {δ : Dl} {n m : Nat} {σ : L2.St} {H H' : Hp}
theorem At.go (h : At K C L δ n σ H) (k : Keep (Bs C L) H H') (g : Hold K C L m H') : At K C L δ m σ H' := ⟨h.sl.keep (k.wider bs_bd), g⟩
theorem At.same (h : At K C L δ n σ H) (s : Same H H') : At K C L δ n σ H' := ⟨h.sl.keep (.same s), h.hold.same s⟩
end
end Wk
namespace Wk
open PySem PySem.Spec PyProof.Rows L2
section
variable {X : Cx} {C : Ct} {L : Ls} {δ : Dl} {n m k l : Nat} {a b c e f : Expr} {es : List Expr} {pos p : Pos} {da db dc d : PD} {x : Str}

/-! ### atoms -/
theorem e_var (i : Nat) {sv : SV} (hd : δ[i]? = some (some sv) := by rfl) (hN : X.N[i]? = some x := by rfl) (hv : Vis X.env.scope x := by first | exact Or.inl rfl | exact Or.inr (Or.inl rfl) | exact Or.inr (Or.inr rfl))
    (hb : (x == ("__debug__" : Str)) = false := by decide) (hcd : (x == ("__classdict__" : Str)) = false := by decide) : E X C L δ (.Name x pos) n n (Eq sv) :=
  PE.imp (pe_var (i := i) hN hv hb hcd) fun σ H Q ⟨t, q⟩ => by
    obtain ⟨v, h1, h2⟩ := t.sl.2 i sv hd
    exact ⟨v, h1, q v H sv (.refl _ _) t.hold rfl h2⟩
theorem e_const {e : Expr} {v : V} (h : PE X e (tC v)) (hd : ∀ H, Dv X.K (Bd C L) H v d) : Ed X C L δ e n n d := PE.imp h fun σ H Q ⟨t, q⟩ => q v H _ (.refl _ _) t.hold rfl (hd H)
theorem e_int {i : Int} {j : Nat} : Ed X C L δ (.Constant (.int i) j pos) n n (.int i) := e_const pe_int fun _ => .int i
theorem e_bl {i : Bool} {j : Nat} : Ed X C L δ (.Constant (.bool i) j pos) n n (.bool i) := e_const pe_bl fun _ => .bl i
theorem e_non {j : Nat} : Ed X C L δ (.Constant .none j pos) n n .none := e_const pe_non fun _ => .non
theorem e_str {i : Str} {j : Nat} : Ed X C L δ (.Constant (.str i) j pos) n n (.str i) := e_const pe_str fun _ => .str i
theorem e_mono {R : SV → Prop} (h : E X C L δ e n m R) (l : m ≤ k) : E X C L δ e n k R := PE.imp h fun σ H Q ⟨t, q⟩ => ⟨t, fun v H2 sv a b r s => q v H2 sv a (b.mono l) r s⟩
theorem e_imp {R R' : SV → Prop} (h : E X C L δ e n m R) (g : ∀ sv, R sv → R' sv) : E X C L δ e n m R' := PE.imp h fun σ H Q ⟨t, q⟩ => ⟨t, fun v H2 sv a b r s => q v H2 sv a b (g sv r) s⟩
theorem e_eq (h : Ed X C L δ e n m d) (g : d = da) : Ed X C L δ e n m da := g ▸ h
/-- a module's constant -/
theorem e_glob {v : V} {u : Value} (hm : X.mg x = some u) (r : RelV v u) (hd : ∀ B H, Dv X.K B H v d) (hg : Gl X x := by rfl) (hb : (x == ("__debug__" : Str)) = false := by decide) : Ed X C L δ (.Name x pos) n n d :=
  e_const (pe_glob hg hm r (hd := hb)) fun H => hd _ H

theorem e_globV {v : V} {u : Value} (hm : X.mg x = some u) (r : RelV v u) (hg : Gl X x := by rfl) (hb : (x == ("__debug__" : Str)) = false := by decide) : Ev X C L δ (.Name x pos) n n v :=
  PE.imp (pe_glob hg hm r (hd := hb)) fun σ H Q ⟨t, q⟩ => q v H _ (.refl _ _) t.hold rfl rfl
/-! ### operations by values -/
def V2 (K : PySem.W.Frag) (C : Ct) (L : Ls) (n : Nat) (r : R2) (da db d : PD) : Prop := ∀ x y H (Q : VK), Hold K C L n H → Dv K (Bd C L) H x da → Dv K (Bd C L) H y db → (∀ v H2, Same H H2 → Dv K (Bd C L) H2 v d → Q v H2) → r x y H Q
theorem e_op {op : Operator} {r : R2} (ho : OpR X (binaryOp op) r) (hr : V2 X.K C L k r da db d) (ha : Ed X C L δ a n m da) (hb : Ed X C L δ b m k db) : Ed X C L δ (.BinOp a op b pos) n k d :=
  PE.imp (pe_op ho ha hb) fun σ H Q ⟨t, q⟩ => ⟨t, fun v H2 sv k1 h1 e1 s1 => ⟨t.go k1 h1, fun u H3 su k2 h2 e2 s2 => by
    subst e1 e2
    exact hr v u H3 Q h2 (Dv.keep s1 (k2.wider bs_bd)) s2 fun z H4 s z' => q z H4 _ (k1.trans (k2.trans (.same s))) (h2.same s) rfl z'⟩⟩
theorem e_cmp {op : CmpOp} {r : R2} (ho : OpR X (compareOp op) r) (hr : V2 X.K C L k r da db d) (hm : behindInMarks op b = false) (ha : Ed X C L δ a n m da) (hb : Ed X C L δ b m k db) : Ed X C L δ (.Compare a [op] [b] pos) n k d :=
  PE.imp (pe_cmpR ho ha hb hm) fun σ H Q ⟨t, q⟩ => ⟨t, fun v H2 sv k1 h1 e1 s1 => ⟨t.go k1 h1, fun u H3 su k2 h2 e2 s2 => by
    subst e1 e2
    exact hr v u H3 Q h2 (Dv.keep s1 (k2.wider bs_bd)) s2 fun z H4 s z' => q z H4 _ (k1.trans (k2.trans (.same s))) (h2.same s) rfl z'⟩⟩
theorem t_cmp {op : CmpOp} {r : R2} {o : Bool} (ho : OpR X (compareOp op) r) (hr : V2 X.K C L k r da db (.bool o)) (hm : behindInMarks op b = false) (ha : Ed X C L δ a n m da) (hb : Ed X C L δ b m k db) : T X C L δ (.Compare a [op] [b] pos) n k o :=
  PT.imp (pt_cmpR ho ha hb hm) fun σ H Q ⟨t, q⟩ => ⟨t, fun v H2 sv k1 h1 e1 s1 => ⟨t.go k1 h1, fun u H3 su k2 h2 e2 s2 => by
    subst e1 e2
    refine hr v u H3 _ h2 (Dv.keep s1 (k2.wider bs_bd)) s2 fun z H4 s z' => ?_
    cases z'
    exact ⟨o, rfl, q H4 (k1.trans (k2.trans (.same s))) (h2.same s)⟩⟩⟩
theorem v_I0 {K : PySem.W.Frag} {g : Int → Int → V} {i j : Int} (hg : ∀ B H, Dv K B H (g i j) d) : V2 K C L n (rI0 g) (.int i) (.int j) d := fun x y H Q h hx hy q => by
  cases hx; cases hy
  exact ⟨i, j, rfl, rfl, q _ H (.refl H) (hg _ _)⟩
theorem v_I {K : PySem.W.Frag} {g : Int → Int → V} {i j : Int} {Cc : Int → Int → Prop} (hc : Cc i j) (hg : ∀ B H, Dv K B H (g i j) d) : V2 K C L n (rI Cc g) (.int i) (.int j) d := fun x y H Q h hx hy q => by
  cases hx; cases hy
  exact ⟨i, j, rfl, rfl, hc, q _ H (.refl H) (hg _ _)⟩
section
variable {i j : Int}
theorem e_add (ha : Ed X C L δ a n m (.int i)) (hb : Ed X C L δ b m k (.int j)) : Ed X C L δ (.BinOp a .Add b pos) n k (.int (i + j)) := e_op op_add (v_I0 fun _ _ => .int _) ha hb
theorem e_sub (ha : Ed X C L δ a n m (.int i)) (hb : Ed X C L δ b m k (.int j)) : Ed X C L δ (.BinOp a .Sub b pos) n k (.int (i - j)) := e_op op_sub (v_I0 fun _ _ => .int _) ha hb
theorem e_mul (hc : CMulW i j) (ha : Ed X C L δ a n m (.int i)) (hb : Ed X C L δ b m k (.int j)) : Ed X C L δ (.BinOp a .Mult b pos) n k (.int (i * j)) := e_op op_mulW (v_I hc fun _ _ => .int _) ha hb
theorem e_mod (hc : 0 < j) (ha : Ed X C L δ a n m (.int i)) (hb : Ed X C L δ b m k (.int j)) : Ed X C L δ (.BinOp a .Mod b pos) n k (.int (i % j)) := e_op op_mod (v_I hc fun _ _ => .int _) ha hb
theorem e_div (hc : CDivW i j) (ha : Ed X C L δ a n m (.int i)) (hb : Ed X C L δ b m k (.int j)) : Ed X C L δ (.BinOp a .FloorDiv b pos) n k (.int (i / j)) := e_op op_fdivW (v_I hc fun _ _ => .int _) ha hb
def CPowW (i j : Int) : Prop := 0 ≤ j ∧ (Builtin.Int.intBits i : Int) * j ≤ 2 ^ 27
instance {i j : Int} : Decidable (CPowW i j) := by
  unfold CPowW
  infer_instance
theorem op_powW : OpR X (binaryOp .Pow) (rI CPowW fun i j => .int (i ^ j.toNat)) := opI fun _ _ _ _ _ _ _ hc q => pow_int hc.1 hc.2 q
theorem e_pow (hc : CPowW i j) (ha : Ed X C L δ a n m (.int i)) (hb : Ed X C L δ b m k (.int j)) : Ed X C L δ (.BinOp a .Pow b pos) n k (.int (i ^ j.toNat)) := e_op op_powW (v_I hc fun _ _ => .int _) ha hb
theorem e_lt (ha : Ed X C L δ a n m (.int i)) (hb : Ed X C L δ b m k (.int j)) : Ed X C L δ (.Compare a [.Lt] [b] pos) n k (.bool (decide (i < j))) := e_cmp op_lt (v_I0 fun _ _ => .bl _) (nomark _) ha hb
theorem e_le (ha : Ed X C L δ a n m (.int i)) (hb : Ed X C L δ b m k (.int j)) : Ed X C L δ (.Compare a [.LtE] [b] pos) n k (.bool (decide (i ≤ j))) := e_cmp op_le (v_I0 fun _ _ => .bl _) (nomark _) ha hb
theorem e_gt (ha : Ed X C L δ a n m (.int i)) (hb : Ed X C L δ b m k (.int j)) : Ed X C L δ (.Compare a [.Gt] [b] pos) n k (.bool (decide (j < i))) := e_cmp op_gt (v_I0 fun _ _ => .bl _) (nomark _) ha hb
theorem e_ge (ha : Ed X C L δ a n m (.int i)) (hb : Ed X C L δ b m k (.int j)) : Ed X C L δ (.Compare a [.GtE] [b] pos) n k (.bool (decide (j ≤ i))) := e_cmp op_ge (v_I0 fun _ _ => .bl _) (nomark _) ha hb
theorem t_lt (ha : Ed X C L δ a n m (.int i)) (hb : Ed X C L δ b m k (.int j)) : T X C L δ (.Compare a [.Lt] [b] pos) n k (decide (i < j)) := t_cmp op_lt (v_I0 fun _ _ => .bl _) (nomark _) ha hb
theorem t_le (ha : Ed X C L δ a n m (.int i)) (hb : Ed X C L δ b m k (.int j)) : T X C L δ (.Compare a [.LtE] [b] pos) n k (decide (i ≤ j)) := t_cmp op_le (v_I0 fun _ _ => .bl _) (nomark _) ha hb
theorem t_gt (ha : Ed X C L δ a n m (.int i)) (hb : Ed X C L δ b m k (.int j)) : T X C L δ (.Compare a [.Gt] [b] pos) n k (decide (j < i)) := t_cmp op_gt (v_I0 fun _ _ => .bl _) (nomark _) ha hb
theorem t_ge (ha : Ed X C L δ a n m (.int i)) (hb : Ed X C L δ b m k (.int j)) : T X C L δ (.Compare a [.GtE] [b] pos) n k (decide (j ≤ i)) := t_cmp op_ge (v_I0 fun _ _ => .bl _) (nomark _) ha hb
end
/-! == and != of data -/
theorem v_eqD {K : PySem.W.Frag} (s1 : SeqAt.shaped da = true) (s2 : SeqAt.shaped db = true) : V2 K C L n (rEqD K) da db (.bool (PyData.eqv da db)) := fun x y H Q h hx hy q => ⟨da, db, Dv.dp _ _ hx, Dv.dp _ _ hy, s1, s2, q _ H (.refl H) (.bl _)⟩
theorem v_neD {K : PySem.W.Frag} (s1 : SeqAt.shaped da = true) (s2 : SeqAt.shaped db = true) : V2 K C L n (rNeD K) da db (.bool (!PyData.eqv da db)) := fun x y H Q h hx hy q => ⟨da, db, Dv.dp _ _ hx, Dv.dp _ _ hy, s1, s2, q _ H (.refl H) (.bl _)⟩
theorem e_eqD {r : Nat} (hr : Room r X.A) (s1 : SeqAt.shaped da = true) (s2 : SeqAt.shaped db = true) (ha : Ed X C L δ a n m da) (hb : Ed X C L δ b m k db) : Ed X C L δ (.Compare a [.Eq] [b] pos) n k (.bool (PyData.eqv da db)) := e_cmp (op_eqD hr.units) (v_eqD s1 s2) (nomark _) ha hb
theorem e_neD {r : Nat} (hr : Room r X.A) (s1 : SeqAt.shaped da = true) (s2 : SeqAt.shaped db = true) (ha : Ed X C L δ a n m da) (hb : Ed X C L δ b m k db) : Ed X C L δ (.Compare a [.NotEq] [b] pos) n k (.bool (!PyData.eqv da db)) := e_cmp (op_neD hr.units) (v_neD s1 s2) (nomark _) ha hb
theorem t_eqD {r : Nat} (hr : Room r X.A) (s1 : SeqAt.shaped da = true) (s2 : SeqAt.shaped db = true) (ha : Ed X C L δ a n m da) (hb : Ed X C L δ b m k db) : T X C L δ (.Compare a [.Eq] [b] pos) n k (PyData.eqv da db) := t_cmp (op_eqD hr.units) (v_eqD s1 s2) (nomark _) ha hb
theorem t_neD {r : Nat} (hr : Room r X.A) (s1 : SeqAt.shaped da = true) (s2 : SeqAt.shaped db = true) (ha : Ed X C L δ a n m da) (hb : Ed X C L δ b m k db) : T X C L δ (.Compare a [.NotEq] [b] pos) n k (!PyData.eqv da db) := t_cmp (op_neD hr.units) (v_neD s1 s2) (nomark _) ha hb
/-! of flat things: ints, bools, texts, None -/
theorem v_eqI {K : PySem.W.Frag} {i j : Int} : V2 K C L n rEq (.int i) (.int j) (.bool (decide (i = j))) := fun x y H Q h hx hy q => by
  cases hx; cases hy
  refine ⟨rfl, q _ H (.refl H) ?_⟩
  rw [show decide (V.int i = V.int j) = decide (i = j) by by_cases e : i = j <;> simp [e]]
  exact .bl _
theorem v_neI {K : PySem.W.Frag} {i j : Int} : V2 K C L n rNe (.int i) (.int j) (.bool (!decide (i = j))) := fun x y H Q h hx hy q => by
  cases hx; cases hy
  refine ⟨rfl, q _ H (.refl H) ?_⟩
  rw [show decide (V.int i = V.int j) = decide (i = j) by by_cases e : i = j <;> simp [e]]
  exact .bl _
theorem v_eqS {K : PySem.W.Frag} {i j : Str} : V2 K C L n rEq (.str i) (.str j) (.bool (decide (i = j))) := fun x y H Q h hx hy q => by
  cases hx; cases hy
  refine ⟨rfl, q _ H (.refl H) ?_⟩
  rw [show decide (V.str i = V.str j) = decide (i = j) by by_cases e : i = j <;> simp [e]]
  exact .bl _
theorem v_neS {K : PySem.W.Frag} {i j : Str} : V2 K C L n rNe (.str i) (.str j) (.bool (!decide (i = j))) := fun x y H Q h hx hy q => by
  cases hx; cases hy
  refine ⟨rfl, q _ H (.refl H) ?_⟩
  rw [show decide (V.str i = V.str j) = decide (i = j) by by_cases e : i = j <;> simp [e]]
  exact .bl _
theorem v_neB {K : PySem.W.Frag} {i j : Bool} : V2 K C L n rNe (.bool i) (.bool j) (.bool (i != j)) := fun x y H Q h hx hy q => by
  cases hx; cases hy
  refine ⟨rfl, q _ H (.refl H) ?_⟩
  rw [show (!decide (V.bl i = V.bl j)) = (i != j) by cases i <;> cases j <;> rfl]
  exact .bl _
section
variable {i j : Int} {s t : Str} {u v : Bool}
theorem e_eqI (ha : Ed X C L δ a n m (.int i)) (hb : Ed X C L δ b m k (.int j)) : Ed X C L δ (.Compare a [.Eq] [b] pos) n k (.bool (decide (i = j))) := e_cmp op_eq v_eqI (nomark _) ha hb
theorem e_neI (ha : Ed X C L δ a n m (.int i)) (hb : Ed X C L δ b m k (.int j)) : Ed X C L δ (.Compare a [.NotEq] [b] pos) n k (.bool (!decide (i = j))) := e_cmp op_ne v_neI (nomark _) ha hb
theorem t_eqI (ha : Ed X C L δ a n m (.int i)) (hb : Ed X C L δ b m k (.int j)) : T X C L δ (.Compare a [.Eq] [b] pos) n k (decide (i = j)) := t_cmp op_eq v_eqI (nomark _) ha hb
theorem t_neI (ha : Ed X C L δ a n m (.int i)) (hb : Ed X C L δ b m k (.int j)) : T X C L δ (.Compare a [.NotEq] [b] pos) n k (!decide (i = j)) := t_cmp op_ne v_neI (nomark _) ha hb
theorem e_eqS (ha : Ed X C L δ a n m (.str s)) (hb : Ed X C L δ b m k (.str t)) : Ed X C L δ (.Compare a [.Eq] [b] pos) n k (.bool (decide (s = t))) := e_cmp op_eq v_eqS (nomark _) ha hb
theorem t_eqS (ha : Ed X C L δ a n m (.str s)) (hb : Ed X C L δ b m k (.str t)) : T X C L δ (.Compare a [.Eq] [b] pos) n k (decide (s = t)) := t_cmp op_eq v_eqS (nomark _) ha hb
theorem e_neS (ha : Ed X C L δ a n m (.str s)) (hb : Ed X C L δ b m k (.str t)) : Ed X C L δ (.Compare a [.NotEq] [b] pos) n k (.bool (!decide (s = t))) := e_cmp op_ne v_neS (nomark _) ha hb
theorem t_neS (ha : Ed X C L δ a n m (.str s)) (hb : Ed X C L δ b m k (.str t)) : T X C L δ (.Compare a [.NotEq] [b] pos) n k (!decide (s = t)) := t_cmp op_ne v_neS (nomark _) ha hb
theorem e_neB (ha : Ed X C L δ a n m (.bool u)) (hb : Ed X C L δ b m k (.bool v)) : Ed X C L δ (.Compare a [.NotEq] [b] pos) n k (.bool (u != v)) := e_cmp op_ne v_neB (nomark _) ha hb
end
/-- a <= b <= c -/
theorem e_chain {op op' : CmpOp} {r r' : R2} {u v : Bool} (ho : OpR X (compareOp op) r) (ho' : OpR X (compareOp op') r') (h1 : V2 X.K C L n r da db (.bool u)) (h2 : V2 X.K C L n r' db dc (.bool v))
    (ha : Ed X C L δ a n n da) (hb : Ed X C L δ b n n db) (hc : u = true → Ed X C L δ c n n dc) (hm : lastMarks [op, op'] [b, c] = false := by with_unfolding_all rfl) : Ed X C L δ (.Compare a [op, op'] [b, c] pos) n n (.bool (u && v)) := by
  cases u with
  | false =>
    have hF : PE X c (fun _ _ _ => False) := ⟨fun _ _ _ _ _ _ h => h.elim⟩
    refine PE.imp (pe_chain ho ho' ha hb hF hm) fun σ H Q ⟨t, q⟩ => ⟨t, fun v1 H2 sv k1 g1 e1 s1 => ⟨t.go k1 g1, fun u1 H3 su k2 g2 e2 s2 => ?_⟩⟩
    subst e1 e2
    refine h1 v1 u1 H3 _ g2 (Dv.keep s1 (k2.wider bs_bd)) s2 fun z H4 s z' => ?_
    cases z'
    exact ⟨false, rfl, iteF (q _ H4 _ (k1.trans (k2.trans (.same s))) (g2.same s) rfl (.bl _))⟩
  | true =>
    refine PE.imp (pe_chain ho ho' ha hb (hc rfl) hm) fun σ H Q ⟨t, q⟩ => ⟨t, fun v1 H2 sv k1 g1 e1 s1 => ⟨t.go k1 g1, fun u1 H3 su k2 g2 e2 s2 => ?_⟩⟩
    subst e1 e2
    refine h1 v1 u1 H3 _ g2 (Dv.keep s1 (k2.wider bs_bd)) s2 fun z H4 s z' => ?_
    cases z'
    refine ⟨true, rfl, iteT ⟨(t.go k1 g1).go (k2.trans (.same s)) (g2.same s), fun w1 H5 sw k3 g3 e3 s3 => ?_⟩⟩
    subst e3
    refine h2 u1 w1 H5 _ g3 (Dv.keep s2 ((Keep.same s).trans (k3.wider bs_bd))) s3 fun z H6 s' z' => ?_
    cases z'
    exact q _ H6 _ (k1.trans (k2.trans ((Keep.same s).trans (k3.trans (.same s'))))) (g3.same s') rfl (.bl _)
end
end Wk
namespace Wk
open PySem PySem.Spec PyProof.Rows L2
section
variable {X : Cx} {C : Ct} {L : Ls} {δ : Dl} {n m k l : Nat} {a b c e f : Expr} {es : List Expr} {pos p : Pos} {da db dc d : PD} {x : Str} {u v : Bool}

/-! ### truth values -/
theorem t_val (h : Ed X C L δ e n m (.bool u)) (he : ∀ whole, isTrue e X.env whole = (do let v ← whole; standAt e.pos; holding [v] (truthy v)) := by intro _; rfl) : T X C L δ e n m u :=
  PT.imp (pt_val h he) fun σ H Q ⟨t, q⟩ => ⟨t, fun v H2 sv k1 h1 e1 s1 => by
    subst e1
    cases s1
    exact ⟨u, rfl, q H2 k1 h1⟩⟩
theorem t_not (h : T X C L δ a n m u) : T X C L δ (.UnaryOp .Not a pos) n m (!u) := PT.imp (pt_not h) fun σ H Q ⟨t, q⟩ => ⟨t, fun H2 k1 h1 => q H2 k1 h1⟩
theorem w_and1 (h : T X C L δ a n m u) : Tw X C L δ (.BoolOp .And [a] pos) n m u := pw_and1 h
theorem w_or1 (h : T X C L δ a n m u) : Tw X C L δ (.BoolOp .Or [a] pos) n m u := pw_or1 h
theorem pw_no {e : Expr} : PW X e (fun _ _ _ => False) := ⟨fun _ _ _ _ _ _ _ h => h.elim⟩
theorem pe_no {e : Expr} : PE X e (fun _ _ _ => False) := ⟨fun _ _ _ _ _ _ h => h.elim⟩
theorem w_and (h : T X C L δ a n n u) (g : u = true → Tw X C L δ (.BoolOp .And (b :: es) pos) n n v) : Tw X C L δ (.BoolOp .And (a :: b :: es) pos) n n (u && v) := by
  cases u with
  | true => exact PW.imp (pw_and h (g rfl)) fun σ H Q ⟨t, q⟩ => ⟨t, fun H2 k1 h1 => iteT ⟨t.go k1 h1, fun H3 k2 h2 => q H3 (k1.trans k2) h2⟩⟩
  | false => exact PW.imp (pw_and h pw_no) fun σ H Q ⟨t, q⟩ => ⟨t, fun H2 k1 h1 => iteF (q H2 k1 h1)⟩
theorem w_or (h : T X C L δ a n n u) (g : u = false → Tw X C L δ (.BoolOp .Or (b :: es) pos) n n v) : Tw X C L δ (.BoolOp .Or (a :: b :: es) pos) n n (u || v) := by
  cases u with
  | false => exact PW.imp (pw_or h (g rfl)) fun σ H Q ⟨t, q⟩ => ⟨t, fun H2 k1 h1 => iteF ⟨t.go k1 h1, fun H3 k2 h2 => q H3 (k1.trans k2) h2⟩⟩
  | true => exact PW.imp (pw_or h pw_no) fun σ H Q ⟨t, q⟩ => ⟨t, fun H2 k1 h1 => iteT (q H2 k1 h1)⟩
theorem t_of (h : Tw X C L δ e n m u) : T X C L δ e n m u := h.pt
theorem e_one {op : BoolOp} (h : Ed X C L δ a n m d) : Ed X C L δ (.BoolOp op [a] pos) n m d := pe_one h
theorem e_and (h : Ed X C L δ a n n (.bool u)) (g : u = true → Ed X C L δ (.BoolOp .And (b :: es) pos) n n (.bool v)) : Ed X C L δ (.BoolOp .And (a :: b :: es) pos) n n (.bool (u && v)) := by
  cases u with
  | true => exact PE.imp (pe_and h (g rfl)) fun σ H Q ⟨t, q⟩ => ⟨t, fun w H2 sv k1 h1 e1 s1 => by
      subst e1
      cases s1
      exact ⟨true, rfl, iteT ⟨t.go k1 h1, fun w H3 sw k2 h2 e2 s2 => q w H3 sw (k1.trans k2) h2 e2 s2⟩⟩⟩
  | false => exact PE.imp (pe_and h pe_no) fun σ H Q ⟨t, q⟩ => ⟨t, fun w H2 sv k1 h1 e1 s1 => by
      subst e1
      cases s1
      exact ⟨false, rfl, iteF (q _ H2 _ k1 h1 rfl (.bl _))⟩⟩
theorem e_or (h : Ed X C L δ a n n (.bool u)) (g : u = false → Ed X C L δ (.BoolOp .Or (b :: es) pos) n n (.bool v)) : Ed X C L δ (.BoolOp .Or (a :: b :: es) pos) n n (.bool (u || v)) := by
  cases u with
  | false => exact PE.imp (pe_or h (g rfl)) fun σ H Q ⟨t, q⟩ => ⟨t, fun w H2 sv k1 h1 e1 s1 => by
      subst e1
      cases s1
      exact ⟨false, rfl, iteF ⟨t.go k1 h1, fun w H3 sw k2 h2 e2 s2 => q w H3 sw (k1.trans k2) h2 e2 s2⟩⟩⟩
  | true => exact PE.imp (pe_or h pe_no) fun σ H Q ⟨t, q⟩ => ⟨t, fun w H2 sv k1 h1 e1 s1 => by
      subst e1
      cases s1
      exact ⟨true, rfl, iteT (q _ H2 _ k1 h1 rfl (.bl _))⟩⟩
theorem e_not (h : Ed X C L δ a n m (.bool u)) : Ed X C L δ (.UnaryOp .Not a pos) n m (.bool (!u)) := PE.imp (pe_not h) fun σ H Q ⟨t, q⟩ => ⟨t, fun w H2 sv k1 h1 e1 s1 => by
  subst e1
  cases s1
  exact ⟨u, rfl, q _ H2 _ k1 h1 rfl (.bl _)⟩⟩
theorem e_if {R : SV → Prop} (h : T X C L δ c n m u) (ha : u = true → E X C L δ a m k R) (hb : u = false → E X C L δ b m k R) : E X C L δ (.IfExp c a b pos) n k R := by
  cases u with
  | true => exact PE.imp (pe_ifExp h (ha rfl) pe_no) fun σ H Q ⟨t, q⟩ => ⟨t, fun H2 k1 h1 => iteT ⟨t.go k1 h1, fun w H3 sw k2 h2 e2 s2 => q w H3 sw (k1.trans k2) h2 e2 s2⟩⟩
  | false => exact PE.imp (pe_ifExp h pe_no (hb rfl)) fun σ H Q ⟨t, q⟩ => ⟨t, fun H2 k1 h1 => iteF ⟨t.go k1 h1, fun w H3 sw k2 h2 e2 s2 => q w H3 sw (k1.trans k2) h2 e2 s2⟩⟩

/-! ### arguments, displays -/
theorem a_nil : Dd X C L δ [] n n [] := PA.imp pa_nil fun σ H Q ⟨t, q⟩ => q [] H [] (.refl _ _) t.hold rfl .nil
theorem a_cons {ds : List PD} (h : Ed X C L δ e n m d) (g : Dd X C L δ es m k ds) (hs : starEach (e :: es) X.env = (false, eval e X.env) :: starEach es X.env := by rfl) : Dd X C L δ (e :: es) n k (d :: ds) :=
  PA.imp (pa_cons h g hs) fun σ H Q ⟨t, q⟩ => ⟨t, fun v H2 sv k1 h1 e1 s1 => ⟨t.go k1 h1, fun vs H3 svs k2 h2 e2 s2 => by
    subst e1 e2
    exact q (v :: vs) H3 _ (k1.trans k2) h2 rfl (.cons (SvOk.keep (sv := .d d) s1 (k2.wider bs_bd)) s2)⟩⟩
/-- with one that is no data ahead -/
theorem a_first {w : V} {ds : List PD} (h : Ev X C L δ e n m w) (g : Dd X C L δ es m k ds) (hs : starEach (e :: es) X.env = (false, eval e X.env) :: starEach es X.env := by rfl) : Ad X C L δ (e :: es) n k (.v w :: ds.map SV.d) :=
  PA.imp (pa_cons h g hs) fun σ H Q ⟨t, q⟩ => ⟨t, fun v H2 sv k1 h1 e1 s1 => ⟨t.go k1 h1, fun vs H3 svs k2 h2 e2 s2 => by
    subst e1 e2
    exact q (v :: vs) H3 _ (k1.trans k2) h2 rfl (.cons s1 s2)⟩⟩
/-- of any kind, by what is known of each -/
theorem ar_nil : Ar X C L δ [] n n (fun svs => svs = []) := PA.imp pa_nil fun σ H Q ⟨t, q⟩ => q [] H [] (.refl _ _) t.hold rfl .nil
theorem ar_cons {R : SV → Prop} {S : List SV → Prop} (h : E X C L δ e n m R) (g : Ar X C L δ es m k S) (hs : starEach (e :: es) X.env = (false, eval e X.env) :: starEach es X.env := by rfl) :
    Ar X C L δ (e :: es) n k (fun svs => ∃ s r, svs = s :: r ∧ R s ∧ S r) :=
  PA.imp (pa_cons h g hs) fun σ H Q ⟨t, q⟩ => ⟨t, fun v H2 sv k1 h1 e1 s1 => ⟨t.go k1 h1, fun vs H3 svs k2 h2 e2 s2 =>
    q (v :: vs) H3 (sv :: svs) (k1.trans k2) h2 ⟨_, _, rfl, e1, e2⟩ (.cons (s1.keep (k2.wider bs_bd)) s2)⟩⟩
theorem DvAll.len {K : PySem.W.Frag} {B : List Addr} {H : Hp} {vs : List V} {ds : List PD} (h : DvAll K B H vs ds) : vs.length = ds.length := DvAll.length h
theorem e_tup {ds : List PD} {j : Nat} (h : Dd X C L δ es n m ds) (hz : ds.length ≤ 1000 := by exact Nat.le_of_ble_eq_true rfl) : Ed X C L δ (.Tuple es j pos) n m (.tuple ds) :=
  PE.imp (pe_tup h) fun σ H Q ⟨t, q⟩ => ⟨t, fun vs H2 svs k1 h1 e1 s1 => by
    subst e1
    have g := s1.data
    refine ⟨?_, fun r nr => ?_⟩
    · rw [g.length]
      exact Nat.le_of_lt (small1000 hz)
    · have sm := same_new (o := .tup vs) nr
      exact q (.ref r) _ _ (k1.trans (.same sm)) (h1.same sm) rfl (Dv.tup (.inl ⟨h1.fresh nr, .inl upd_same⟩) (g.keep (.same sm)))⟩
theorem e_lst {ds : List PD} (h : Dd X C L δ es n m ds) (hz : ds.length ≤ 1000 := by exact Nat.le_of_ble_eq_true rfl) : Ed X C L δ (.List es pos) n m (.list ds) :=
  PE.imp (pe_lst h) fun σ H Q ⟨t, q⟩ => ⟨t, fun vs H2 svs k1 h1 e1 s1 => by
    subst e1
    have g := s1.data
    refine ⟨?_, fun r nr => ?_⟩
    · rw [g.length]
      exact Nat.le_of_lt (small1000 hz)
    · have sm := same_new (o := .lst vs) nr
      exact q (.ref r) _ _ (k1.trans (.same sm)) (h1.same sm) rfl (Dv.lst (.inl ⟨h1.fresh nr, .inl upd_same⟩) (g.keep (.same sm)))⟩
/-- a tuple of drawn things -/
theorem e_tupR {R : List SV → Prop} {j : Nat} (h : Ar X C L δ es n m R) (hR : ∀ svs, R svs → ∃ ds : List PD, svs = ds.map SV.d ∧ ds.length ≤ 1000) : E X C L δ (.Tuple es j pos) n m (fun sv => ∃ ds : List PD, sv = .d (.tuple ds) ∧ R (ds.map SV.d)) :=
  PE.imp (pe_tup h) fun σ H Q ⟨t, q⟩ => ⟨t, fun vs H2 svs k1 h1 e1 s1 => by
    obtain ⟨ds, rfl, hz⟩ := hR svs e1
    have g := s1.data
    refine ⟨?_, fun r nr => ?_⟩
    · rw [g.length]
      exact Nat.le_of_lt (small1000 hz)
    · have sm := same_new (o := .tup vs) nr
      exact q (.ref r) _ _ (k1.trans (.same sm)) (h1.same sm) ⟨ds, rfl, e1⟩ (Dv.tup (.inl ⟨h1.fresh nr, .inl upd_same⟩) (g.keep (.same sm)))⟩

/-! ### items -/
theorem atI_at {K : PySem.W.Frag} {B : List Addr} {H : Hp} {vs : List V} {ds : List PD} {i : Int} {d : PD} (h : DvAll K B H vs ds) (e : atI ds i = some d) : ∃ w, atI vs i = some w ∧ Dv K B H w d := by
  unfold atI at e ⊢
  rw [h.length]
  cases q : ixN ds.length i with
  | none =>
    rw [q] at e
    cases e
  | some j =>
    rw [q] at e
    exact h.get e
theorem e_ixT {ds : List PD} {i : Int} (ha : Ed X C L δ a n m (.tuple ds)) (hb : Ed X C L δ b m k (.int i)) (hi : atI ds i = some d := by rfl) (hs : PlainIx b := by intro _ _; rfl) : Ed X C L δ (.Subscript a b pos) n k d :=
  PE.imp (pe_ix ix_tup ha hb hs) fun σ H Q ⟨t, q⟩ => ⟨t, fun v H2 sv k1 h1 e1 s1 => ⟨t.go k1 h1, fun w H3 sw k2 h2 e2 s2 => by
    subst e1 e2
    cases s2
    have s3 := Dv.keep s1 (k2.wider bs_bd)
    cases s3 with
    | tup r g =>
      obtain ⟨z, hz, hd⟩ := atI_at g hi
      exact ⟨_, _, i, z, rfl, rfl, r.sq, hz, q z H3 _ (k1.trans k2) h2 rfl hd⟩⟩⟩
theorem e_ixL {ds : List PD} {i : Int} (ha : Ed X C L δ a n m (.list ds)) (hb : Ed X C L δ b m k (.int i)) (hi : atI ds i = some d := by rfl) (hs : PlainIx b := by intro _ _; rfl) : Ed X C L δ (.Subscript a b pos) n k d :=
  PE.imp (pe_ix ix_list ha hb hs) fun σ H Q ⟨t, q⟩ => ⟨t, fun v H2 sv k1 h1 e1 s1 => ⟨t.go k1 h1, fun w H3 sw k2 h2 e2 s2 => by
    subst e1 e2
    cases s2
    have s3 := Dv.keep s1 (k2.wider bs_bd)
    cases s3 with
    | lst r g =>
      obtain ⟨z, hz, hd⟩ := atI_at g hi
      exact ⟨_, _, i, z, rfl, rfl, r.sq, hz, q z H3 _ (k1.trans k2) h2 rfl hd⟩⟩⟩
/-- of a list that is being filled -/
theorem e_ixM {ds : List PD} {i : Int} {r : Addr} (hm : (r, ds) ∈ L) (ha : Ev X C L δ a n m (.ref r)) (hb : Ed X C L δ b m k (.int i)) (hi : atI ds i = some d := by rfl) (hs : PlainIx b := by intro _ _; rfl) : Ed X C L δ (.Subscript a b pos) n k d :=
  PE.imp (pe_ix ix_list ha hb hs) fun σ H Q ⟨t, q⟩ => ⟨t, fun v H2 sv k1 h1 e1 s1 => ⟨t.go k1 h1, fun w H3 sw k2 h2 e2 s2 => by
    subst e1 e2
    cases s2
    have e3 : v = .ref r := s1
    obtain ⟨xs, hx, g⟩ := h2.ls r ds hm
    obtain ⟨z, hz, hd⟩ := atI_at g hi
    exact ⟨r, xs, i, z, e3, rfl, .inl (.inl hx), hz, q z H3 _ (k1.trans k2) h2 rfl hd⟩⟩⟩

/-! ### calls of built-in functions and types -/
def Vc (K : PySem.W.Frag) (C : Ct) (L : Ls) (n : Nat) (r : List V → Hp → VK → Prop) (R : List SV → Prop) (S : SV → Prop) : Prop := ∀ vs svs H (Q : VK), Hold K C L n H → R svs → SvAll K (Bd C L) H vs svs → (∀ v H2 sv, Same H H2 → S sv → SvOk K (Bd C L) H2 v sv → Q v H2) → r vs H Q
theorem e_callB {r : List V → Hp → VK → Prop} {R : List SV → Prop} {S : SV → Prop} {id : String} (hc : CallR X (.builtin id) r) (hr : Vc X.K C L m r R S) (hm : X.mg x = none) (hv : bootBuiltins x = some (.builtin id)) (ha : Ar X C L δ (e :: es) n m R)
    (hg : Gl X x := by rfl) (hn : x ≠ "__name__" := by decide) (hdb : (x == ("__debug__" : Str)) = false := by decide) (he : starEach (e :: es) X.env = (false, eval e X.env) :: starEach es X.env := by rfl) (hpl : (backTo pos (starEach es X.env)).any (·.1) = false := by rfl) :
    E X C L δ (.Call (.Name x p) (e :: es) [] pos) n m S :=
  PE.imp (pe_callB hc hg hm hv ha hn hdb he hpl) fun σ H Q ⟨t, q⟩ => ⟨t, fun vs H2 svs k1 h1 e1 s1 => hr vs svs H2 Q h1 e1 s1 fun v H3 sv s g g' => q v H3 sv (k1.trans (.same s)) (h1.same s) g g'⟩
theorem e_callTy {r : List V → Hp → VK → Prop} {R : List SV → Prop} {S : SV → Prop} {ty : String} (hc : CallR X (.type ty) r) (hr : Vc X.K C L m r R S) (hm : X.mg x = none) (hv : bootBuiltins x = some (.type ty)) (ha : Ar X C L δ (e :: es) n m R)
    (hg : Gl X x := by rfl) (hn : x ≠ "__name__" := by decide) (hdb : (x == ("__debug__" : Str)) = false := by decide) (he : starEach (e :: es) X.env = (false, eval e X.env) :: starEach es X.env := by rfl) (hpl : (backTo pos (starEach es X.env)).any (·.1) = false := by rfl) :
    E X C L δ (.Call (.Name x p) (e :: es) [] pos) n m S :=
  PE.imp (pe_callTy hc hg hm hv ha hn hdb he hpl) fun σ H Q ⟨t, q⟩ => ⟨t, fun vs H2 svs k1 h1 e1 s1 => hr vs svs H2 Q h1 e1 s1 fun v H3 sv s g g' => q v H3 sv (k1.trans (.same s)) (h1.same s) g g'⟩
theorem DvAll.one {K : PySem.W.Frag} {B : List Addr} {H : Hp} {vs : List V} {d : PD} (h : SvAll K B H vs ([d].map SV.d)) : ∃ v, vs = [v] ∧ Dv K B H v d := by
  cases h with
  | cons x y =>
    cases y
    exact ⟨_, rfl, x⟩
theorem DvAll.two {K : PySem.W.Frag} {B : List Addr} {H : Hp} {vs : List V} {d e : PD} (h : SvAll K B H vs ([d, e].map SV.d)) : ∃ v w, vs = [v, w] ∧ Dv K B H v d ∧ Dv K B H w e := by
  cases h with
  | cons x y =>
    cases y with
    | cons z y =>
      cases y
      exact ⟨_, _, rfl, x, z⟩
section
variable {i j : Int} {ds : List PD}
theorem e_lenT (hm : X.mg "len" = none) (h : Ed X C L δ e n m (.tuple ds)) (hg : Gl X "len" := by rfl) (he : starEach [e] X.env = (false, eval e X.env) :: starEach [] X.env := by rfl) : Ed X C L δ (.Call (.Name "len" p) [e] [] pos) n m (.int ds.length) :=
  e_callB call_len_seq (R := Eq ([.tuple ds].map SV.d)) (fun vs svs H Q h1 e1 s1 q => by
    subst e1
    obtain ⟨v, rfl, g⟩ := DvAll.one s1
    cases g with
    | tup r g =>
      refine ⟨_, _, rfl, .inr r.sq, ?_⟩
      rw [g.length]
      exact q _ H _ (.refl H) rfl (Dv.int _)) hm PySem.boot_len (a_cons h a_nil he) hg (he := he)
theorem e_lenL (hm : X.mg "len" = none) (h : Ed X C L δ e n m (.list ds)) (hg : Gl X "len" := by rfl) (he : starEach [e] X.env = (false, eval e X.env) :: starEach [] X.env := by rfl) : Ed X C L δ (.Call (.Name "len" p) [e] [] pos) n m (.int ds.length) :=
  e_callB call_len_seq (R := Eq ([.list ds].map SV.d)) (fun vs svs H Q h1 e1 s1 q => by
    subst e1
    obtain ⟨v, rfl, g⟩ := DvAll.one s1
    cases g with
    | lst r g =>
      refine ⟨_, _, rfl, .inl r.sq, ?_⟩
      rw [g.length]
      exact q _ H _ (.refl H) rfl (Dv.int _)) hm PySem.boot_len (a_cons h a_nil he) hg (he := he)
theorem e_abs (hm : X.mg "abs" = none) (h : Ed X C L δ e n m (.int i)) (hg : Gl X "abs" := by rfl) (he : starEach [e] X.env = (false, eval e X.env) :: starEach [] X.env := by rfl) : Ed X C L δ (.Call (.Name "abs" p) [e] [] pos) n m (.int (if i < 0 then -i else i)) :=
  e_callB call_abs (R := Eq ([.int i].map SV.d)) (fun vs svs H Q h1 e1 s1 q => by
    subst e1
    obtain ⟨v, rfl, g⟩ := DvAll.one s1
    cases g
    exact ⟨i, rfl, q _ H _ (.refl H) rfl (Dv.int _)⟩) hm (by decide +kernel) (a_cons h a_nil he) hg (he := he)
theorem e_intI (hm : X.mg "int" = none) (h : Ed X C L δ e n m (.int i)) (hg : Gl X "int" := by rfl) (he : starEach [e] X.env = (false, eval e X.env) :: starEach [] X.env := by rfl) : Ed X C L δ (.Call (.Name "int" p) [e] [] pos) n m (.int i) :=
  e_callTy call_int1 (R := Eq ([.int i].map SV.d)) (fun vs svs H Q h1 e1 s1 q => by
    subst e1
    obtain ⟨v, rfl, g⟩ := DvAll.one s1
    cases g
    exact .inl ⟨i, rfl, q _ H _ (.refl H) rfl (Dv.int _)⟩) hm (by decide +kernel) (a_cons h a_nil he) hg (he := he)
theorem e_intB (hm : X.mg "int" = none) (h : Ed X C L δ e n m (.bool u)) (hg : Gl X "int" := by rfl) (he : starEach [e] X.env = (false, eval e X.env) :: starEach [] X.env := by rfl) : Ed X C L δ (.Call (.Name "int" p) [e] [] pos) n m (.int (if u then 1 else 0)) :=
  e_callTy call_int1 (R := Eq ([.bool u].map SV.d)) (fun vs svs H Q h1 e1 s1 q => by
    subst e1
    obtain ⟨v, rfl, g⟩ := DvAll.one s1
    cases g
    exact .inr ⟨u, rfl, q _ H _ (.refl H) rfl (Dv.int _)⟩) hm (by decide +kernel) (a_cons h a_nil he) hg (he := he)
theorem e_all {bs : List Bool} (hc : X.calm = true) (hm : X.mg "all" = none) (h : Ed X C L δ e n m (.list (bs.map PyData.bool))) (hg : Gl X "all" := by rfl) (he : starEach [e] X.env = (false, eval e X.env) :: starEach [] X.env := by rfl) : Ed X C L δ (.Call (.Name "all" p) [e] [] pos) n m (.bool (bs.all id)) :=
  e_callB (cr_all hc) (R := Eq ([.list (bs.map PyData.bool)].map SV.d)) (fun vs svs H Q h1 e1 s1 q => by
    subst e1
    obtain ⟨v, rfl, g⟩ := DvAll.one s1
    cases g with
    | lst r g =>
      have e := g.bools
      subst e
      exact ⟨_, bs, rfl, r.sq, q _ H _ (.refl H) rfl (Dv.bl _)⟩) hm (by decide +kernel) (a_cons h a_nil he) hg (he := he)
theorem e_sum {ns : List Int} (hc : X.calm = true) (hm : X.mg "sum" = none) (h : Ed X C L δ e n m (.list (ns.map PyData.int))) (hg : Gl X "sum" := by rfl) (he : starEach [e] X.env = (false, eval e X.env) :: starEach [] X.env := by rfl) : Ed X C L δ (.Call (.Name "sum" p) [e] [] pos) n m (.int ns.sum) :=
  e_callB (cr_sum hc) (R := Eq ([.list (ns.map PyData.int)].map SV.d)) (fun vs svs H Q h1 e1 s1 q => by
    subst e1
    obtain ⟨v, rfl, g⟩ := DvAll.one s1
    cases g with
    | lst r g =>
      have e := g.ints
      subst e
      exact ⟨_, ns, rfl, r.sq, q _ H _ (.refl H) rfl (Dv.int _)⟩) hm (by decide +kernel) (a_cons h a_nil he) hg (he := he)
theorem e_tupleL (hm : X.mg "tuple" = none) (h : Ed X C L δ e n m (.list ds)) (hg : Gl X "tuple" := by rfl) (he : starEach [e] X.env = (false, eval e X.env) :: starEach [] X.env := by rfl) : Ed X C L δ (.Call (.Name "tuple" p) [e] [] pos) n m (.tuple ds) :=
  e_callTy call_tuple_of (R := Eq ([.list ds].map SV.d)) (fun vs svs H Q h1 e1 s1 q => by
    subst e1
    obtain ⟨v, rfl, g⟩ := DvAll.one s1
    cases g with
    | @lst _ xs _ r g =>
      refine ⟨_, xs, rfl, .inl ⟨r.sq, fun l nl => ?_⟩⟩
      have sm := same_new (o := .tup xs) nl
      exact q _ _ _ sm rfl (Dv.tup (.inl ⟨h1.fresh nl, .inl upd_same⟩) (g.keep (.same sm)))) hm (by decide +kernel) (a_cons h a_nil he) hg (he := he)
/-- tuple(..) of a list of drawn things -/
theorem e_tupleR {R : List PD → Prop} (hm : X.mg "tuple" = none) (h : E X C L δ e n m (fun sv => ∃ ds, sv = .d (.list ds) ∧ R ds)) (hg : Gl X "tuple" := by rfl) (he : starEach [e] X.env = (false, eval e X.env) :: starEach [] X.env := by rfl) : E X C L δ (.Call (.Name "tuple" p) [e] [] pos) n m (fun sv => ∃ ds, sv = .d (.tuple ds) ∧ R ds) :=
  e_callTy call_tuple_of (fun vs svs H Q h1 e1 s1 q => by
    obtain ⟨s, r, rfl, ⟨ds, rfl, hR⟩, rfl⟩ := e1
    obtain ⟨v, rfl, g⟩ := DvAll.one (d := .list ds) s1
    cases g with
    | @lst _ xs _ r g =>
      refine ⟨_, xs, rfl, .inl ⟨r.sq, fun l nl => ?_⟩⟩
      have sm := same_new (o := .tup xs) nl
      exact q _ _ _ sm ⟨ds, rfl, hR⟩ (Dv.tup (.inl ⟨h1.fresh nl, .inl upd_same⟩) (g.keep (.same sm)))) hm (by decide +kernel) (ar_cons h ar_nil he) hg (he := he)
/-- tuple(..) of a list that was filled here -/
theorem e_tupleM {r : Addr} (hl : (r, ds) ∈ L) (hm : X.mg "tuple" = none) (h : Ev X C L δ e n m (.ref r)) (hg : Gl X "tuple" := by rfl) (he : starEach [e] X.env = (false, eval e X.env) :: starEach [] X.env := by rfl) : Ed X C L δ (.Call (.Name "tuple" p) [e] [] pos) n m (.tuple ds) :=
  e_callTy call_tuple_of (fun vs svs H Q h1 e1 s1 q => by
    subst e1
    cases s1 with
    | cons a b =>
      cases b
      have e3 := a
      subst e3
      obtain ⟨xs, hx, g⟩ := h1.ls r ds hl
      refine ⟨r, xs, rfl, .inl ⟨.inl (.inl hx), fun l nl => ?_⟩⟩
      have sm := same_new (o := .tup xs) nl
      exact q _ _ _ sm rfl (Dv.tup (.inl ⟨h1.fresh nl, .inl upd_same⟩) (g.keep (.same sm)))) hm (by decide +kernel) (a_first (ds := []) h a_nil he) hg (he := he)
end
end
end Wk
namespace Wk
open PySem PySem.Spec PyProof.Rows L2

/-! ### promises where no repr is under way -/
structure Gd (P : Program) (w : World) (K : PySem.W.Frag) (mg : Str → Option Value) (base : Heap) (Z : CXT) (k : Nat) (f : Addr) (fd : FuncData) (ps : List Str) (sp : Sp) : Prop where
  len : ∀ vs H Q E, sp vs H Q E → vs.length = ps.length
  run : ∀ (A : Around), A.guards = some [] → ∀ (outer : List Env) (s : Shared) (H : Hp) (args : Args) (us : List Value) (vs : List V) (Q : VK) (E : XK), Room k A → Env0 P w K mg base A outer s H →
    BindsTo s fd args (ps.zip us) → Vals vs us → sp vs H Q E → codeAny (model P w) A (.call (.ref f) args) (CR Z outer P w H s Q E) s
theorem Gd.of {P : Program} {w : World} {K : PySem.W.Frag} {mg : Str → Option Value} {base : Heap} {Z : CXT} {k : Nat} {f : Addr} {fd : FuncData} {ps : List Str} {sp : Sp} (F : FnOk P w K mg base Z k f fd ps sp) : Gd P w K mg base Z k f fd ps sp :=
  ⟨F.len, fun A _ outer s H args us vs Q E hr he hb hv hs => F.run A outer s H args us vs Q E hr he hb hv hs⟩
theorem Gd.mono {P : Program} {w : World} {K : PySem.W.Frag} {mg : Str → Option Value} {base : Heap} {Z : CXT} {j k : Nat} {f : Addr} {fd : FuncData} {ps : List Str} {sp : Sp} (F : Gd P w K mg base Z j f fd ps sp) (h : j ≤ k) : Gd P w K mg base Z k f fd ps sp :=
  ⟨F.len, fun A g outer s H args us vs Q E hr he hb hv hs => F.run A g outer s H args us vs Q E (hr.mono h) he hb hv hs⟩

/-- a def of the text, from its body -/
theorem gd_of {Z : CXT} {P : Program} {w : World} {K : PySem.W.Frag} {mg : Str → Option Value} {base : Heap} {k : Nat} {f : Addr} {x qual : Str} {st : Stmt} {fd : FuncData} {N ps : List Str} {sp : Sp}
    (F : Fun K x qual st f fd) (S : FnScope N ps (defScope st)) (len : ∀ vs H Q E, sp vs H Q E → vs.length = ps.length)
    (hb : ∀ (cdv : Value) (A : Around) (outer : List Env) (s : Shared) (H : Hp) (vs : List V) (Q : VK) (E : XK), A.guards = some [] → Room k (A.deeper (envOfC qual (defScope st) s.heap.objs.size f cdv)) → sp vs H Q E →
      ∃ t, PSs (cxOf Z P w K mg base N qual (defScope st) f cdv A outer s H E) (defBody st) t ∧ t { nx := fun _ H' => Q .non H', rt := Q } (start N vs) H) : Gd P w K mg base Z (k + 1) f fd ps sp := by
  obtain ⟨oc, od, kV, doc, pm, an, cdv, ct, osl, rfl, lk, hcd⟩ := F.ex
  constructor
  · exact len
  intro A hgu outer s H args us vs Q E hroom env hbi rel want
  have hlen : vs.length = ps.length := len vs H Q E want
  have inK : K.In s.heap := env.mod.kin.keeps (fun b o he => (env.bs b o he).left)
  have noLim := env.mod.nolimit.keeps (fun b o he => (env.bs b o he).left)
  refine codeAny_call_function hroom.depth (inK f _ lk) rfl S.co S.gen rfl (PySem.W.codeRec_of inK hcd) ?_
  refine hbi _ _ _ _ (wpAny_newFunctionEnv_cells S.kind (fun y hy => ?_) (fun e he s1 hin => ?_))
  · obtain ⟨nm, val⟩ := y
    have hmem := (List.of_mem_zip hy).left
    exact (S.par nm hmem).elim Or.inl (fun q => Or.inr ⟨q, PySem.W.cellsFrom_some _ _ _ (Or.inl q)⟩)
  · subst he
    refine ⟨noLim.keeps hin.toInCall.keep, ?_⟩
    apply codeAny_func
    obtain ⟨t, hps, ht⟩ := hb cdv A outer s H vs Q E hgu (hroom.deeper _) want
    have inv := inv_start (CX := Z) (P := P) (w := w) (E := E) S hroom.hd env hlen rel hin
    have goal := hps.run [] s1 (start N vs) H _ inv ht
    apply wpAny_mono goal
    · intro fl s' hfl
      match fl, hfl with
      | .ret u, ⟨v, σ', H', J, rv, hq⟩ => exact ⟨v, H', J.os, J.bare, J.base, J.hok, rv, hq⟩
      | .next, ⟨σ', H', J, hq⟩ => exact ⟨V.non, H', J.os, J.bare, J.base, J.hok, rfl, hq⟩
      | .brk, ⟨_, _, _, no⟩ => exact no.elim
      | .cont, ⟨_, _, _, no⟩ => exact no.elim
    · intro _ _ h
      exact h

/-- what is known of a def of the module under its name -/
structure Knw (P : Program) (w : World) (K : PySem.W.Frag) (mg : Str → Option Value) (base : Heap) (Z : CXT) (k : Nat) (x : Str) (ps : List Str) (sp : Sp) : Prop where
  ex : ∃ (f : Addr) (fd : FuncData), mg x = some (.ref f) ∧ PySem.W.keepIn K (.ref f) = true ∧ Binds K fd ps [] ∧ Gd P w K mg base Z k f fd ps sp
abbrev Kn (X : Cx) (Z : CXT) (k : Nat) (x : Str) (ps : List Str) (sp : Sp) : Prop := Knw X.prog X.w X.K X.mg X.base Z k x ps sp
theorem knw {P : Program} {w : World} {K : PySem.W.Frag} {mg : Str → Option Value} {base : Heap} {Z : CXT} {k : Nat} {x qual : Str} {st : Stmt} {f : Addr} {fd : FuncData} {ps : List Str} {sp : Sp} (g : mg x = some (.ref f)) (F : Fun K x qual st f fd) (b : Binds K fd ps []) (h : Gd P w K mg base Z k f fd ps sp) : Knw P w K mg base Z k x ps sp :=
  ⟨f, fd, g, F.kp, b, h⟩
theorem run_gd {X : Cx} {Z : CXT} {k : Nat} {f : Addr} {fd : FuncData} {ps : List Str} {sp : Sp} {E : XK} {pins : List (Addr × Obj)} {σ : L2.St} {H : Hp} {s : Shared} {Q : VK} {us : List Value} {vs : List V}
    (F : Gd X.prog X.w X.K X.mg X.base Z k f fd ps sp) (gu : X.A.guards = some []) (hr : Room k X.A) (hb : Binds X.K fd ps []) (hx : Passes Z X E) (I : Inv X pins σ H s) (r : Vals vs us) (want : sp vs H Q E) :
    wpAny (model X.prog X.w) X.A (call (.ref f) us) (EP X pins σ Q) X.xe s := by
  have hl : (us ++ []).length = ps.length := by
    rw [List.append_nil, ← r.length]
    exact F.len vs H Q E want
  have bi := hb s us I.kIn hl
  rw [List.append_nil] at bi
  have run := F.run X.A gu X.stack s H ⟨us, []⟩ us vs Q E hr I.env0 bi r want
  apply wpAny_call
  apply codeAny_mono run
  intro res s' hres
  match res, hres with
  | .error e, h => exact hx pins σ H s e s' I h
  | .ok (.ret u), h => exact I.after h
  | .ok .next, h => exact (show False from h).elim
  | .ok .brk, h => exact (show False from h).elim
  | .ok .cont, h => exact (show False from h).elim
theorem pe_callG {X : Cx} {Z : CXT} {k : Nat} {ps : List Str} {sp : Sp} {x : Str} {p pos : Pos} {e : Expr} {es : List Expr} {t : TA} {E : XK} (F : Kn X Z k x ps sp) (gu : X.A.guards = some []) (hr : Room k X.A) (hg : Gl X x) (hx : Passes Z X E)
    (ha : PA X (e :: es) t) (hdb : (x == ("__debug__" : Str)) = false := by decide) (he : starEach (e :: es) X.env = (false, eval e X.env) :: starEach es X.env := by rfl) (hpl : (backTo pos (starEach es X.env)).any (·.1) = false := by rfl) :
    PE X (.Call (.Name x p) (e :: es) [] pos) (fun σ H Q => t σ H fun vs H1 => sp vs H1 Q E) := by
  obtain ⟨f, fd, hm, hk, hb, G⟩ := F.ex
  constructor
  intro pins s σ H Q I h
  apply wpAny_Call_Name_kw
  refine ld_glob I hg hm ?_ hdb
  have args := ha.run pos pins s σ H (fun vs H1 => sp vs H1 Q E) I h
  refine PySem.W.callWith_K (h₀ := X.base) I.ok.mod.kin hk (thn args ?_) he hpl
  intro us s1 ⟨vs, H1, I1, rv, want⟩
  exact ⟨I1.kIn, run_gd G gu hr hb hx I1 rv want⟩

/-! ### two kinds of promises -/
/-- nothing is changed: ok ds d: from such data such a one is handed back -/
def SpP (K : PySem.W.Frag) (ok : List PD → SV → Prop) : Sp := fun vs H Q _ => ∃ (B : List Addr) (ds : List PD) (d : SV), (∀ b, b ∈ B → H b ≠ none) ∧ DvAll K B H vs ds ∧ ok ds d ∧ ∀ v H', Same H H' → SvOk K B H' v d → Q v H'
/-- it draws out of a purse at most c ds times, and hands back some d with R d -/
def SpQ (K : PySem.W.Frag) (ok : List PD → Nat → (PD → Prop) → Prop) : Sp := fun vs H Q _ => ∃ (p : Addr) (B : List Addr) (ws : List V) (n c : Nat) (ds : List PD) (R : PD → Prop), vs = .ref p :: ws ∧ p ∈ B ∧ (∀ b, b ∈ B → H b ≠ none) ∧ DvAll K B H ws ds ∧
  PotAt p n H ∧ n + c ≤ 1000000 ∧ ok ds c R ∧ ∀ v H' d, Keep [p] H H' → PotAt p (n + c) H' → R d → Dv K B H' v d → Q v H'
section
variable {X : Cx} {C : Ct} {L : Ls} {δ : Dl} {n m k l : Nat} {a b c e f : Expr} {es : List Expr} {pos p : Pos} {d : PD} {x : Str} {ps : List Str}
theorem e_callP {r : Nat} {ok : List PD → SV → Prop} {ds : List PD} {d : SV} (F : Kn X CX0 k x ps (SpP X.K ok)) (gu : X.A.guards = some []) (hr : Room r X.A) (hk : k ≤ r) (ha : Dd X C L δ (e :: es) n m ds) (h : ok ds d) (hg : Gl X x := by rfl)
    (hdb : (x == ("__debug__" : Str)) = false := by decide) (he : starEach (e :: es) X.env = (false, eval e X.env) :: starEach es X.env := by rfl) (hpl : (backTo pos (starEach es X.env)).any (·.1) = false := by rfl) :
    E X C L δ (.Call (.Name x p) (e :: es) [] pos) n m (Eq d) :=
  PE.imp (pe_callG F gu (hr.mono hk) hg pass0 ha hdb he hpl) fun σ H Q ⟨t, q⟩ => ⟨t, fun vs H2 svs k1 h1 e1 s1 => by
    subst e1
    exact ⟨Bd C L, ds, d, fun b hb => h1.known hb, s1.data, h, fun v H3 sm g => q v H3 _ (k1.trans (.same sm)) (h1.same sm) rfl g⟩⟩
theorem e_callQ {r : Nat} {ok : List PD → Nat → (PD → Prop) → Prop} {ds : List PD} {R : PD → Prop} {w : Addr} {u : Nat} (F : Kn X CX0 k x ps (SpQ X.K ok)) (gu : X.A.guards = some []) (hr : Room r X.A) (hk : k ≤ r) (hp : C.P = some w)
    (h0 : Ev X C L δ e n n (.ref w)) (ha : Dd X C L δ es n m ds) (h : ok ds u R) (hz : m + u ≤ 1000000) (hg : Gl X x := by rfl)
    (hdb : (x == ("__debug__" : Str)) = false := by decide) (he : starEach (e :: es) X.env = (false, eval e X.env) :: starEach es X.env := by rfl) (hpl : (backTo pos (starEach es X.env)).any (·.1) = false := by rfl) :
    E X C L δ (.Call (.Name x p) (e :: es) [] pos) n (m + u) (fun sv => ∃ d, sv = .d d ∧ R d) :=
  PE.imp (pe_callG F gu (hr.mono hk) hg pass0 (a_first h0 ha he) hdb he hpl) fun σ H Q ⟨t, q⟩ => ⟨t, fun vs H2 svs k1 h1 e1 s1 => by
    subst e1
    cases s1 with
    | @cons v0 ws _ _ a b =>
      have e0 : v0 = .ref w := a
      subst e0
      have hw : w ∈ Bs C L := List.mem_append_right _ (by rw [hp]; simp)
      refine ⟨w, Bd C L, ws, m, u, ds, R, rfl, bs_bd _ hw, fun b hb => h1.known hb, b.data, h1.pot w hp, hz, h, fun v H3 d kp po hR g => ?_⟩
      have kb : Keep (Bs C L) H2 H3 := kp.wider fun b hb => by
        have e : b = w := by simpa using hb
        rw [e]
        exact hw
      have ho : Hold X.K C L (m + u) H3 := by
        refine ⟨fun p' e' => ?_, fun a' ds' hm => ?_, h1.nd, fun b hb => ?_, h1.dj⟩
        · rw [hp] at e'
          cases e'
          exact po
        · obtain ⟨xs, hx, gx⟩ := h1.ls a' ds' hm
          refine ⟨xs, kp _ _ (fun z => ?_) hx, gx.keep (kb.wider bs_bd)⟩
          have e' : a' = w := by simpa using z
          subst e'
          have nd := h1.nd
          unfold Bs at nd
          rw [hp] at nd
          have hd := (List.nodup_append.mp nd).2.2
          exact hd a' (List.mem_map.mpr ⟨_, hm, rfl⟩) a' (by simp) rfl
        · by_cases e' : b = w
          · subst e'
            obtain ⟨_, _, _, z, _⟩ := po
            rw [z]
            simp
          · cases z : H2 b with
            | none => exact absurd z (h1.wk b hb)
            | some o =>
              rw [kp b o (by simpa using e') z]
              simp
      exact q v H3 _ (k1.trans kb) ho ⟨d, rfl, hR⟩ g⟩
end
end Wk
namespace Wk
open PySem PySem.Spec PyProof.Rows L2

/-! ### what is walked -/
structure Goes (K : PySem.W.Frag) (B : List Addr) (J : It) (ds : List PD) (H : Hp) : Prop where
  ex : ∃ G : List Addr → Hp → Prop, G B H ∧ (∀ B H p, G B H → H p = none → G (p :: B) H) ∧ (∀ B H H', G B H → Keep B H H' → G B H') ∧
    ∀ B, Walk J ds.length (G B) (fun i H x H' => (∀ b, b ∈ B → H b ≠ none) → Same H H' ∧ ∃ d, ds[i]? = some d ∧ Dv K B H' x d)
theorem goes_list {K : PySem.W.Frag} {B : List Addr} {H : Hp} {a : Addr} {xs : List V} {ds : List PD} (r : RdL K B H a xs) (g : DvAll K B H xs ds) : Goes K B (Itl K a) ds H := by
  refine ⟨fun B H => RdL K B H a xs ∧ DvAll K B H xs ds, ⟨r, g⟩, fun B H p h f => ⟨h.1.grow f, h.2.grow f⟩, fun B H H' h k => ⟨h.1.keep k, h.2.keep k⟩, fun B => ?_⟩
  rw [← g.length]
  exact walk_list.mono (fun H h => h.1.sq) fun i H x H' hi h y kn => by
    obtain ⟨rfl, e⟩ := y
    obtain ⟨d, e2, hd⟩ := h.2.vget e
    exact ⟨.refl _, d, e2, hd⟩
theorem goes_tup {K : PySem.W.Frag} {B : List Addr} {H : Hp} {a : Addr} {xs : List V} {ds : List PD} (r : RdT K B H a xs) (g : DvAll K B H xs ds) : Goes K B (Itt K a) ds H := by
  refine ⟨fun B H => RdT K B H a xs ∧ DvAll K B H xs ds, ⟨r, g⟩, fun B H p h f => ⟨h.1.grow f, h.2.grow f⟩, fun B H H' h k => ⟨h.1.keep k, h.2.keep k⟩, fun B => ?_⟩
  rw [← g.length]
  exact walk_tup.mono (fun H h => h.1.sq) fun i H x H' hi h y kn => by
    obtain ⟨rfl, e⟩ := y
    obtain ⟨d, e2, hd⟩ := h.2.vget e
    exact ⟨.refl _, d, e2, hd⟩
def rangeD (lo : Int) (n : Nat) : List PD := (List.range n).map fun i => .int (lo + (i : Nat))
theorem goes_range {K : PySem.W.Frag} {B : List Addr} {H : Hp} {lo : Int} {n : Nat} : Goes K B (Itr lo n) (rangeD lo n) H := by
  refine ⟨fun _ _ => True, trivial, fun _ _ _ _ _ => trivial, fun _ _ _ _ _ => trivial, fun B => ?_⟩
  rw [show (rangeD lo n).length = n by simp [rangeD]]
  exact walk_range.mono (fun _ h => h) fun i H x H' hi h y kn => by
    obtain ⟨rfl, rfl⟩ := y
    exact ⟨.refl _, .int (lo + (i : Nat)), by simp [rangeD, hi], .int _⟩
def pairsD (ds : List PD) : List PD := ds.mapIdx fun i d => .tuple [.int (i : Nat), d]
theorem goes_enum {K : PySem.W.Frag} {B : List Addr} {H : Hp} {a : Addr} {xs : List V} {ds : List PD} (r : RdL K B H a xs) (g : DvAll K B H xs ds) : Goes K B (Ite K a) (pairsD ds) H := by
  refine ⟨fun B H => RdL K B H a xs ∧ DvAll K B H xs ds, ⟨r, g⟩, fun B H p h f => ⟨h.1.grow f, h.2.grow f⟩, fun B H H' h k => ⟨h.1.keep k, h.2.keep k⟩, fun B => ?_⟩
  rw [show (pairsD ds).length = xs.length by rw [g.length]; simp [pairsD]]
  exact walk_enum.mono (fun H h => h.1.sq) fun i H x H' hi h y kn => by
    obtain ⟨T, y1, y2, rfl, nT, rfl, e1, e2⟩ := y
    cases e1
    obtain ⟨d, e3, hd⟩ := h.2.vget e2
    have sm := same_new (o := .tup [.int (i : Nat), y2]) nT
    refine ⟨sm, .tuple [.int (i : Nat), d], by simp [pairsD, e3], .tup (.inl ⟨fun z => kn _ z nT, .inl upd_same⟩) (.cons (.int _) (.cons (hd.keep (.same sm)) .nil))⟩
def tIt (K : PySem.W.Frag) (C : Ct) (L : Ls) (δ : Dl) (n m : Nat) (ds : List PD) : TI := fun σ H R => At K C L δ n σ H ∧ ∀ J H2, Keep (Bs C L) H H2 → Hold K C L m H2 → Goes K (Bd C L) J ds H2 → R J H2
theorem PI.imp {X : Cx} {tg iter : Expr} {t t' : TI} (h : PI X tg iter t) (f : ∀ σ H R, t' σ H R → t σ H R) : PI X tg iter t' := ⟨fun pins s σ H R I q => h.run pins s σ H R I (f σ H R q)⟩
theorem PG.imp {X : Cx} {tg : Expr} {t t' : TG} (h : PG X tg t) (f : ∀ v σ H Q, t' v σ H Q → t v σ H Q) : PG X tg t' := ⟨fun pins s σ H v u Q I r q => h.run pins s σ H v u Q I r (f v σ H Q q)⟩
abbrev Wi (X : Cx) (C : Ct) (L : Ls) (δ : Dl) (tg iter : Expr) (n m : Nat) (ds : List PD) : Prop := PI X tg iter (tIt X.K C L δ n m ds)
section
variable {X : Cx} {C : Ct} {L : Ls} {δ : Dl} {n m k l : Nat} {a b c e f tg : Expr} {es : List Expr} {pos p : Pos} {d : PD} {ds : List PD}
theorem i_list (h : Ed X C L δ e n m (.list ds)) : Wi X C L δ tg e n m ds := PI.imp (pi_list h) fun σ H R ⟨t, q⟩ => ⟨t, fun v H2 sv k1 h1 e1 s1 => by
  subst e1
  cases s1 with
  | lst r g => exact ⟨_, rfl, ⟨_, r.sq⟩, q _ H2 k1 h1 (goes_list r g)⟩⟩
theorem i_tup (h : Ed X C L δ e n m (.tuple ds)) : Wi X C L δ tg e n m ds := PI.imp (pi_tup h) fun σ H R ⟨t, q⟩ => ⟨t, fun v H2 sv k1 h1 e1 s1 => by
  subst e1
  cases s1 with
  | tup r g => exact ⟨_, rfl, ⟨_, r.sq⟩, q _ H2 k1 h1 (goes_tup r g)⟩⟩
theorem i_range {i : Int} (hm : X.mg "range" = none) (h : Ed X C L δ e n m (.int i)) (hz : -(2 ^ 62) ≤ i ∧ i < 2 ^ 62) (hg : Gl X "range" := by rfl) (hs : starEach [e] X.env = [(false, eval e X.env)] := by rfl) (hs2 : starEach [e] X.env = (false, eval e X.env) :: starEach [] X.env := by rfl) :
    Wi X C L δ tg (.Call (.Name "range" p) [e] [] pos) n m (rangeD 0 i.toNat) := PI.imp (pi_range1 hg hm (a_cons h a_nil hs2) hs) fun σ H R ⟨t, q⟩ => ⟨t, fun vs H2 svs k1 h1 e1 s1 => by
  subst e1
  obtain ⟨v, rfl, g⟩ := DvAll.one s1
  cases g
  exact ⟨i, rfl, hz.1, hz.2, q _ H2 k1 h1 goes_range⟩⟩
theorem i_range2 {i j : Int} (hm : X.mg "range" = none) (h : Ed X C L δ e n m (.int i)) (h' : Ed X C L δ f m k (.int j)) (hz : -(2 ^ 62) ≤ i ∧ i < 2 ^ 62 ∧ -(2 ^ 62) ≤ j ∧ j < 2 ^ 62) (hg : Gl X "range" := by rfl)
    (hs : starEach [e, f] X.env = [(false, eval e X.env), (false, eval f X.env)] := by rfl) (hs2 : starEach [f] X.env = [(false, eval f X.env)] := by rfl) (hs3 : starEach [e, f] X.env = (false, eval e X.env) :: starEach [f] X.env := by rfl) (hs4 : starEach [f] X.env = (false, eval f X.env) :: starEach [] X.env := by rfl) :
    Wi X C L δ tg (.Call (.Name "range" p) [e, f] [] pos) n k (rangeD i (j - i).toNat) := PI.imp (pi_range2 hg hm (a_cons h (a_cons h' a_nil hs4) hs3) hs hs2) fun σ H R ⟨t, q⟩ => ⟨t, fun vs H2 svs k1 h1 e1 s1 => by
  subst e1
  obtain ⟨v, w, rfl, g, g'⟩ := DvAll.two s1
  cases g
  cases g'
  exact ⟨i, j, rfl, hz, q _ H2 k1 h1 goes_range⟩⟩
theorem i_enum {elts : List Expr} {kk : Nat} {tpos : Pos} (hm : X.mg "enumerate" = none) (h : Ed X C L δ e n m (.list ds)) (hg : Gl X "enumerate" := by rfl) (hs : starEach [e] X.env = [(false, eval e X.env)] := by rfl) (hs2 : starEach [e] X.env = (false, eval e X.env) :: starEach [] X.env := by rfl) :
    Wi X C L δ (.Tuple elts kk tpos) (.Call (.Name "enumerate" p) [e] [] pos) n m (pairsD ds) := PI.imp (pi_enum hg hm (a_cons h a_nil hs2) hs) fun σ H R ⟨t, q⟩ => ⟨t, fun vs H2 svs k1 h1 e1 s1 => by
  subst e1
  obtain ⟨v, rfl, g⟩ := DvAll.one s1
  cases g with
  | lst r g => exact ⟨_, _, rfl, r.sq, q _ H2 k1 h1 (goes_enum r g)⟩⟩

/-! ### targets: how a datum is stored -/
def tTg (K : PySem.W.Frag) (C : Ct) (put : Dl → PD → Dl → Prop) : TG := fun v σ H Q => ∃ L δ n d δ', At K C L δ n σ H ∧ Dv K (Bd C L) H v d ∧ put δ d δ' ∧ ∀ σ', At K C L δ' n σ' H → (∀ vs : List Nat, L2.wipe σ' vs = L2.wipe σ' vs) → Q σ' H
end
/-- the slots that a target sets -/
inductive Tg where
  | name (i : Nat)
  | tup (ts : List Tg)
mutual
def Tg.put : Tg → PD → Dl → Option Dl
  | .name i, d, δ => some (δ.set i (some (.d d)))
  | .tup ts, .tuple ds, δ => Tg.puts ts ds δ
  | .tup _, _, _ => none
def Tg.puts : List Tg → List PD → Dl → Option Dl
  | [], [], δ => some δ
  | t :: ts, d :: ds, δ => (Tg.put t d δ).bind fun δ' => Tg.puts ts ds δ'
  | _, _, _ => none
end
mutual
def Tg.ix : Tg → List Nat
  | .name i => [i]
  | .tup ts => Tg.ixs ts
def Tg.ixs : List Tg → List Nat
  | [] => []
  | t :: ts => Tg.ix t ++ Tg.ixs ts
end
theorem wipe_set {σ : L2.St} {i : Nat} {o : Option V} : ∀ {vs : List Nat}, i ∈ vs → L2.wipe (σ.set i o) vs = L2.wipe σ vs
  | v :: vs, h => by
    show (L2.wipe (σ.set i o) vs).set v none = (L2.wipe σ vs).set v none
    by_cases hv : i ∈ vs
    · rw [wipe_set hv]
    · have e : i = v := (List.mem_cons.mp h).resolve_right hv
      subst e
      have com : ∀ (us : List Nat), i ∉ us → L2.wipe (σ.set i o) us = (L2.wipe σ us).set i o := by
        intro us
        induction us with
        | nil => intro _; rfl
        | cons u us ih =>
          intro hu
          show (L2.wipe (σ.set i o) us).set u none = ((L2.wipe σ us).set u none).set i o
          rw [ih fun z => hu (List.mem_cons_of_mem _ z)]
          exact List.set_comm _ _ (fun z => hu (by rw [z]; exact List.mem_cons_self))
      rw [com vs hv, List.set_set]
def gT (K : PySem.W.Frag) (C : Ct) (tg : Tg) : TG := fun v σ H Q => ∃ L δ n d δ', At K C L δ n σ H ∧ Dv K (Bd C L) H v d ∧ tg.put d δ = some δ' ∧ ∀ σ', At K C L δ' n σ' H → (∀ vs : List Nat, (∀ i, i ∈ tg.ix → i ∈ vs) → L2.wipe σ' vs = L2.wipe σ vs) → Q σ' H
def gTs (K : PySem.W.Frag) (C : Ct) (tg : List Tg) : TGs := fun vs σ H Q => ∃ L δ n ds δ', At K C L δ n σ H ∧ DvAll K (Bd C L) H vs ds ∧ Tg.puts tg ds δ = some δ' ∧ ∀ σ', At K C L δ' n σ' H → (∀ vs : List Nat, (∀ i, i ∈ Tg.ixs tg → i ∈ vs) → L2.wipe σ' vs = L2.wipe σ vs) → Q σ' H
theorem PGs.imp {X : Cx} {tg : List Expr} {t t' : TGs} (h : PGs X tg t) (f : ∀ v σ H Q, t' v σ H Q → t v σ H Q) : PGs X tg t' := ⟨fun pins s σ H v u Q I r q => h.run pins s σ H v u Q I r (f v σ H Q q)⟩
section
variable {X : Cx} {C : Ct} {x : Str} {pos : Pos}
theorem g_name (i : Nat) (hN : X.N.Nodup) (hi : X.N[i]? = some x := by rfl) (hx : Loc X.env.scope x := by first | exact Or.inl rfl | exact Or.inr rfl) (hf : X.fn x = true ∨ X.env.scope.names.lookup x = some .local := by first | exact .inl rfl | exact .inr rfl) : PG X (.Name x pos) (gT X.K C (.name i)) :=
  PG.imp (pg_name hN hi hx hf) fun v σ H Q ⟨L, δ, n, d, δ', t, g, hp, q⟩ => by
    cases hp
    exact q _ ⟨t.sl.set (sv := .d d) g, t.hold⟩ fun vs hv => wipe_set (hv i List.mem_cons_self)
theorem gs_nil : PGs X [] (gTs X.K C []) := PGs.imp pgs_nil fun v σ H Q ⟨L, δ, n, ds, δ', t, g, hp, q⟩ => by
  cases ds with
  | nil =>
    cases g
    cases hp
    exact ⟨rfl, q σ t fun _ _ => rfl⟩
  | cons d ds => cases hp
theorem gs_cons {t1 : Tg} {ts : List Tg} {e : Expr} {es : List Expr} (h : PG X e (gT X.K C t1)) (g : PGs X es (gTs X.K C ts)) (hs : ((assignEach (e :: es) X.env).map (·.2)) = assign e X.env :: ((assignEach es X.env).map (·.2)) := by rfl) : PGs X (e :: es) (gTs X.K C (t1 :: ts)) := PGs.imp (pgs_cons h g hs) fun v σ H Q ⟨L, δ, n, ds, δ', t, g, hp, q⟩ => by
  cases ds with
  | nil => cases hp
  | cons d ds =>
    cases g with
    | cons g1 g2 =>
      have hp' : (Tg.put t1 d δ).bind (fun δ' => Tg.puts ts ds δ') = some δ' := hp
      cases e1 : Tg.put t1 d δ with
      | none =>
        rw [e1] at hp'
        cases hp'
      | some δ1 =>
        rw [e1] at hp'
        refine ⟨_, _, rfl, L, δ, n, d, δ1, t, g1, e1, fun σ1 t' w1 => ⟨L, δ1, n, ds, δ', t', g2, hp', fun σ2 t2 w2 => q σ2 t2 fun vs hv => ?_⟩⟩
        rw [w2 vs fun i hi => hv i (List.mem_append_right _ hi), w1 vs fun i hi => hv i (List.mem_append_left _ hi)]
theorem puts_len : ∀ {ts : List Tg} {ds : List PD} {δ δ' : Dl}, Tg.puts ts ds δ = some δ' → ds.length = ts.length
  | [], [], _, _, _ => rfl
  | [], _ :: _, _, _, h => by cases h
  | _ :: _, [], _, _, h => by cases h
  | t :: ts, d :: ds, δ, δ', h => by
    have h' : (Tg.put t d δ).bind (fun δ' => Tg.puts ts ds δ') = some δ' := h
    cases e1 : Tg.put t d δ with
    | none =>
      rw [e1] at h'
      cases h'
    | some δ1 =>
      rw [e1] at h'
      rw [List.length_cons, List.length_cons, puts_len (δ := δ1) h']
theorem g_tup {ts : List Tg} {es : List Expr} {j : Nat} (hc : X.calm = true) (h : PGs X es (gTs X.K C ts)) (hn : (assignEach es X.env).length = ts.length := by rfl) (hst : (assignEach es X.env).findIdx? (·.1) = none := by rfl) : PG X (.Tuple es j pos) (gT X.K C (.tup ts)) :=
  PG.imp (pg_tup hc h hn hst) fun v σ H Q ⟨L, δ, n, d, δ', t, g, hp, q⟩ => by
    cases d with
    | tuple ds =>
      cases g with
      | tup r g => exact ⟨_, _, rfl, r.sq, by rw [g.length]; exact puts_len hp, L, δ, n, ds, δ', t, g, hp, q⟩
    | _ => cases hp
end
end Wk
namespace Wk
open PySem PySem.Spec PyProof.Rows L2
section
variable {K : PySem.W.Frag} {C : Ct} {L : Ls} {n m : Nat} {H H' : Hp}
theorem Hold.push {D : Addr} {xs : List V} {ds : List PD} (h : Hold K C L n H) (f : H D = none) (g : DvAll K (Bd C L) H xs ds) : Hold K C ((D, ds) :: L) n (upd H D (.lst xs)) := by
  have sm := same_new (o := .lst xs) f
  refine ⟨fun p e => ?_, fun a es hm => ?_, ?_, fun b hb => same_some sm (h.wk b hb), fun x hx => ?_⟩
  · obtain ⟨a, b, c, h1, h2⟩ := h.pot p e
    exact ⟨a, b, c, sm _ _ h1, h2⟩
  · rcases List.mem_cons.mp hm with e | hm
    · cases e
      exact ⟨xs, upd_same, (g.grow f).keep (.same sm)⟩
    · obtain ⟨ys, h1, h2⟩ := h.ls a es hm
      exact ⟨ys, sm _ _ h1, (h2.grow f).keep (.same sm)⟩
  · show (D :: Bs C L).Nodup
    exact List.nodup_cons.mpr ⟨fun z => h.fresh f (bs_bd _ z), h.nd⟩
  · rcases List.mem_cons.mp hx with e | e
    · rw [e]
      exact fun z => h.wk _ z f
    · exact h.dj x e
theorem Hold.pop {D : Addr} {ds : List PD} (h : Hold K C ((D, ds) :: L) n H) : Hold K C L n H :=
  ⟨h.pot, fun a es hm => let ⟨xs, h1, h2⟩ := h.ls a es (List.mem_cons_of_mem _ hm); ⟨xs, h1, h2.less fun _ z => List.mem_cons_of_mem _ z⟩, (List.nodup_cons.mp (show (D :: Bs C L).Nodup from h.nd)).2, h.wk, fun x hx => h.dj x (List.mem_cons_of_mem _ hx)⟩
/-- the first of the lists that are filled gets other contents -/
theorem Hold.put {D : Addr} {xs : List V} {ds es : List PD} (h : Hold K C ((D, ds) :: L) n H) (g : DvAll K (Bd C ((D, ds) :: L)) H xs es) : Hold K C ((D, es) :: L) n (upd H D (.lst xs)) := by
  have nd : (D :: Bs C L).Nodup := h.nd
  have hD := (List.nodup_cons.mp nd).1
  have kp : Keep (Bd C ((D, ds) :: L)) H (upd H D (.lst xs)) := fun b o nb e => by
    rw [upd_ne fun z => nb (by rw [z]; exact List.mem_cons_self)]
    exact e
  refine ⟨fun p e => ?_, fun a ys hm => ?_, nd, fun b hb => ?_, fun x hx => ?_⟩
  · obtain ⟨a, b, c, h1, h2⟩ := h.pot p e
    refine ⟨a, b, c, ?_, h2⟩
    rw [upd_ne fun z => hD (by rw [← z]; exact List.mem_append_right _ (by rw [e]; simp))]
    exact h1
  · rcases List.mem_cons.mp hm with e | hm
    · cases e
      exact ⟨xs, upd_same, g.keep kp⟩
    · obtain ⟨zs, h1, h2⟩ := h.ls a ys (List.mem_cons_of_mem _ hm)
      refine ⟨zs, ?_, h2.keep kp⟩
      rw [upd_ne fun z => hD (by rw [← z]; exact List.mem_append_left _ (List.mem_map.mpr ⟨_, hm, rfl⟩))]
      exact h1
  · by_cases z : b = D
    · rw [z, upd_same]
      simp
    · rw [upd_ne z]
      exact h.wk b hb
  · rcases List.mem_cons.mp hx with e | e
    · rw [e]
      exact h.dj (D, ds) List.mem_cons_self
    · exact h.dj x (List.mem_cons_of_mem _ e)
theorem keep_over {B : List Addr} {H H1 H2 : Hp} {D : Addr} (k : Keep B H H1) (g : Keep (D :: B) H1 H2) (f : H D = none) : Keep B H H2 := fun b o nb e => g b o (fun z => (List.mem_cons.mp z).elim (fun z => by rw [z, f] at e; cases e) nb) (k b o nb e)
theorem keep_upd {B : List Addr} {H : Hp} {D : Addr} {o : HO} (h : D ∈ B) : Keep B H (upd H D o) := fun b u nb e => by
  rw [upd_ne fun z => nb (by rw [z]; exact h)]
  exact e
theorem wipe_wipe {σ : L2.St} {vs : List Nat} : ∀ {us : List Nat}, (∀ u, u ∈ us → u ∈ vs) → L2.wipe (L2.wipe σ us) vs = L2.wipe σ vs
  | [], _ => rfl
  | u :: us, h => by
    show L2.wipe ((L2.wipe σ us).set u none) vs = _
    rw [wipe_set (h u List.mem_cons_self), wipe_wipe fun z hz => h z (List.mem_cons_of_mem _ hz)]
end
section
variable {X : Cx} {C : Ct} {L : Ls} {δ : Dl} {n m : Nat}
theorem tyes_if {A B : Hp → Prop} {σ : L2.St} {H : Hp} (h : A H) : tYes σ H (fun b H3 => if b = true then A H3 else B H3) := by
  show if true = true then A H else B H
  rw [if_pos rfl]
  exact h
def teL (K : PySem.W.Frag) (C : Ct) (L : Ls) (δ0 : Dl) (ds : List PD) (tgd : Tg) (m w : Nat) (R : Nat → PD → PD → Prop) : TE := fun σ H Q => ∃ (D : Addr) (acc : List PD) (j : Nat) (d : PD) (δ' : Dl), ds[j]? = some d ∧ acc.length = j ∧ tgd.put d δ0 = some δ' ∧
  tOf K C ((D, acc) :: L) δ' (m + j * w) (m + (j + 1) * w) (fun sv => ∃ e, sv = .d e ∧ R j d e) σ H Q
theorem lc_imp {own : List (Str × Nat)} {tgd : Tg} {ds : List PD} {w : Nat} {R : Nat → PD → PD → Prop} (hix : ∀ i, i ∈ tgd.ix → i ∈ own.map (·.2))
    (hp : ∀ (j : Nat) (d : PD), ds[j]? = some d → ∃ δ', tgd.put d (wipeD δ (own.map (·.2))) = some δ') (hz : ds.length ≤ 100000) (σ : L2.St) (H : Hp) (Q : VK)
    (hq : tOf X.K C L δ n (m + ds.length * w) (fun sv => ∃ es, sv = .d (.list es) ∧ es.length = ds.length ∧ ∀ (j : Nat) (d e : PD), ds[j]? = some d → es[j]? = some e → R j d e) σ H Q) :
    tLc (tIt X.K C L δ n m ds) (gT X.K C tgd) tYes (teL X.K C L (wipeD δ (own.map (·.2))) ds tgd m w R) (own.map (·.2)) σ H Q := by
  obtain ⟨t, q⟩ := hq
  refine ⟨t, fun J H1 k1 h1 goes => ?_⟩
  intro D hD
  obtain ⟨G, g0, gGrow, gKeep, wk⟩ := goes.ex
  have t1 : At X.K C L δ m σ H1 := t.go k1 h1
  have smD := same_new (o := .lst []) hD
  refine lc_it (g := gT X.K C tgd) (tt := tYes) (te := teL X.K C L (wipeD δ (own.map (·.2))) ds tgd m w R) (vs := own.map (·.2)) (σ := σ) (H1 := H1) (D := D) (Qd := Q (.ref D)) (wk (D :: Bd C L)) (fun i H2 => ∃ es : List PD, es.length = i ∧ (∀ (j : Nat) (d e : PD), ds[j]? = some d → es[j]? = some e → R j d e) ∧ At X.K C ((D, es) :: L) (wipeD δ (own.map (·.2))) (m + i * w) (L2.wipe σ (own.map (·.2))) H2 ∧ Keep (Bs C L) H1 H2 ∧ G (D :: Bd C L) H2)
    ?_ (fun i H2 _ ⟨es, _, _, _, _, g⟩ => g) ?_ ?_
  · refine ⟨[], rfl, fun j d e _ z => by simp at z, ⟨?_, ?_⟩, .same smD, ?_⟩
    · exact ((t1.sl.grow hD).keep (.same smD)).wipe _
    · rw [Nat.zero_mul, Nat.add_zero]
      exact h1.push hD .nil
    · exact gKeep _ _ _ (gGrow _ _ _ g0 hD) (.same smD)
  · rintro i x H2 H3 hlt ⟨es, hl, hR, t2, k2, g2⟩ y
    obtain ⟨sm, d, hd, dv⟩ := y fun b hb => t2.hold.known hb
    obtain ⟨δ', hput⟩ := hp i d hd
    refine ⟨(D, es) :: L, wipeD δ (own.map (·.2)), m + i * w, d, δ', t2.same sm, dv, hput, fun σ' t3 w3 => ⟨?_, ?_⟩⟩
    · rw [w3 _ hix]
      exact wipe_wipe fun u hu => hu
    · refine tyes_if ?_
      refine ⟨D, es, i, d, δ', hd, hl, hput, t3, fun v H4 sv k4 h4 r4 s4 => ?_⟩
      obtain ⟨e, rfl, re⟩ := r4
      obtain ⟨xs, hx, gx⟩ := h4.ls D es List.mem_cons_self
      have gx' := gx.app (.cons s4 .nil)
      have kD : Keep (D :: Bs C L) H4 (upd H4 D (.lst (xs ++ [v]))) := keep_upd List.mem_cons_self
      have kA : Keep (D :: Bs C L) H2 (upd H4 D (.lst (xs ++ [v]))) := (Keep.same sm).trans (k4.trans kD)
      have wid : ∀ b, b ∈ D :: Bs C L → b ∈ D :: Bd C L := fun b hb => (List.mem_cons.mp hb).elim (fun z => by rw [z]; exact List.mem_cons_self) fun z => List.mem_cons_of_mem _ (bs_bd _ z)
      refine ⟨xs, hx, ?_, es ++ [e], by rw [List.length_append, hl]; rfl, fun j d' e' h1' h2' => ?_, ⟨?_, ?_⟩, keep_over k2 kA hD, gKeep _ _ _ g2 (kA.wider wid)⟩
      · rw [gx.length, hl]
        exact Nat.lt_of_lt_of_le (Nat.lt_of_lt_of_le hlt hz) (by decide)
      · by_cases hj : j < es.length
        · rw [List.getElem?_append_left hj] at h2'
          exact hR j d' e' h1' h2'
        · have hj2 : j < (es ++ [e]).length := (List.getElem?_eq_some_iff.mp h2').1
          rw [List.length_append, List.length_singleton] at hj2
          have e1 : j = es.length := by omega
          subst e1
          rw [List.getElem?_append_right (Nat.le_refl _), Nat.sub_self] at h2'
          cases h2'
          rw [hl] at h1'
          rw [hd] at h1'
          cases h1'
          rw [hl]
          exact re
      · exact t2.sl.keep (kA.wider wid)
      · exact h4.put gx'
  · rintro H2 ⟨es, hl, hR, t2, k2, g2⟩
    obtain ⟨xs, hx, gx⟩ := t2.hold.ls D es List.mem_cons_self
    exact q _ H2 _ (k1.trans k2) t2.hold.pop ⟨es, rfl, hl, hR⟩ (Dv.lst (.inl ⟨fun z => h1.fresh hD z, .inl hx⟩) (gx.less fun b hb => List.mem_cons_of_mem _ hb))
theorem e_lcR {elt tg iter : Expr} {scope : Scope} {own : List (Str × Nat)} {pos : Pos} {tgd : Tg} {ds : List PD} {w : Nat} {R : Nat → PD → PD → Prop} (hc : X.calm = true) (hN : X.N.Nodup) (hi : Wi X C L δ tg iter n m ds) (ok : BlkOk X.N X.env.scope scope own)
    (hg : ∀ (s : Shared) (H : Hp) (Cc : Addr) (cl : List (Str × Addr)) (fp : List Addr), PG (X.blk s H scope (compEnvC scope cl Cc X.env) fp) tg (gT X.K C tgd)) (hix : ∀ i, i ∈ tgd.ix → i ∈ own.map (·.2))
    (hp : ∀ (j : Nat) (d : PD), ds[j]? = some d → ∃ δ', tgd.put d (wipeD δ (own.map (·.2))) = some δ')
    (he : ∀ (s : Shared) (H : Hp) (Cc : Addr) (cl : List (Str × Addr)) (fp : List Addr) (D : Addr) (acc : List PD) (j : Nat) (d : PD) (δ' : Dl), ds[j]? = some d → acc.length = j → tgd.put d (wipeD δ (own.map (·.2))) = some δ' →
      PE (X.blk s H scope (compEnvC scope cl Cc X.env) fp) elt (tOf X.K C ((D, acc) :: L) δ' (m + j * w) (m + (j + 1) * w) (fun sv => ∃ e, sv = .d e ∧ R j d e)))
    (hz : ds.length ≤ 100000) (hs : ∀ x, foldedSetIterable iter X.env x = pure x := by intro _; rfl) :
    E X C L δ (.ListComp elt [⟨tg, iter, [], 0⟩] scope pos) n (m + ds.length * w) (fun sv => ∃ es, sv = .d (.list es) ∧ es.length = ds.length ∧ ∀ (j : Nat) (d e : PD), ds[j]? = some d → es[j]? = some e → R j d e) := by
  have he' : ∀ (s : Shared) (H : Hp) (Cc : Addr) (cl : List (Str × Addr)) (fp : List Addr), PE (X.blk s H scope (compEnvC scope cl Cc X.env) fp) elt (teL X.K C L (wipeD δ (own.map (·.2))) ds tgd m w R) := fun s H Cc cl fp =>
    ⟨fun pins s1 σ H1 Q I ⟨D, acc, j, d, δ', h1, h2, h3, q⟩ => (he s H Cc cl fp D acc j d δ' h1 h2 h3).run pins s1 σ H1 Q I q⟩
  exact PE.imp (pe_lc (own := own) hc hN hi ok hg (fun _ _ _ _ _ => pts_nil) he' hs) (lc_imp hix hp hz)
/-- y = [..] -/
theorem p_setLc {y : Str} {py spos : Pos} (k : Nat) {elt tg iter : Expr} {scope : Scope} {own : List (Str × Nat)} {pos : Pos} {tgd : Tg} {ds : List PD} {w : Nat} {R : Nat → PD → PD → Prop} (hc : X.calm = true) (hN : X.N.Nodup) (hi : Wi X C L δ tg iter n m ds) (ok : BlkOk X.N X.env.scope scope own)
    (hg : ∀ (s : Shared) (H : Hp) (Cc : Addr) (cl : List (Str × Addr)) (fp : List Addr), PG (X.blk s H scope (compEnvC scope cl Cc X.env) fp) tg (gT X.K C tgd)) (hix : ∀ i, i ∈ tgd.ix → i ∈ own.map (·.2))
    (hp : ∀ (j : Nat) (d : PD), ds[j]? = some d → ∃ δ', tgd.put d (wipeD δ (own.map (·.2))) = some δ')
    (he : ∀ (s : Shared) (H : Hp) (Cc : Addr) (cl : List (Str × Addr)) (fp : List Addr) (D : Addr) (acc : List PD) (j : Nat) (d : PD) (δ' : Dl), ds[j]? = some d → acc.length = j → tgd.put d (wipeD δ (own.map (·.2))) = some δ' →
      PE (X.blk s H scope (compEnvC scope cl Cc X.env) fp) elt (tOf X.K C ((D, acc) :: L) δ' (m + j * w) (m + (j + 1) * w) (fun sv => ∃ e, sv = .d e ∧ R j d e)))
    (hz : ds.length ≤ 100000) (hy : X.N[k]? = some y := by rfl) (hyl : X.env.scope.names.lookup y = some .local := by rfl) (hsw : swapsWith (.ListComp elt [⟨tg, iter, [], 0⟩] scope pos) (some (.Name y py)) spos.line X.env = pure true := by exact sw_true rfl rfl rfl (by decide +kernel)) (hs : ∀ x, foldedSetIterable iter X.env x = pure x := by intro _; rfl) :
    PS X (.Assign [.Name y py] (.ListComp elt [⟨tg, iter, [], 0⟩] scope pos) spos) (tAsg (tOf X.K C L δ n (m + ds.length * w) (fun sv => ∃ es, sv = .d (.list es) ∧ es.length = ds.length ∧ ∀ (j : Nat) (d e : PD), ds[j]? = some d → es[j]? = some e → R j d e)) (gName k)) := by
  have he' : ∀ (s : Shared) (H : Hp) (Cc : Addr) (cl : List (Str × Addr)) (fp : List Addr), PE (X.blk s H scope (compEnvC scope cl Cc X.env) fp) elt (teL X.K C L (wipeD δ (own.map (·.2))) ds tgd m w R) := fun s H Cc cl fp =>
    ⟨fun pins s1 σ H1 Q I ⟨D, acc, j, d, δ', h1, h2, h3, q⟩ => (he s H Cc cl fp D acc j d δ' h1 h2 h3).run pins s1 σ H1 Q I q⟩
  exact PS.imp (ps_setLc (own := own) hc hN hy hyl hsw hi ok hg (fun _ _ _ _ _ => pts_nil) he' hs) fun D σ H q => lc_imp hix hp hz σ H _ q
/-- nothing drawn -/
theorem e_lc {elt tg iter : Expr} {scope : Scope} {own : List (Str × Nat)} {pos : Pos} {tgd : Tg} {ds : List PD} {f : PD → PD} (hc : X.calm = true) (hN : X.N.Nodup) (hi : Wi X C L δ tg iter n m ds) (ok : BlkOk X.N X.env.scope scope own)
    (hg : ∀ (s : Shared) (H : Hp) (Cc : Addr) (cl : List (Str × Addr)) (fp : List Addr), PG (X.blk s H scope (compEnvC scope cl Cc X.env) fp) tg (gT X.K C tgd)) (hix : ∀ i, i ∈ tgd.ix → i ∈ own.map (·.2))
    (hp : ∀ (j : Nat) (d : PD), ds[j]? = some d → ∃ δ', tgd.put d (wipeD δ (own.map (·.2))) = some δ')
    (he : ∀ (s : Shared) (H : Hp) (Cc : Addr) (cl : List (Str × Addr)) (fp : List Addr) (D : Addr) (acc : List PD) (d : PD) (δ' : Dl), d ∈ ds → tgd.put d (wipeD δ (own.map (·.2))) = some δ' →
      PE (X.blk s H scope (compEnvC scope cl Cc X.env) fp) elt (tOf X.K C ((D, acc) :: L) δ' m m (Eq (SV.d (f d)))))
    (hz : ds.length ≤ 100000) (hs : ∀ x, foldedSetIterable iter X.env x = pure x := by intro _; rfl) :
    Ed X C L δ (.ListComp elt [⟨tg, iter, [], 0⟩] scope pos) n m (.list (ds.map f)) := by
  refine e_imp (e_lcR (w := 0) (R := fun _ d e => e = f d) hc hN hi ok hg hix hp (fun s H Cc cl fp D acc j d δ' h1 h2 h3 => ?_) hz hs) fun sv ⟨es, e1, e2, e3⟩ => ?_
  · exact PE.imp (he s H Cc cl fp D acc d δ' (List.mem_of_getElem? h1) h3) fun σ H1 Q ⟨t, q⟩ => ⟨t, fun v H2 sv k h r s => q v H2 sv k h ⟨f d, r.symm, rfl⟩ s⟩
  · subst e1
    have e : es = ds.map f := by
      apply List.ext_getElem?
      intro j
      rw [List.getElem?_map]
      cases h1 : ds[j]? with
      | none =>
        have : es.length ≤ j := by rw [e2]; exact List.getElem?_eq_none_iff.mp h1
        rw [List.getElem?_eq_none this]
        rfl
      | some d =>
        have hj : j < es.length := by rw [e2]; exact (List.getElem?_eq_some_iff.mp h1).1
        have h2 := List.getElem?_eq_getElem hj
        rw [h2, e3 j d _ h1 h2]
        rfl
    rw [e]
theorem put_name_eq {i : Nat} {d : PD} {δ δ' : Dl} (h : Tg.put (.name i) d δ = some δ') : δ' = δ.set i (some (.d d)) := (Option.some.inj h).symm
theorem e_lcN {elt iter : Expr} {scope : Scope} {x : Str} {i : Nat} {pos tp : Pos} {ds : List PD} (f : PD → PD) (hc : X.calm = true) (hN : X.N.Nodup) (hi : Wi X C L δ (.Name x tp) iter n m ds) (ok : BlkOk X.N X.env.scope scope [(x, i)])
    (hg : ∀ (s : Shared) (H : Hp) (Cc : Addr) (cl : List (Str × Addr)) (fp : List Addr), PG (X.blk s H scope (compEnvC scope cl Cc X.env) fp) (.Name x tp) (gT X.K C (.name i)))
    (he : ∀ (s : Shared) (H : Hp) (Cc : Addr) (cl : List (Str × Addr)) (fp : List Addr) (D : Addr) (acc : List PD) (d : PD), d ∈ ds →
      PE (X.blk s H scope (compEnvC scope cl Cc X.env) fp) elt (tOf X.K C ((D, acc) :: L) ((δ.set i none).set i (some (.d d))) m m (Eq (SV.d (f d)))))
    (hz : ds.length ≤ 100000) (hs : ∀ x, foldedSetIterable iter X.env x = pure x := by intro _; rfl) :
    Ed X C L δ (.ListComp elt [⟨.Name x tp, iter, [], 0⟩] scope pos) n m (.list (ds.map f)) :=
  e_lc (own := [(x, i)]) (tgd := .name i) hc hN hi ok hg (fun j hj => hj) (fun j d _ => ⟨_, rfl⟩) (fun s H Cc cl fp D acc d δ' hd hp => by
    obtain rfl := put_name_eq hp
    exact he s H Cc cl fp D acc d hd) hz hs
theorem e_lcNR {elt iter : Expr} {scope : Scope} {x : Str} {i : Nat} {pos tp : Pos} {ds : List PD} (w : Nat) (R : Nat → PD → PD → Prop) (hc : X.calm = true) (hN : X.N.Nodup) (hi : Wi X C L δ (.Name x tp) iter n m ds) (ok : BlkOk X.N X.env.scope scope [(x, i)])
    (hg : ∀ (s : Shared) (H : Hp) (Cc : Addr) (cl : List (Str × Addr)) (fp : List Addr), PG (X.blk s H scope (compEnvC scope cl Cc X.env) fp) (.Name x tp) (gT X.K C (.name i)))
    (he : ∀ (s : Shared) (H : Hp) (Cc : Addr) (cl : List (Str × Addr)) (fp : List Addr) (D : Addr) (acc : List PD) (j : Nat) (d : PD), ds[j]? = some d →
      PE (X.blk s H scope (compEnvC scope cl Cc X.env) fp) elt (tOf X.K C ((D, acc) :: L) ((δ.set i none).set i (some (.d d))) (m + j * w) (m + (j + 1) * w) (fun sv => ∃ e, sv = .d e ∧ R j d e)))
    (hz : ds.length ≤ 100000) (hs : ∀ x, foldedSetIterable iter X.env x = pure x := by intro _; rfl) :
    E X C L δ (.ListComp elt [⟨.Name x tp, iter, [], 0⟩] scope pos) n (m + ds.length * w) (fun sv => ∃ es, sv = .d (.list es) ∧ es.length = ds.length ∧ ∀ (j : Nat) (d e : PD), ds[j]? = some d → es[j]? = some e → R j d e) :=
  e_lcR (own := [(x, i)]) (tgd := .name i) hc hN hi ok hg (fun j hj => hj) (fun j d _ => ⟨_, rfl⟩) (fun s H Cc cl fp D acc j d δ' hd _ hp => by
    obtain rfl := put_name_eq hp
    exact he s H Cc cl fp D acc j d hd) hz hs
theorem map_ext {α : Type} {l : List α} {g f : α → PD} {es : List PD} (h1 : es.length = (l.map g).length) (h2 : ∀ (j : Nat) (d e : PD), (l.map g)[j]? = some d → es[j]? = some e → ∃ x, l[j]? = some x ∧ e = f x) : es = l.map f := by
  apply List.ext_getElem?
  intro j
  rw [List.getElem?_map]
  rw [List.length_map] at h1
  cases h3 : l[j]? with
  | none =>
    have : es.length ≤ j := by rw [h1]; exact List.getElem?_eq_none_iff.mp h3
    rw [List.getElem?_eq_none this]
    rfl
  | some x =>
    have hj : j < es.length := by rw [h1]; exact (List.getElem?_eq_some_iff.mp h3).1
    have h4 := List.getElem?_eq_getElem hj
    obtain ⟨y, hy, e⟩ := h2 j (g x) _ (by rw [List.getElem?_map, h3]; rfl) h4
    rw [h3] at hy
    cases hy
    rw [h4, e]
    rfl
/-- over l.map g, by name -/
theorem e_lcM {α : Type} {elt iter : Expr} {scope : Scope} {x : Str} {i : Nat} {pos tp : Pos} {l : List α} {g : α → PD} (f : α → PD) (hc : X.calm = true) (hN : X.N.Nodup) (hi : Wi X C L δ (.Name x tp) iter n m (l.map g)) (ok : BlkOk X.N X.env.scope scope [(x, i)])
    (hg : ∀ (s : Shared) (H : Hp) (Cc : Addr) (cl : List (Str × Addr)) (fp : List Addr), PG (X.blk s H scope (compEnvC scope cl Cc X.env) fp) (.Name x tp) (gT X.K C (.name i)))
    (he : ∀ (s : Shared) (H : Hp) (Cc : Addr) (cl : List (Str × Addr)) (fp : List Addr) (D : Addr) (acc : List PD) (a : α), a ∈ l →
      PE (X.blk s H scope (compEnvC scope cl Cc X.env) fp) elt (tOf X.K C ((D, acc) :: L) ((δ.set i none).set i (some (.d (g a)))) m m (Eq (SV.d (f a)))))
    (hz : l.length ≤ 100000) (hs : ∀ x, foldedSetIterable iter X.env x = pure x := by intro _; rfl) :
    Ed X C L δ (.ListComp elt [⟨.Name x tp, iter, [], 0⟩] scope pos) n m (.list (l.map f)) := by
  refine e_imp (e_lcNR 0 (fun j d e => ∃ a, l[j]? = some a ∧ e = f a) hc hN hi ok hg (fun s H Cc cl fp D acc j d hd => ?_) (by rw [List.length_map]; exact hz) hs) fun sv ⟨es, e1, e2, e3⟩ => ?_
  · rw [List.getElem?_map] at hd
    cases h3 : l[j]? with
    | none =>
      rw [h3] at hd
      cases hd
    | some a =>
      rw [h3] at hd
      cases hd
      exact PE.imp (he s H Cc cl fp D acc a (List.mem_of_getElem? h3)) fun σ H1 Q ⟨t, q⟩ => ⟨t, fun v H2 sv k h r s => q v H2 sv k h ⟨f a, r.symm, a, rfl, rfl⟩ s⟩
  · subst e1
    rw [map_ext e2 e3]
/-- y = [..], drawn things -/
theorem p_lcNR {elt iter : Expr} {scope : Scope} {x y : Str} {i : Nat} {pos tp py spos : Pos} {ds : List PD} (k : Nat) (w : Nat) (R : Nat → PD → PD → Prop) (hc : X.calm = true) (hN : X.N.Nodup) (hi : Wi X C L δ (.Name x tp) iter n m ds) (ok : BlkOk X.N X.env.scope scope [(x, i)])
    (hg : ∀ (s : Shared) (H : Hp) (Cc : Addr) (cl : List (Str × Addr)) (fp : List Addr), PG (X.blk s H scope (compEnvC scope cl Cc X.env) fp) (.Name x tp) (gT X.K C (.name i)))
    (he : ∀ (s : Shared) (H : Hp) (Cc : Addr) (cl : List (Str × Addr)) (fp : List Addr) (D : Addr) (acc : List PD) (j : Nat) (d : PD), ds[j]? = some d →
      PE (X.blk s H scope (compEnvC scope cl Cc X.env) fp) elt (tOf X.K C ((D, acc) :: L) ((δ.set i none).set i (some (.d d))) (m + j * w) (m + (j + 1) * w) (fun sv => ∃ e, sv = .d e ∧ R j d e)))
    (hz : ds.length ≤ 100000) (hy : X.N[k]? = some y := by rfl) (hyl : X.env.scope.names.lookup y = some .local := by rfl) (hsw : swapsWith (.ListComp elt [⟨.Name x tp, iter, [], 0⟩] scope pos) (some (.Name y py)) spos.line X.env = pure true := by exact sw_true rfl rfl rfl (by decide +kernel)) (hs : ∀ x, foldedSetIterable iter X.env x = pure x := by intro _; rfl) :
    PS X (.Assign [.Name y py] (.ListComp elt [⟨.Name x tp, iter, [], 0⟩] scope pos) spos) (tAsg (tOf X.K C L δ n (m + ds.length * w) (fun sv => ∃ es, sv = .d (.list es) ∧ es.length = ds.length ∧ ∀ (j : Nat) (d e : PD), ds[j]? = some d → es[j]? = some e → R j d e)) (gName k)) :=
  p_setLc k (own := [(x, i)]) (tgd := .name i) hc hN hi ok hg (fun j hj => hj) (fun j d _ => ⟨_, rfl⟩) (fun s H Cc cl fp D acc j d δ' hd _ hp => by
    obtain rfl := put_name_eq hp
    exact he s H Cc cl fp D acc j d hd) hz hy hyl hsw hs
end
end Wk
namespace Wk
open PySem PySem.Spec PyProof.Rows L2

/-! ### blocks -/
structure Fm where
  C : Ct
  A : List (List Addr × Hp)
structure Cf where
  L : Ls
  δ : Dl
  n : Nat
structure In (K : PySem.W.Frag) (F : Fm) (c : Cf) (σ : L2.St) (H : Hp) : Prop where
  an : ∀ a, a ∈ F.A → Keep a.1 a.2 H
  fr : ∀ a, a ∈ F.A → ∀ b, b ∈ Bs F.C c.L → b ∈ a.1 ∨ a.2 b = none
  at_ : At K F.C c.L c.δ c.n σ H
def Fm.add (F : Fm) (B : List Addr) (H : Hp) : Fm := ⟨F.C, (B, H) :: F.A⟩
theorem keep_anchor {a : List Addr × Hp} {B : List Addr} {H H' : Hp} (k : Keep a.1 a.2 H) (f : ∀ b, b ∈ B → b ∈ a.1 ∨ a.2 b = none) (g : Keep B H H') : Keep a.1 a.2 H' := fun b o nb e => g b o (fun z => (f b z).elim nb fun q => by rw [q] at e; cases e) (k b o nb e)
section
variable {K : PySem.W.Frag} {F : Fm} {c : Cf} {σ σ' : L2.St} {H H' : Hp} {m : Nat}
theorem In.go (h : In K F c σ H) (k : Keep (Bs F.C c.L) H H') (g : Hold K F.C c.L m H') : In K F ⟨c.L, c.δ, m⟩ σ H' := ⟨fun a ha => keep_anchor (h.an a ha) (h.fr a ha) k, h.fr, h.at_.go k g⟩
theorem In.slots {δ' : Dl} (h : In K F c σ H) (t : At K F.C c.L δ' c.n σ' H) : In K F ⟨c.L, δ', c.n⟩ σ' H := ⟨h.an, h.fr, t⟩
theorem In.same (h : In K F c σ H) (s : Same H H') : In K F c σ H' := ⟨fun a ha => (h.an a ha).trans (.same s), h.fr, h.at_.same s⟩
theorem In.less {B : List Addr} {H0 : Hp} (h : In K (F.add B H0) c σ H) : In K F c σ H := ⟨fun a ha => h.an a (List.mem_cons_of_mem _ ha), fun a ha => h.fr a (List.mem_cons_of_mem _ ha), h.at_⟩
end
structure LeE (D D' : Ends) : Prop where
  nx : ∀ σ H, D.nx σ H → D'.nx σ H
  rt : ∀ v H, D.rt v H → D'.rt v H
  bk : ∀ σ H, D.bk σ H → D'.bk σ H
  ct : ∀ σ H, D.ct σ H → D'.ct σ H
theorem LeE.refl (D : Ends) : LeE D D := ⟨fun _ _ h => h, fun _ _ h => h, fun _ _ h => h, fun _ _ h => h⟩
def Post (K : PySem.W.Frag) (F : Fm) (J : Cf → Prop) : L2.St → Hp → Prop := fun σ H => ∃ c, J c ∧ In K F c σ H
def tB (K : PySem.W.Frag) (F : Fm) (c : Cf) (D0 : Ends) : TS := fun D σ H => LeE D0 D ∧ In K F c σ H
abbrev Bk (X : Cx) (F : Fm) (c : Cf) (D0 : Ends) (sts : List Stmt) : Prop := PSs X sts (tB X.K F c D0)
abbrev Sk (X : Cx) (F : Fm) (c : Cf) (D0 : Ends) (st : Stmt) : Prop := PS X st (tB X.K F c D0)
/-- what is wanted of what is handed back -/
def Wt (K : PySem.W.Frag) (F : Fm) (rt : VK) (R : Nat → SV → Prop) : Prop := ∀ v H sv m, (∀ a, a ∈ F.A → Keep a.1 a.2 H) → Hold K F.C [] m H → R m sv → SvOk K (Bd F.C []) H v sv → rt v H
theorem Wt.add {K : PySem.W.Frag} {F : Fm} {rt : VK} {R : Nat → SV → Prop} {B : List Addr} {H0 : Hp} (h : Wt K F rt R) : Wt K (F.add B H0) rt R := fun v H sv m a b c d => h v H sv m (fun x hx => a x (List.mem_cons_of_mem _ hx)) b c d
section
variable {X : Cx} {F : Fm} {L : Ls} {δ : Dl} {n m k l : Nat} {D0 : Ends} {c : Cf} {rest : List Stmt} {st : Stmt} {e : Expr} {pos p q : Pos} {x : Str}
theorem r_cons (J : Cf → Prop) (h : Sk X F c { D0 with nx := Post X.K F J } st) (g : ∀ c', J c' → Bk X F c' D0 rest) : Bk X F c D0 (st :: rest) := by
  have hu : PSs X rest (fun D σ H => LeE D0 D ∧ Post X.K F J σ H) := ⟨fun pins s σ H D I ⟨le, c', hj, i⟩ => (g c' hj).run pins s σ H D I ⟨le, i⟩⟩
  exact PSs.imp (pss_cons h hu) fun D σ H ⟨le, i⟩ => ⟨⟨fun σ H p => ⟨le, p⟩, le.rt, le.bk, le.ct⟩, i⟩
theorem r_nil (h : ∀ σ H, In X.K F c σ H → D0.nx σ H) : Bk X F c D0 [] := PSs.imp pss_nil fun D σ H ⟨le, i⟩ => le.nx σ H (h σ H i)
theorem r_end {J : Cf → Prop} {rt : VK} {bk ct : L2.St → Hp → Prop} (h : J c) : Bk X F c ⟨Post X.K F J, rt, bk, ct⟩ [] := r_nil fun σ H i => ⟨c, h, i⟩
theorem Bd_nil {C : Ct} {L : Ls} : ∀ b, b ∈ Bd C [] → b ∈ Bd C L := fun b hb => by
  rcases List.mem_append.mp hb with q | q
  · exact List.mem_append_left _ (List.mem_append_right _ q)
  · exact List.mem_append_right _ q
theorem Hold.nil {K : PySem.W.Frag} {C : Ct} {H : Hp} (h : Hold K C L n H) : Hold K C [] n H :=
  ⟨h.pot, fun _ _ z => absurd z List.not_mem_nil, (List.nodup_append.mp h.nd).2.1, h.wk, fun _ z => absurd z List.not_mem_nil⟩
theorem s_set {R : SV → Prop} (i : Nat) (he : E X F.C L δ e n m R) (h : ∀ sv σ H, R sv → In X.K F ⟨L, δ.set i (some sv), m⟩ σ H → D0.nx σ H) (hN : X.N.Nodup) (hi : X.N[i]? = some x := by rfl) (hx : Loc X.env.scope x := by first | exact Or.inl rfl | exact Or.inr rfl)
    (hs : swapsWith e (some (.Name x q)) pos.line X.env = pure false := by rfl) (hf : X.fn x = true ∨ X.env.scope.names.lookup x = some .local := by first | exact .inl rfl | exact .inr rfl) : Sk X F ⟨L, δ, n⟩ D0 (.Assign [.Name x q] e pos) :=
  PS.imp (ps_set hN hi hx he hs hf) fun D σ H ⟨le, i⟩ => ⟨i.at_, fun v H2 sv k1 h1 r1 s1 => by
    have i2 := i.go k1 h1
    exact le.nx _ _ (h sv _ H2 r1 ⟨i2.an, i2.fr, i2.at_.sl.set s1, h1⟩)⟩
theorem r_setR {R : SV → Prop} (i : Nat) (he : E X F.C L δ e n m R) (g : ∀ sv, R sv → Bk X F ⟨L, δ.set i (some sv), m⟩ D0 rest) (hN : X.N.Nodup) (hi : X.N[i]? = some x := by rfl) (hx : Loc X.env.scope x := by first | exact Or.inl rfl | exact Or.inr rfl)
    (hs : swapsWith e (some (.Name x q)) pos.line X.env = pure false := by rfl) (hf : X.fn x = true ∨ X.env.scope.names.lookup x = some .local := by first | exact .inl rfl | exact .inr rfl) : Bk X F ⟨L, δ, n⟩ D0 (.Assign [.Name x q] e pos :: rest) :=
  r_cons (fun c' => ∃ sv, R sv ∧ c' = ⟨L, δ.set i (some sv), m⟩) (s_set i he (fun sv σ H r j => ⟨_, ⟨sv, r, rfl⟩, j⟩) hN hi hx hs hf) fun c' ⟨sv, r, ec⟩ => by
    subst ec
    exact g sv r
theorem r_set {sv : SV} (i : Nat) (he : E X F.C L δ e n m (Eq sv)) (g : Bk X F ⟨L, δ.set i (some sv), m⟩ D0 rest) (hN : X.N.Nodup) (hi : X.N[i]? = some x := by rfl) (hx : Loc X.env.scope x := by first | exact Or.inl rfl | exact Or.inr rfl)
    (hs : swapsWith e (some (.Name x q)) pos.line X.env = pure false := by rfl) (hf : X.fn x = true ∨ X.env.scope.names.lookup x = some .local := by first | exact .inl rfl | exact .inr rfl) : Bk X F ⟨L, δ, n⟩ D0 (.Assign [.Name x q] e pos :: rest) :=
  r_setR i he (fun _ r => by subst r; exact g) hN hi hx hs hf
/-- a, b = e -/
theorem r_tup {R : SV → Prop} {es : List Expr} {ts : List Tg} {j : Nat} (hc : X.calm = true) (hg : PG X (.Tuple es j p) (gT X.K F.C (.tup ts))) (he : E X F.C L δ e n m R) (g : ∀ sv, R sv → ∃ d δ', sv = .d d ∧ Tg.put (.tup ts) d δ = some δ' ∧ Bk X F ⟨L, δ', m⟩ D0 rest)
    (hs : swapsWithSole [.Tuple es j p] e pos.line X.env = pure false := by rfl) (hw : swappedStores [.Tuple es j p] e X.env = pure none := by rfl) (h1 : (assignEach [.Tuple es j p] X.env).map (·.2) = [assign (.Tuple es j p) X.env] := by rfl) :
    Bk X F ⟨L, δ, n⟩ D0 (.Assign [.Tuple es j p] e pos :: rest) :=
  r_cons (fun c' => Bk X F c' D0 rest) (PS.imp (ps_asg he hg hs hw h1) fun D σ H ⟨le, i⟩ => ⟨i.at_, fun v H2 sv k1 h1 r1 s1 => by
    obtain ⟨d, δ', rfl, hp, hb⟩ := g sv r1
    have i2 := i.go k1 h1
    exact ⟨L, δ, m, d, δ', i2.at_, s1, hp, fun σ' t' _ => le.nx _ _ ⟨_, hb, i2.an, i2.fr, t'⟩⟩⟩) fun c' h => h
/-- a, b = x, y (no pair is made) -/
theorem r_par {R : List SV → Prop} {y : Str} {px py pt pt2 : Pos} {kt k2 : Nat} {a b : Expr} (i j : Nat) (hc : X.calm = true) (hN : X.N.Nodup) (hij : i ≠ j) (ha : Ar X F.C L δ [a, b] n m R) (g : ∀ svs, R svs → ∃ u v, svs = [u, v] ∧ Bk X F ⟨L, (δ.set i (some u)).set j (some v), m⟩ D0 rest)
    (hi : X.N[i]? = some x := by rfl) (hj : X.N[j]? = some y := by rfl) (hx : X.env.scope.names.lookup x = some .local := by rfl) (hy : X.env.scope.names.lookup y = some .local := by rfl)
    (hw : swappedStores [.Tuple [.Name x px, .Name y py] kt pt] (.Tuple [a, b] k2 pt2) X.env = pure (some [x, y]) := by rfl) (hs : swapsWithSole [.Tuple [.Name x px, .Name y py] kt pt] (.Tuple [a, b] k2 pt2) pos.line X.env = pure false := by rfl) :
    Bk X F ⟨L, δ, n⟩ D0 (.Assign [.Tuple [.Name x px, .Name y py] kt pt] (.Tuple [a, b] k2 pt2) pos :: rest) :=
  r_cons (fun c' => Bk X F c' D0 rest) (PS.imp (ps_par hc hN hi hj hij hx hy ha hw hs) fun D σ H ⟨le, ii⟩ => ⟨ii.at_, fun vs H2 svs k1 h1 r1 s1 => by
    obtain ⟨u, v, rfl, hb⟩ := g svs r1
    cases s1 with
    | cons s2 s1 =>
      cases s1 with
      | cons s3 s1 =>
        cases s1
        have i2 := ii.go k1 h1
        exact ⟨_, _, rfl, le.nx _ _ ⟨_, hb, i2.an, i2.fr, (i2.at_.sl.set s2).set s3, h1⟩⟩⟩) fun c' h => h
/-- return -/
theorem r_ret {R : Nat → SV → Prop} {S : SV → Prop} (hw : Wt X.K F D0.rt R) (he : E X F.C L δ e n m S) (h : ∀ sv, S sv → R m sv) : Bk X F ⟨L, δ, n⟩ D0 (.Return (some e) pos :: rest) := by
  refine r_cons (fun _ => False) (PS.imp (ps_ret he) fun D σ H ⟨le, i⟩ => ⟨i.at_, fun v H2 sv k1 h1 r1 s1 => ?_⟩) fun _ z => z.elim
  have i2 := i.go k1 h1
  exact le.rt v H2 (hw v H2 sv m i2.an h1.nil (h sv r1) (s1.less Bd_nil))
theorem r_retD {d d' : PD} (hw : Wt X.K F D0.rt (fun _ z => z = .d d')) (he : Ed X F.C L δ e n m d) (h : d = d') : Bk X F ⟨L, δ, n⟩ D0 (.Return (some e) pos :: rest) := r_ret hw he fun sv q => by
  subst q h
  rfl
/-- return of a list that was filled here -/
theorem r_retM {R : Nat → SV → Prop} {D : Addr} {ds : List PD} (hw : Wt X.K F D0.rt R) (he : Ev X F.C L δ e n m (.ref D)) (hm : (D, ds) ∈ L) (h : R m (.d (.list ds))) : Bk X F ⟨L, δ, n⟩ D0 (.Return (some e) pos :: rest) := by
  refine r_cons (fun _ => False) (PS.imp (ps_ret he) fun DD σ H ⟨le, i⟩ => ⟨i.at_, fun v H2 sv k1 h1 r1 s1 => ?_⟩) fun _ z => z.elim
  subst r1
  have e0 : v = .ref D := s1
  subst e0
  have i2 := i.go k1 h1
  obtain ⟨xs, hx, gx⟩ := h1.ls D ds hm
  refine le.rt _ H2 (hw _ H2 (.d (.list ds)) m i2.an h1.nil h (Dv.lst (.inl ⟨fun z => ?_, .inl hx⟩) (gx.less Bd_nil)))
  rcases List.mem_append.mp z with z | z
  · have nd := (List.nodup_append.mp h1.nd).2.2
    exact nd D (List.mem_map.mpr ⟨_, hm, rfl⟩) D (by simpa [Bs] using z) rfl
  · exact h1.dj _ hm z
/-- a statement that is dropped -/
theorem r_drop {S : SV → Prop} (he : E X F.C L δ e n m S) (g : Bk X F ⟨L, δ, m⟩ D0 rest) (hs : swapsWith e none pos.line X.env = pure false := by rfl) : Bk X F ⟨L, δ, n⟩ D0 (.Expr e pos :: rest) :=
  r_cons (fun c' => c' = ⟨L, δ, m⟩) (PS.imp (ps_expr he hs) fun D σ H ⟨le, i⟩ => ⟨i.at_, fun v H2 sv k1 h1 r1 s1 => le.nx _ _ ⟨_, rfl, i.go k1 h1⟩⟩) fun c' h => by subst h; exact g
/-- if -/
theorem s_if {u : Bool} {t : Expr} {a b : List Stmt} (hc : T X F.C L δ t n m u) (ha : u = true → Bk X F ⟨L, δ, m⟩ D0 a) (hb : u = false → Bk X F ⟨L, δ, m⟩ D0 b) : Sk X F ⟨L, δ, n⟩ D0 (.If t a b pos) := by
  have no : ∀ {s : List Stmt}, PSs X s (fun _ _ _ => False) := ⟨fun _ _ _ _ _ _ z => z.elim⟩
  cases u with
  | true => exact PS.imp (ps_if hc (ha rfl) no) fun D σ H ⟨le, i⟩ => ⟨i.at_, fun H2 k1 h1 => iteT ⟨le, i.go k1 h1⟩⟩
  | false => exact PS.imp (ps_if hc no (hb rfl)) fun D σ H ⟨le, i⟩ => ⟨i.at_, fun H2 k1 h1 => iteF ⟨le, i.go k1 h1⟩⟩
theorem r_if {u : Bool} {t : Expr} {a b : List Stmt} (J : Cf → Prop) (hc : T X F.C L δ t n m u) (ha : u = true → Bk X F ⟨L, δ, m⟩ { D0 with nx := Post X.K F J } a) (hb : u = false → Bk X F ⟨L, δ, m⟩ { D0 with nx := Post X.K F J } b) (g : ∀ c', J c' → Bk X F c' D0 rest) :
    Bk X F ⟨L, δ, n⟩ D0 (.If t a b pos :: rest) := r_cons J (s_if hc ha hb) g
/-- if with no else, whose suite leaves -/
theorem r_ifR {u : Bool} {t : Expr} {a : List Stmt} (hc : T X F.C L δ t n m u) (ha : u = true → Bk X F ⟨L, δ, m⟩ { D0 with nx := Post X.K F (fun _ => False) } a) (g : u = false → Bk X F ⟨L, δ, m⟩ D0 rest) : Bk X F ⟨L, δ, n⟩ D0 (.If t a [] pos :: rest) := by
  cases u with
  | true =>
    refine r_if (fun _ => False) hc (fun _ => ha rfl) (fun z => by cases z) fun _ z => z.elim
  | false => exact r_if (fun c' => c' = ⟨L, δ, m⟩) hc (fun z => by cases z) (fun _ => r_end rfl) fun c' z => by subst z; exact g rfl
theorem r_ifF {u : Bool} {t : Expr} {a : List Stmt} (hc : T X F.C L δ t n m u) (hu : u = false) (g : Bk X F ⟨L, δ, m⟩ D0 rest) : Bk X F ⟨L, δ, n⟩ D0 (.If t a [] pos :: rest) := r_ifR hc (fun h => by rw [hu] at h; cases h) fun _ => g
theorem r_ifT {u : Bool} {t : Expr} {a b : List Stmt} (hc : T X F.C L δ t n m u) (hu : u = true) (g : Bk X F ⟨L, δ, m⟩ { D0 with nx := Post X.K F (fun _ => False) } a) : Bk X F ⟨L, δ, n⟩ D0 (.If t a b pos :: rest) := r_if (fun _ => False) hc (fun _ => g) (fun h => by rw [hu] at h; cases h) fun _ z => z.elim
/-- x = [] -/
theorem r_new (i : Nat) (g : ∀ D, Bk X F ⟨(D, []) :: L, δ.set i (some (.v (.ref D))), n⟩ D0 rest) (hN : X.N.Nodup) (hi : X.N[i]? = some x := by rfl) (hx : Loc X.env.scope x := by first | exact Or.inl rfl | exact Or.inr rfl)
    (hs : swapsWith (.List [] p) (some (.Name x q)) pos.line X.env = pure false := by rfl) (hf : X.fn x = true ∨ X.env.scope.names.lookup x = some .local := by first | exact .inl rfl | exact .inr rfl) : Bk X F ⟨L, δ, n⟩ D0 (.Assign [.Name x q] (.List [] p) pos :: rest) :=
  r_cons (fun c' => ∃ D, c' = ⟨(D, []) :: L, δ.set i (some (.v (.ref D))), n⟩) (PS.imp (ps_set hN hi hx (pe_lst pa_nil) hs hf) fun D σ H ⟨le, ii⟩ => ⟨Nat.zero_le _, fun r nr => by
    have sm := same_new (o := .lst []) nr
    refine le.nx _ _ ⟨_, ⟨r, rfl⟩, fun a ha => (ii.an a ha).trans (.same sm), fun a ha b hb => ?_, ((ii.at_.sl.grow nr).keep (.same sm)).set (sv := .v (.ref r)) rfl, ii.at_.hold.push nr .nil⟩
    rcases List.mem_cons.mp (show b ∈ r :: Bs F.C L from hb) with z | z
    · rw [z]
      by_cases w : r ∈ a.1
      · exact .inl w
      · refine .inr ?_
        cases y : a.2 r with
        | none => rfl
        | some o =>
          have := ii.an a ha r o w y
          rw [nr] at this
          cases this
    · exact ii.fr a ha b z⟩) fun c' ⟨D, ec⟩ => by subst ec; exact g D
/-- x = [e] * n -/
theorem r_rep {a b : Expr} {d : PD} {z : Int} {lp : Pos} (i : Nat) (ha : Ed X F.C L δ a n n d) (hb : Ed X F.C L δ b n n (.int z)) (hz : 0 ≤ z ∧ z ≤ 1000) (g : ∀ D, Bk X F ⟨(D, List.replicate z.toNat d) :: L, δ.set i (some (.v (.ref D))), n⟩ D0 rest) (hN : X.N.Nodup) (hi : X.N[i]? = some x := by rfl)
    (hst : starEach [a] X.env = (false, eval a X.env) :: starEach [] X.env := by rfl) (hx : Loc X.env.scope x := by first | exact Or.inl rfl | exact Or.inr rfl) (hs : swapsWith (.BinOp (.List [a] lp) .Mult b p) (some (.Name x q)) pos.line X.env = pure false := by rfl) (hf : X.fn x = true ∨ X.env.scope.names.lookup x = some .local := by first | exact .inl rfl | exact .inr rfl) :
    Bk X F ⟨L, δ, n⟩ D0 (.Assign [.Name x q] (.BinOp (.List [a] lp) .Mult b p) pos :: rest) := by
  have hE : PE X (.BinOp (.List [a] lp) .Mult b p) _ := pe_op op_rep (pe_lst (pa_cons ha pa_nil hst)) hb
  refine r_cons (fun c' => ∃ D, c' = ⟨(D, List.replicate z.toNat d) :: L, δ.set i (some (.v (.ref D))), n⟩) (PS.imp (ps_set hN hi hx hE hs hf) fun D σ H ⟨le, ii⟩ => ⟨ii.at_, fun v H2 sv k1 h1 r1 s1 => ⟨(by show 1 ≤ sizeLine; decide), fun l nl => ?_⟩⟩) fun c' ⟨D, ec⟩ => by subst ec; exact g D
  subst r1
  have sl := same_new (o := .lst [v]) nl
  have i1 := (ii.go k1 h1).same sl
  refine ⟨i1.at_, fun w H3 sw k2 h2 r2 s2 => ?_⟩
  subst r2
  cases s2
  have nlB : l ∉ Bs F.C L := fun q => h1.fresh nl (bs_bd _ q)
  refine ⟨l, z, [v], rfl, rfl, k2 l _ nlB upd_same, by omega, by omega, ?_, fun r nr => ?_⟩
  · show 1 * z.toNat ≤ sizeLine
    exact Nat.le_trans (by omega : 1 * z.toNat ≤ 1000) (by decide)
  · have i3 := i1.go k2 h2
    have sm := same_new (o := .lst (List.replicate z.toNat [v]).flatten) nr
    have dv : Dv X.K (Bd F.C L) H3 v d := Dv.keep (Dv.keep s1 (.same sl)) (k2.wider bs_bd)
    have all : ∀ j : Nat, DvAll X.K (Bd F.C L) H3 (List.replicate j [v]).flatten (List.replicate j d) := fun j => by
      induction j with
      | zero => exact .nil
      | succ j ih => exact .cons dv ih
    refine le.nx _ _ ⟨_, ⟨r, rfl⟩, fun a ha => (i3.an a ha).trans (.same sm), fun a ha b hb => ?_, ((i3.at_.sl.grow nr).keep (.same sm)).set (sv := .v (.ref r)) rfl, h2.push nr (all _)⟩
    rcases List.mem_cons.mp (show b ∈ r :: Bs F.C L from hb) with y | y
    · rw [y]
      by_cases w : r ∈ a.1
      · exact .inl w
      · refine .inr ?_
        cases y : a.2 r with
        | none => rfl
        | some o =>
          have := i3.an a ha r o w y
          rw [nr] at this
          cases this
    · exact i3.fr a ha b y
/-- xs.append(e) -/
theorem r_append {D : Addr} {ds : List PD} {o a : Expr} {d : PD} {apos cpos : Pos} (ho : Ev X F.C ((D, ds) :: L) δ o n n (.ref D)) (ha : Ed X F.C ((D, ds) :: L) δ a n m d) (hz : ds.length ≤ 100000) (g : Bk X F ⟨(D, ds ++ [d]) :: L, δ, m⟩ D0 rest)
    (hbase : attributeBase o "append" X.env (eval o X.env) = eval o X.env := by rfl)
    (hfew : ((backTo cpos (starEach [a] X.env)).all (fun x => !x.1) && (backToKw cpos (keywordEach [] X.env)).all (fun x => x.1.isSome)
      && decide ([a].length + ([] : List Keyword).length + (if ([] : List Keyword).isEmpty then 0 else 1) < 30)) = true := by rfl)
    (hline : (apos.endLine == cpos.line) = true := by rfl) (hst : starEach [a] X.env = (false, eval a X.env) :: starEach [] X.env := by rfl) (hplain : (backTo cpos (starEach [] X.env)).any (·.1) = false := by rfl)
    (hs : swapsWith (.Call (.Attribute o "append" apos) [a] [] cpos) none pos.line X.env = pure false := by rfl) : Bk X F ⟨(D, ds) :: L, δ, n⟩ D0 (.Expr (.Call (.Attribute o "append" apos) [a] [] cpos) pos :: rest) :=
  r_cons (fun c' => c' = ⟨(D, ds ++ [d]) :: L, δ, m⟩) (PS.imp (ps_expr (pe_bm PySem.F.plainAttrs_list PySem.F.slot_list_append PySem.F.type_list_append mt_append ho (a_cons ha a_nil hst) hbase hfew hline hst hplain) hs) fun DD σ H ⟨le, ii⟩ => ⟨ii.at_, fun v H2 sv k1 h1 r1 s1 => by
    subst r1
    have e0 : v = .ref D := s1
    subst e0
    obtain ⟨xs, hx, gx⟩ := h1.ls D ds List.mem_cons_self
    refine ⟨.inl ⟨rfl, _, .inl (.inl hx)⟩, (ii.go k1 h1).at_, fun vs H3 svs k2 h2 r2 s2 => ?_⟩
    subst r2
    obtain ⟨w, rfl, gw⟩ := DvAll.one s2
    obtain ⟨ys, hy, gy⟩ := h2.ls D ds List.mem_cons_self
    refine ⟨D, ys, w, rfl, rfl, hy, ?_, le.nx _ _ ⟨_, rfl, ?_⟩⟩
    · rw [gy.length]
      exact Nat.lt_of_le_of_lt hz (by decide)
    · have i3 := (ii.go k1 h1).go k2 h2
      have kD : Keep (Bs F.C ((D, ds) :: L)) H3 (upd H3 D (.lst (ys ++ [w]))) := keep_upd List.mem_cons_self
      refine ⟨fun a ha => keep_anchor (i3.an a ha) (i3.fr a ha) kD, i3.fr, i3.at_.sl.keep (kD.wider bs_bd), h2.put (gy.app (.cons gw .nil))⟩⟩) fun c' h => by subst h; exact g
/-- xs[i] = e -/
theorem r_item {D : Addr} {ds : List PD} {o i a : Expr} {d : PD} {z : Int} {j : Nat} {sp : Pos} (ha : Ed X F.C ((D, ds) :: L) δ a n m d) (ho : Ev X F.C ((D, ds) :: L) δ o m m (.ref D)) (hi : Ed X F.C ((D, ds) :: L) δ i m m (.int z)) (hj : ixN ds.length z = some j) (g : Bk X F ⟨(D, ds.set j d) :: L, δ, m⟩ D0 rest)
    (hg : ∀ v, assign (.Subscript o i sp) X.env v = (do
      let ov ← holding [v] (eval o X.env)
      let iv ← holding [v, ov] (eval i X.env)
      standAt sp
      holding [v, ov, iv] (setItem ov iv v)
      release [v, ov, iv] []) := by intro _; rfl)
    (hs : swapsWithSole [.Subscript o i sp] a pos.line X.env = pure false := by rfl) (hw : swappedStores [.Subscript o i sp] a X.env = pure none := by rfl) (h1 : (assignEach [.Subscript o i sp] X.env).map (·.2) = [assign (.Subscript o i sp) X.env] := by rfl) :
    Bk X F ⟨(D, ds) :: L, δ, n⟩ D0 (.Assign [.Subscript o i sp] a pos :: rest) :=
  r_cons (fun c' => c' = ⟨(D, ds.set j d) :: L, δ, m⟩) (PS.imp (ps_asg ha (pg_sub ho hi set_list hg) hs hw h1) fun DD σ H ⟨le, ii⟩ => ⟨ii.at_, fun v H2 sv k1 h1 r1 s1 => by
    subst r1
    have i1 := ii.go k1 h1
    refine ⟨i1.at_, fun w H3 sw k2 h2 r2 s2 => ⟨(i1.go k2 h2).at_, fun y H4 sy k3 h3 r3 s3 => ?_⟩⟩
    subst r2 r3
    have e0 : w = .ref D := s2
    subst e0
    cases s3
    obtain ⟨ys, hy, gy⟩ := h3.ls D ds List.mem_cons_self
    have i3 := (i1.go k2 h2).go k3 h3
    have kD : Keep (Bs F.C ((D, ds) :: L)) H4 (upd H4 D (.lst (ys.set j v))) := keep_upd List.mem_cons_self
    refine ⟨D, ys, z, j, rfl, rfl, hy, by rw [gy.length]; exact hj, le.nx _ _ ⟨_, rfl, fun a ha => keep_anchor (i3.an a ha) (i3.fr a ha) kD, i3.fr, i3.at_.sl.keep (kD.wider bs_bd), h3.put (gy.set j (Dv.keep s1 ((k2.trans k3).wider bs_bd)))⟩⟩⟩) fun c' h => by subst h; exact g
/-- while -/
theorem r_while {t : Expr} {body : List Stmt} (Iv : Nat → Cf → Prop) (u : Cf → Bool) (hp : PassesOwn (model X.prog X.w) X.A X.env X.xe) (h0 : ∃ k, Iv k ⟨L, δ, n⟩) (ht : ∀ k c', Iv k c' → T X F.C c'.L c'.δ t c'.n c'.n (u c'))
    (hb : ∀ k c', Iv k c' → u c' = true → Bk X F c' { D0 with nx := Post X.K F (fun c'' => ∃ k', k' < k ∧ Iv k' c''), ct := Post X.K F (fun c'' => ∃ k', k' < k ∧ Iv k' c''), bk := fun _ _ => False } body) (g : ∀ k c', Iv k c' → u c' = false → Bk X F c' D0 rest) :
    Bk X F ⟨L, δ, n⟩ D0 (.While t body [] pos :: rest) := by
  have hT : PT X t (fun σ H Q => ∃ k c', Iv k c' ∧ tTs X.K F.C c'.L c'.δ c'.n c'.n (u c') σ H Q) := ⟨fun pins s σ H Q I ⟨k, c', hi, q⟩ => (ht k c' hi).run pins s σ H Q I q⟩
  have hB : PSs X body (fun D σ H => ∃ k c', Iv k c' ∧ u c' = true ∧ tB X.K F c' { D0 with nx := Post X.K F (fun c'' => ∃ k', k' < k ∧ Iv k' c''), ct := Post X.K F (fun c'' => ∃ k', k' < k ∧ Iv k' c''), bk := fun _ _ => False } D σ H) :=
    ⟨fun pins s σ H D I ⟨k, c', hi, hu, q⟩ => (hb k c' hi hu).run pins s σ H D I q⟩
  refine r_cons (fun c' => ∃ k, Iv k c' ∧ u c' = false) (PS.imp (ps_while hp hT hB) fun D σ H ⟨le, i⟩ => ?_) fun c' ⟨k, hi, hu⟩ => g k c' hi hu
  obtain ⟨k0, i0⟩ := h0
  refine ⟨fun k σ H => ∃ c', Iv k c' ∧ In X.K F c' σ H, ⟨k0, _, i0, i⟩, fun k σ1 H1 ⟨c', hi, i1⟩ => ⟨k, c', hi, i1.at_, fun H2 k2 h2 => ?_⟩⟩
  have i2 := i1.go k2 h2
  cases hu : u c' with
  | true => exact iteT ⟨fun σ H => ∃ k', k' < k ∧ ∃ c'', Iv k' c'' ∧ In X.K F c'' σ H, fun σ' H' h => h, k, c', hi, hu, ⟨fun σ3 H3 ⟨c'', ⟨k', h1, h2⟩, i3⟩ => ⟨k', h1, c'', h2, i3⟩, le.rt, fun _ _ z => z.elim, fun σ3 H3 ⟨c'', ⟨k', h1, h2⟩, i3⟩ => ⟨k', h1, c'', h2, i3⟩⟩, i2⟩
  | false => exact iteF (le.nx _ _ ⟨c', ⟨k, hi, hu⟩, i2⟩)
def tFo (K : PySem.W.Frag) (F : Fm) (L : Ls) (ds : List PD) (Iv : Nat → Cf → Prop) (tgd : Tg) (D0 : Ends) : TS := fun D σ H => ∃ i d c' H1 δ', ds[i]? = some d ∧ Iv i c' ∧ tgd.put d c'.δ = some δ' ∧
  tB K (F.add (Bs F.C L) H1) ⟨c'.L, δ', c'.n⟩ { D0 with nx := Post K (F.add (Bs F.C L) H1) (Iv (i + 1)), ct := Post K (F.add (Bs F.C L) H1) (Iv (i + 1)), bk := fun _ _ => False } D σ H
/-- for -/
theorem r_for {tg iter : Expr} {body : List Stmt} {tgd : Tg} {ds : List PD} (Iv : Nat → Cf → Prop) (hc : X.calm = true) (hp : PassesOwn (model X.prog X.w) X.A X.env X.xe) (hi : Wi X F.C L δ tg iter n m ds) (hg : PG X tg (gT X.K F.C tgd)) (h0 : Iv 0 ⟨L, δ, m⟩)
    (hL : ∀ i c', Iv i c' → c'.L.map (·.1) = L.map (·.1))
    (hb : ∀ i d c' H1, ds[i]? = some d → Iv i c' → ∃ δ', tgd.put d c'.δ = some δ' ∧ Bk X (F.add (Bs F.C L) H1) ⟨c'.L, δ', c'.n⟩ { D0 with nx := Post X.K (F.add (Bs F.C L) H1) (Iv (i + 1)), ct := Post X.K (F.add (Bs F.C L) H1) (Iv (i + 1)), bk := fun _ _ => False } body)
    (g : ∀ c', Iv ds.length c' → Bk X F c' D0 rest) (hs : ∀ x, foldedSetIterable iter X.env x = pure x := by intro _; rfl) : Bk X F ⟨L, δ, n⟩ D0 (.For tg iter body [] pos :: rest) := by
  have hB : PSs X body (tFo X.K F L ds Iv tgd D0) :=
    ⟨fun pins s σ H D I ⟨i, d, c', H1, δ', h1, h2, h3, q⟩ => by
      obtain ⟨δ2, h4, bk⟩ := hb i d c' H1 h1 h2
      rw [h3] at h4
      cases h4
      exact bk.run pins s σ H D I q⟩
  refine r_cons (Iv ds.length) (PS.imp (ps_for hp hc hi hg hB hs) fun D σ H ⟨le, ii⟩ => ⟨ii.at_, fun J H1 k1 h1 goes => ?_⟩) g
  obtain ⟨G, g0, gGrow, gKeep, wk⟩ := goes.ex
  have i1 := ii.go k1 h1
  have bsE : ∀ i c', Iv i c' → Bs F.C c'.L = Bs F.C L := fun i c' h => by unfold Bs; rw [hL i c' h]
  have bdE : ∀ i c', Iv i c' → Bd F.C c'.L = Bd F.C L := fun i c' h => by unfold Bd; rw [bsE i c' h]
  have gAt : ∀ {i c' σ H}, Iv i c' → In X.K (F.add (Bs F.C L) H1) c' σ H → G (Bd F.C L) H := fun {i c' σ H} h j => gKeep _ _ _ g0 ((j.an (Bs F.C L, H1) List.mem_cons_self).wider bs_bd)
  refine for_it (g := gT X.K F.C tgd) (tb := tFo X.K F L ds Iv tgd D0) (D := D) (σ := σ) (H := H1) (wk (Bd F.C L)) (fun i σ H => Post X.K (F.add (Bs F.C L) H1) (Iv i) σ H) ⟨_, h0, ?_⟩ (fun i σ H _ ⟨c', hi, j⟩ => gAt hi j) ?_ fun σ2 H2 ⟨c', hi, j⟩ => le.nx _ _ ⟨c', hi, j.less⟩
  · refine ⟨fun a ha => ?_, fun a ha => ?_, i1.at_⟩
    · rcases List.mem_cons.mp ha with e | ha
      · rw [e]
        exact .refl _ _
      · exact i1.an a ha
    · rcases List.mem_cons.mp ha with e | ha
      · rw [e]
        exact fun b hb => .inl hb
      · exact i1.fr a ha
  · rintro i x σ2 H2 H3 hlt ⟨c', hiv, j⟩ y
    obtain ⟨sm, d, hd, dv⟩ := y fun b hb => j.at_.hold.known (by show b ∈ Bd F.C c'.L; rw [bdE i c' hiv]; exact hb)
    obtain ⟨δ', hput, _⟩ := hb i d c' H1 hd hiv
    have j3 := j.same sm
    refine ⟨c'.L, c'.δ, c'.n, d, δ', j3.at_, (by show Dv _ (Bd F.C c'.L) _ _ _; rw [bdE i c' hiv]; exact dv), hput, fun σ' t' _ => ⟨i, d, c', H1, δ', hd, hiv, hput, ⟨fun _ _ z => z, le.rt, fun _ _ z => z.elim, fun _ _ z => z⟩, j3.slots t'⟩⟩
end
end Wk
namespace Wk
open PySem PySem.Spec PyProof.Rows L2

/-- the built-in names are the built-in ones -/
structure Bt (mg : Str → Option Value) : Prop where
  len : mg "len" = none
  abs : mg "abs" = none
  int : mg "int" = none
  sum : mg "sum" = none
  tuple : mg "tuple" = none
  list : mg "list" = none
  range : mg "range" = none
  enumerate : mg "enumerate" = none
  all : mg "all" = none
  isinstance : mg "isinstance" = none
  repr : mg "repr" = none
  max : mg "max" = none
  min : mg "min" = none
  str : mg "str" = none
  bool : mg "bool" = none
  dict : mg "dict" = none

/-! ### isinstance -/
def tyN : PD → String
  | .none => "NoneType"
  | .bool _ => "bool"
  | .int _ => "int"
  | .str _ => "str"
  | .list _ => "list"
  | .tuple _ => "tuple"
  | .dict _ => "dict"
theorem Dv.ty {K : PySem.W.Frag} {B : List Addr} {H : Hp} {v : V} {d : PD} (h : Dv K B H v d) : TyX K H v (.type (tyN d)) := by
  cases h with
  | non => exact .base .non
  | bl b => exact .base (.bl b)
  | int i => exact .base (.int i)
  | str x => exact .base (.str x)
  | lst r g =>
    rcases r with ⟨_, r | ⟨o, r⟩⟩ | r
    · exact .base (.lst r)
    · exact .base (.frz r)
    · rcases r with r | ⟨o, its, n, hk, hc, _⟩
      · exact (rd_no r).elim
      · exact .kList hk hc
  | tup r g =>
    rcases r with ⟨_, r | ⟨o, r⟩⟩ | r
    · exact .base (.tup r)
    · exact .fTuple r
    · rcases r with r | ⟨o, its, n, hk, hc, _⟩
      · exact (rd_no r).elim
      · exact .kTuple hk hc
def isI : PD → Bool
  | .int _ => true
  | .bool _ => true
  | _ => false
def isB : PD → Bool
  | .bool _ => true
  | _ => false
def isT : PD → Bool
  | .tuple _ => true
  | _ => false
def isS : PD → Bool
  | .str _ => true
  | _ => false
theorem kit_int : ∀ d : PD, kitB (tyN d) "int" = some (isI d)
  | .none => show kitB "NoneType" "int" = some false by decide +kernel
  | .bool _ => show kitB "bool" "int" = some true by decide +kernel
  | .int _ => show kitB "int" "int" = some true by decide +kernel
  | .str _ => show kitB "str" "int" = some false by decide +kernel
  | .list _ => show kitB "list" "int" = some false by decide +kernel
  | .tuple _ => show kitB "tuple" "int" = some false by decide +kernel
  | .dict _ => show kitB "dict" "int" = some false by decide +kernel
theorem kit_bool : ∀ d : PD, kitB (tyN d) "bool" = some (isB d)
  | .none => show kitB "NoneType" "bool" = some false by decide +kernel
  | .bool _ => show kitB "bool" "bool" = some true by decide +kernel
  | .int _ => show kitB "int" "bool" = some false by decide +kernel
  | .str _ => show kitB "str" "bool" = some false by decide +kernel
  | .list _ => show kitB "list" "bool" = some false by decide +kernel
  | .tuple _ => show kitB "tuple" "bool" = some false by decide +kernel
  | .dict _ => show kitB "dict" "bool" = some false by decide +kernel
theorem kit_tuple : ∀ d : PD, kitB (tyN d) "tuple" = some (isT d)
  | .none => show kitB "NoneType" "tuple" = some false by decide +kernel
  | .bool _ => show kitB "bool" "tuple" = some false by decide +kernel
  | .int _ => show kitB "int" "tuple" = some false by decide +kernel
  | .str _ => show kitB "str" "tuple" = some false by decide +kernel
  | .list _ => show kitB "list" "tuple" = some false by decide +kernel
  | .tuple _ => show kitB "tuple" "tuple" = some true by decide +kernel
  | .dict _ => show kitB "dict" "tuple" = some false by decide +kernel
theorem kit_str : ∀ d : PD, kitB (tyN d) "str" = some (isS d)
  | .none => show kitB "NoneType" "str" = some false by decide +kernel
  | .bool _ => show kitB "bool" "str" = some false by decide +kernel
  | .int _ => show kitB "int" "str" = some false by decide +kernel
  | .str _ => show kitB "str" "str" = some true by decide +kernel
  | .list _ => show kitB "list" "str" = some false by decide +kernel
  | .tuple _ => show kitB "tuple" "str" = some false by decide +kernel
  | .dict _ => show kitB "dict" "str" = some false by decide +kernel
section
variable {X : Cx} {C : Ct} {L : Ls} {δ : Dl} {n m k l : Nat} {a b c e f : Expr} {es : List Expr} {pos p q : Pos} {d : PD} {ds : List PD} {x : Str}
theorem e_isi {ty : Str} {tn : String} {u : Bool} (hm : X.mg "isinstance" = none) (hm2 : X.mg ty = none) (hv : bootBuiltins ty = some (.type tn)) (hk : kitB (tyN d) tn = some u) (h : Ed X C L δ e n m d) (hn : ty ≠ "__name__" := by decide) (hdb : (ty == ("__debug__" : Str)) = false := by decide)
    (hg : Gl X "isinstance" := by rfl) (hg2 : Gl X ty := by rfl) (he : starEach [e, .Name ty q] X.env = (false, eval e X.env) :: starEach [.Name ty q] X.env := by rfl) (he2 : starEach [.Name ty q] X.env = (false, eval (.Name ty q) X.env) :: starEach [] X.env := by rfl)
    (hpl : (backTo pos (starEach [.Name ty q] X.env)).any (·.1) = false := by rfl) : Ed X C L δ (.Call (.Name "isinstance" p) [e, .Name ty q] [] pos) n m (.bool u) :=
  PE.imp (pe_callB call_isi hg hm (by decide +kernel) (pa_cons h (pa_cons (pe_bltn hg2 hm2 hv (v := .ty tn) rfl hn hdb) pa_nil he2) he) (he := he) (hpl := hpl)) fun σ H Q ⟨t, q⟩ => ⟨t, fun v H2 sv k1 h1 r1 s1 => by
    subst r1
    exact ⟨v, .ty tn, _, _, u, rfl, .ty tn, Dv.ty s1, kit_ty hk, q _ H2 _ k1 h1 rfl (Dv.bl u)⟩⟩
theorem boot_ty_int : bootBuiltins "int" = some (.type "int") := by decide +kernel
theorem boot_ty_bool : bootBuiltins "bool" = some (.type "bool") := by decide +kernel
theorem boot_ty_tuple : bootBuiltins "tuple" = some (.type "tuple") := by decide +kernel
theorem boot_ty_str : bootBuiltins "str" = some (.type "str") := by decide +kernel
theorem e_isInt (z : Bt X.mg) (h : Ed X C L δ e n m d) (hg : Gl X "isinstance" := by rfl) (hg2 : Gl X "int" := by rfl) (he : starEach [e, .Name "int" q] X.env = (false, eval e X.env) :: starEach [.Name "int" q] X.env := by rfl) (he2 : starEach [.Name "int" q] X.env = (false, eval (.Name "int" q) X.env) :: starEach [] X.env := by rfl)
    (hpl : (backTo pos (starEach [.Name "int" q] X.env)).any (·.1) = false := by rfl) : Ed X C L δ (.Call (.Name "isinstance" p) [e, .Name "int" q] [] pos) n m (.bool (isI d)) := e_isi z.isinstance z.int boot_ty_int (kit_int d) h (hg := hg) (hg2 := hg2) (he := he) (he2 := he2) (hpl := hpl)
theorem e_isBool (z : Bt X.mg) (h : Ed X C L δ e n m d) (hg : Gl X "isinstance" := by rfl) (hg2 : Gl X "bool" := by rfl) (he : starEach [e, .Name "bool" q] X.env = (false, eval e X.env) :: starEach [.Name "bool" q] X.env := by rfl) (he2 : starEach [.Name "bool" q] X.env = (false, eval (.Name "bool" q) X.env) :: starEach [] X.env := by rfl)
    (hpl : (backTo pos (starEach [.Name "bool" q] X.env)).any (·.1) = false := by rfl) : Ed X C L δ (.Call (.Name "isinstance" p) [e, .Name "bool" q] [] pos) n m (.bool (isB d)) := e_isi z.isinstance z.bool boot_ty_bool (kit_bool d) h (hg := hg) (hg2 := hg2) (he := he) (he2 := he2) (hpl := hpl)
theorem e_isTup (z : Bt X.mg) (h : Ed X C L δ e n m d) (hg : Gl X "isinstance" := by rfl) (hg2 : Gl X "tuple" := by rfl) (he : starEach [e, .Name "tuple" q] X.env = (false, eval e X.env) :: starEach [.Name "tuple" q] X.env := by rfl) (he2 : starEach [.Name "tuple" q] X.env = (false, eval (.Name "tuple" q) X.env) :: starEach [] X.env := by rfl)
    (hpl : (backTo pos (starEach [.Name "tuple" q] X.env)).any (·.1) = false := by rfl) : Ed X C L δ (.Call (.Name "isinstance" p) [e, .Name "tuple" q] [] pos) n m (.bool (isT d)) := e_isi z.isinstance z.tuple boot_ty_tuple (kit_tuple d) h (hg := hg) (hg2 := hg2) (he := he) (he2 := he2) (hpl := hpl)
theorem e_isStr (z : Bt X.mg) (h : Ed X C L δ e n m d) (hg : Gl X "isinstance" := by rfl) (hg2 : Gl X "str" := by rfl) (he : starEach [e, .Name "str" q] X.env = (false, eval e X.env) :: starEach [.Name "str" q] X.env := by rfl) (he2 : starEach [.Name "str" q] X.env = (false, eval (.Name "str" q) X.env) :: starEach [] X.env := by rfl)
    (hpl : (backTo pos (starEach [.Name "str" q] X.env)).any (·.1) = false := by rfl) : Ed X C L δ (.Call (.Name "isinstance" p) [e, .Name "str" q] [] pos) n m (.bool (isS d)) := e_isi z.isinstance z.str boot_ty_str (kit_str d) h (hg := hg) (hg2 := hg2) (he := he) (he2 := he2) (hpl := hpl)

/-! ### repr -/
theorem cr_reprD (gu : X.A.guards = some []) (hu : X.A.units + 64 < cLine) : CallR X (.builtin "repr") (fun xs H Q => ∃ v d, xs = [v] ∧ Dp X.K H v d ∧ PyData.showable d = true ∧ PyData.hasDict d = false ∧ d.shown.length ≤ sizeLine ∧ d.depth ≤ 62 ∧ Q (.str d.shown) H) := by
  intro pins s σ H xs us Q I r h
  obtain ⟨v, d, rfl, dp, hs, hd, hz, hdep, hq⟩ := h
  obtain ⟨u, rfl, rv⟩ := vals1 r
  have fin : ∀ h' tk t, (∀ b o, s.heap.get? b = some o → h'.get? b = some o) → EP X pins σ Q (.str d.shown t) { s with heap := h', toks := tk } := fun h' tk t hk => ⟨.str d.shown, H, I.kept hk, ⟨_, rfl⟩, hq⟩
  have rd := Dp.reads I d v u dp rv
  cases d with
  | none =>
    cases dp
    cases rv
    exact PySem.P.repr_of_none (fin _ _ _ fun _ _ e => e)
  | bool b =>
    cases dp
    cases rv
    exact PySem.P.repr_of_bool (fin _ _ _ fun _ _ e => e)
  | int i =>
    cases dp
    obtain ⟨t, rfl⟩ := rv
    exact PySem.P.repr_of_int (by simpa [PyData.showable] using hs) (fin _ _ _ fun _ _ e => e)
  | str x =>
    cases dp
    obtain ⟨t, rfl⟩ := rv
    exact PySem.P.repr_of_str (fin _ _ _ fun _ _ e => e) hz
  | list ds =>
    cases dp
    cases rv
    obtain ⟨as, rd⟩ := rd
    exact PySem.repr_of_reads' rd hs (PyData.noDict_hsm hd) gu (by omega) (fun _ _ e => e) (fun h' t tk hk => fin h' tk t hk) hz
  | tuple ds =>
    cases dp
    cases rv
    obtain ⟨as, rd⟩ := rd
    exact PySem.repr_of_reads' rd hs (PyData.noDict_hsm hd) gu (by omega) (fun _ _ e => e) (fun h' t tk hk => fin h' tk t hk) hz
  | dict _ => cases hd
/-- what can be written out -/
def Showy (d : PD) : Prop := PyData.showable d = true ∧ PyData.hasDict d = false ∧ d.shown.length ≤ sizeLine ∧ d.depth ≤ 62
theorem e_repr {r : Nat} (z : Bt X.mg) (gu : X.A.guards = some []) (hr : Room r X.A) (hs : Showy d) (h : Ed X C L δ e n m d) (hg : Gl X "repr" := by rfl) (he : starEach [e] X.env = (false, eval e X.env) :: starEach [] X.env := by rfl) : Ed X C L δ (.Call (.Name "repr" p) [e] [] pos) n m (.str d.shown) :=
  e_callB (cr_reprD gu hr.units) (R := Eq ([d].map SV.d)) (fun vs svs H Q h1 e1 s1 q => by
    subst e1
    obtain ⟨v, rfl, g⟩ := DvAll.one s1
    obtain ⟨a, b, c, d'⟩ := hs
    exact ⟨v, d, rfl, Dv.dp _ _ g, a, b, c, d', q _ H _ (.refl H) rfl (Dv.str _)⟩) z.repr (by decide +kernel) (a_cons h a_nil he) hg (he := he)
/-- repr of what may be several things -/
theorem e_reprR {r : Nat} {R : PD → Prop} (z : Bt X.mg) (gu : X.A.guards = some []) (hr : Room r X.A) (hs : ∀ d, R d → Showy d) (h : E X C L δ e n m (fun sv => ∃ d, sv = .d d ∧ R d)) (hg : Gl X "repr" := by rfl) (he : starEach [e] X.env = (false, eval e X.env) :: starEach [] X.env := by rfl) :
    E X C L δ (.Call (.Name "repr" p) [e] [] pos) n m (fun sv => ∃ d, sv = .d (.str d.shown) ∧ R d) :=
  e_callB (cr_reprD gu hr.units) (fun vs svs H Q h1 e1 s1 q => by
    obtain ⟨s, r, rfl, ⟨d, rfl, hR⟩, rfl⟩ := e1
    obtain ⟨v, rfl, g⟩ := DvAll.one (d := d) s1
    obtain ⟨a, b, c, d'⟩ := hs d hR
    exact ⟨v, d, rfl, Dv.dp _ _ g, a, b, c, d', q _ H (.d (.str d.shown)) (.refl H) ⟨d, rfl, hR⟩ (Dv.str _)⟩) z.repr (by decide +kernel) (ar_cons h ar_nil he) hg (he := he)

/-! ### more built-in functions -/
theorem e_gcd {i j : Int} (hm : X.mg "gcd" = some (.builtin "math.gcd")) (ha : Ed X C L δ a n m (.int i)) (hb : Ed X C L δ b m k (.int j)) (hg : Gl X "gcd" := by rfl) (he : starEach [a, b] X.env = (false, eval a X.env) :: starEach [b] X.env := by rfl) (he2 : starEach [b] X.env = (false, eval b X.env) :: starEach [] X.env := by rfl)
    (hpl : (backTo pos (starEach [b] X.env)).any (·.1) = false := by rfl) : Ed X C L δ (.Call (.Name "gcd" p) [a, b] [] pos) n k (.int ((Nat.gcd i.natAbs j.natAbs : Nat) : Int)) :=
  PE.imp (pe_callBfun cr_gcd hg hm (a_cons ha (a_cons hb a_nil he2) he) (he := he) (hpl := hpl)) fun σ H Q ⟨t, q⟩ => ⟨t, fun vs H2 svs k1 h1 e1 s1 => by
    subst e1
    obtain ⟨v, w, rfl, g, g'⟩ := DvAll.two s1
    cases g
    cases g'
    exact ⟨i, j, rfl, q _ H2 _ k1 h1 rfl (Dv.int _)⟩⟩
theorem e_max {i j : Int} (z : Bt X.mg) (hc : X.calm = true) (ha : Ed X C L δ a n m (.int i)) (hb : Ed X C L δ b m k (.int j)) (hg : Gl X "max" := by rfl) (he : starEach [a, b] X.env = (false, eval a X.env) :: starEach [b] X.env := by rfl) (he2 : starEach [b] X.env = (false, eval b X.env) :: starEach [] X.env := by rfl)
    (hpl : (backTo pos (starEach [b] X.env)).any (·.1) = false := by rfl) : Ed X C L δ (.Call (.Name "max" p) [a, b] [] pos) n k (.int (if j > i then j else i)) :=
  e_callB (call_max2 hc) (R := Eq ([.int i, .int j].map SV.d)) (fun vs svs H Q h1 e1 s1 q => by
    subst e1
    obtain ⟨v, w, rfl, g, g'⟩ := DvAll.two s1
    cases g
    cases g'
    exact ⟨i, j, rfl, q _ H _ (.refl H) rfl (Dv.int _)⟩) z.max (by decide +kernel) (a_cons ha (a_cons hb a_nil he2) he) hg (he := he) (hpl := hpl)
theorem e_min {i j : Int} (z : Bt X.mg) (hc : X.calm = true) (ha : Ed X C L δ a n m (.int i)) (hb : Ed X C L δ b m k (.int j)) (hg : Gl X "min" := by rfl) (he : starEach [a, b] X.env = (false, eval a X.env) :: starEach [b] X.env := by rfl) (he2 : starEach [b] X.env = (false, eval b X.env) :: starEach [] X.env := by rfl)
    (hpl : (backTo pos (starEach [b] X.env)).any (·.1) = false := by rfl) : Ed X C L δ (.Call (.Name "min" p) [a, b] [] pos) n k (.int (if j < i then j else i)) :=
  e_callB (call_min2 hc) (R := Eq ([.int i, .int j].map SV.d)) (fun vs svs H Q h1 e1 s1 q => by
    subst e1
    obtain ⟨v, w, rfl, g, g'⟩ := DvAll.two s1
    cases g
    cases g'
    exact ⟨i, j, rfl, q _ H _ (.refl H) rfl (Dv.int _)⟩) z.min (by decide +kernel) (a_cons ha (a_cons hb a_nil he2) he) hg (he := he) (hpl := hpl)
theorem rgV_data {K : PySem.W.Frag} {B : List Addr} {H : Hp} (lo hi : Int) : DvAll K B H (rgV lo hi) (rangeD lo (hi - lo).toNat) := by
  unfold rgV rangeD
  generalize List.range (hi - lo).toNat = l
  induction l with
  | nil => exact .nil
  | cons x l ih => exact .cons (.int _) ih
/-- list(range(e)) -/
theorem e_listRg {i : Int} {rp ra : Pos} (z : Bt X.mg) (hc : X.calm = true) (hz : 0 ≤ i ∧ i ≤ 16777216) (h : Ed X C L δ e n m (.int i)) (hg : Gl X "list" := by rfl) (hg2 : Gl X "range" := by rfl) (he : starEach [e] X.env = (false, eval e X.env) :: starEach [] X.env := by rfl)
    (he2 : starEach [.Call (.Name "range" rp) [e] [] ra] X.env = (false, eval (.Call (.Name "range" rp) [e] [] ra) X.env) :: starEach [] X.env := by rfl) : Ed X C L δ (.Call (.Name "list" p) [.Call (.Name "range" rp) [e] [] ra] [] pos) n m (.list (rangeD 0 i.toNat)) :=
  PE.imp (pe_listRg hc hg z.list (prg_1 hg2 z.range h he) he2) fun σ H Q ⟨t, q⟩ => ⟨t, fun v H2 sv k1 h1 r1 s1 => by
    subst r1
    cases s1
    refine ⟨i, rfl, .of_le (by omega) hz.2 (by omega) hz.1, fun r nr => ?_⟩
    have sm := same_new (o := .lst (rgV 0 i)) nr
    have g : DvAll X.K (Bd C L) H2 (rgV 0 i) (rangeD 0 i.toNat) := by
      have g := rgV_data (K := X.K) (B := Bd C L) (H := H2) 0 i
      rw [Int.sub_zero] at g
      exact g
    exact q _ _ _ (k1.trans (.same sm)) (h1.same sm) rfl (Dv.lst (.inl ⟨h1.fresh nr, .inl upd_same⟩) (g.keep (.same sm)))⟩
/-- xs[:k] -/
theorem cut_data {K : PySem.W.Frag} {B : List Addr} {H : Hp} : ∀ {ds : List PD} {vs : List V} (a b : Nat), DvAll K B H vs ds → DvAll K B H ((vs.drop a).take b) ((ds.drop a).take b)
  | [], _, a, b, h => by cases h; simp; exact .nil
  | d :: ds, _, 0, 0, h => by simp; exact .nil
  | d :: ds, _, 0, b + 1, h => by
    cases h with
    | cons x y => exact .cons x (by have := cut_data 0 b y; simpa using this)
  | d :: ds, _, a + 1, b, h => by
    cases h with
    | cons x y => simpa using cut_data a b y
theorem e_upTo {j : Nat} {p2 : Pos} (ha : Ed X C L δ a n m (.list ds)) (hb : Ed X C L δ b m k (.int (j : Nat))) : Ed X C L δ (.Subscript a (.Slice none (some b) none p2) pos) n k (.list (ds.take j)) :=
  PE.imp (pe_slice sl_list ha po_none (po_some hb)) fun σ H Q ⟨t, q⟩ => ⟨t, fun v H2 sv k1 h1 r1 s1 => ⟨t.go k1 h1, fun w H3 sw k2 h2 r2 s2 => by
    subst r1 r2
    cases s2
    have s3 := Dv.keep s1 (k2.wider bs_bd)
    cases s3 with
    | @lst r xs _ r' g =>
      refine ⟨_, rfl, r, xs, rfl, r'.sq, fun y ny => ?_⟩
      have sm := same_new (o := .lst (cutV xs none (some (j : Int)))) ny
      refine q _ _ _ (k1.trans (k2.trans (.same sm))) (h2.same sm) rfl (Dv.lst (.inl ⟨h2.fresh ny, .inl upd_same⟩) (DvAll.keep ?_ (.same sm)))
      unfold cutV
      rw [show HT.sIx xs.length xs.length (some (j : Int)) = min j xs.length from HT.sIx_nat _ _ _, HT.sIx_none, Nat.sub_zero]
      have g2 := cut_data 0 (min j xs.length) g
      rw [List.drop_zero] at g2 ⊢
      rw [List.drop_zero] at g2
      have e1 : ds.take (min j xs.length) = ds.take j := by
        rw [g.length]
        by_cases q : j ≤ ds.length
        · rw [Nat.min_eq_left q]
        · rw [Nat.min_eq_right (by omega), List.take_of_length_le (Nat.le_refl _), List.take_of_length_le (by omega)]
      rw [e1] at g2
      exact g2⟩⟩
/-- all(..) of a list of things that are True -/
theorem e_allT (z : Bt X.mg) (hc : X.calm = true) (h : E X C L δ e n m (fun sv => ∃ es, sv = .d (.list es) ∧ ∀ d, d ∈ es → d = .bool true)) (hg : Gl X "all" := by rfl) (he : starEach [e] X.env = (false, eval e X.env) :: starEach [] X.env := by rfl) : Ed X C L δ (.Call (.Name "all" p) [e] [] pos) n m (.bool true) :=
  e_callB (cr_all hc) (fun vs svs H Q h1 e1 s1 q => by
    obtain ⟨s, r, rfl, ⟨es, rfl, hR⟩, rfl⟩ := e1
    obtain ⟨v, rfl, g⟩ := DvAll.one (d := .list es) s1
    have e2 : es = (List.replicate es.length true).map PyData.bool := by
      rw [List.map_replicate]
      exact List.eq_replicate_iff.mpr ⟨rfl, hR⟩
    cases g with
    | lst r g =>
      rw [e2] at g
      have e3 := g.bools
      subst e3
      refine ⟨_, List.replicate es.length true, rfl, r.sq, ?_⟩
      rw [show (List.replicate es.length true).all id = true by simp]
      exact q _ H (.d (.bool true)) (.refl H) rfl (Dv.bl _)) z.all (by decide +kernel) (ar_cons h ar_nil he) hg (he := he)

/-! ### t.index(x), t a tuple of the text -/
structure KT (K : PySem.W.Frag) (a : Addr) (ds : List PD) : Prop where
  at_ : ∃ o, K.lookup a = some o ∧ o.cls = .type "tuple" ∧ o.dict = none
  dv : ∀ B H, Dv K B H (.ref a) (.tuple ds)
theorem e_kt {r : Addr} (h : KT X.K r ds) (ha : Ev X C L δ e n m (.ref r)) : Ed X C L δ e n m (.tuple ds) := PE.imp ha fun σ H Q ⟨t, q⟩ => ⟨t, fun v H2 sv k1 h1 r1 s1 => by
  subst r1
  have e0 : v = .ref r := s1
  subst e0
  exact q _ H2 _ k1 h1 rfl (h.dv _ _)⟩
theorem mt_tindexD (hu : X.A.units + 66 < cLine) : MtR X "tuple.index" (fun x xs H Q => ∃ (r : Addr) (y : V) (d : PD) (ds : List PD), x = .ref r ∧ xs = [y] ∧ Dp X.K H (.ref r) (.tuple ds) ∧ Dp X.K H y d ∧ SeqAt.shaped d = true ∧ SeqAt.shaped (.tuple ds) = true ∧
    true ∈ ds.map (fun z => PyData.eqv z d) ∧ Q (.int (((ds.map (fun z => PyData.eqv z d)).idxOf true : Nat) : Int)) H) := by
  intro pins s σ H x xs v us Q I rx rxs h
  obtain ⟨r, y, d, ds, rfl, rfl, h1, h2, s1, s2, hm, hq⟩ := h
  cases rx
  obtain ⟨u, rfl, ry⟩ := vals1 rxs
  cases h1 with
  | tup hs ha =>
    obtain ⟨its, rv, pl, hz⟩ := I.tuple hs
    obtain ⟨as, ra⟩ := Dp.readsAll I ds _ its ha rv
    obtain ⟨bs, rb⟩ := Dp.reads I d y u h2 ry
    have cl2 : PyData.canLayAll0 ds = true := SeqAt.canLay_of_shaped s2
    have len : its.length = ds.length := by
      have e1 := rv.length
      have e2 : ∀ {vs : List V} {es : List PD}, DpAll X.K H vs es → vs.length = es.length := by
        intro vs es g
        induction es generalizing vs with
        | nil => cases g; rfl
        | cons e es ih =>
          cases g with
          | cons _ g => rw [List.length_cons, List.length_cons, ih g]
      rw [← e1, e2 ha]
    have items : ∀ {vs : List Value} {es : List PD} {cs : List Addr}, ReadsAll s.heap vs es cs → PyData.canLayAll0 es = true → ∀ j (g1 : j < vs.length) (g2 : j < es.length), SeqAt.EqAt X.A.in1 s vs[j] u (PyData.eqv es[j] d) := by
      intro vs es cs g
      induction es generalizing vs cs with
      | nil => intro _ j _ g2; exact absurd g2 (Nat.not_lt_zero _)
      | cons e es ih =>
        cases g with
        | cons q1 q2 =>
          intro hc j g1 g2
          have hc2 : (PyData.canLay0 e && PyData.canLayAll0 es) = true := hc
          rw [Bool.and_eq_true] at hc2
          cases j with
          | zero =>
            refine SeqAt.eqAt_reads e d X.A.in1 s _ u _ bs q1 rb hc2.1 (SeqAt.canLay_of_shaped s1) ?_
            have := SeqAt.depth_of_shaped s1
            have h3 : min e.depth d.depth ≤ d.depth := Nat.min_le_right _ _
            show X.A.units + 1 + min e.depth d.depth < cLine
            omega
          | succ j => exact ih q2 hc2.2 j (Nat.lt_of_succ_lt_succ g1) (Nat.lt_of_succ_lt_succ g2)
    refine SeqAt.call_tuple_index (ks := ds.map (fun z => PyData.eqv z d)) (k := true) pl ⟨by rw [List.length_map]; exact len, fun j g1 g2 => ?_⟩ hm ⟨.int _, H, I.tok _, ⟨_, rfl⟩, hq⟩
    rw [List.length_map] at g2
    rw [List.getElem_map]
    exact (items ra cl2 j g1 g2).cast (by cases PyData.eqv ds[j] d <;> rfl)
theorem e_tindex {r : Nat} {w : Addr} {o : Expr} {apos cpos : Pos} (hr : Room r X.A) (kt : KT X.K w ds) (s2 : SeqAt.shaped (.tuple ds) = true) (ho : Ev X C L δ o n m (.ref w)) (ha : Ed X C L δ a m k d) (s1 : SeqAt.shaped d = true) (hm : true ∈ ds.map (fun z => PyData.eqv z d))
    (hbase : attributeBase o "index" X.env (eval o X.env) = eval o X.env := by rfl)
    (hfew : ((backTo cpos (starEach [a] X.env)).all (fun x => !x.1) && (backToKw cpos (keywordEach [] X.env)).all (fun x => x.1.isSome)
      && decide ([a].length + ([] : List Keyword).length + (if ([] : List Keyword).isEmpty then 0 else 1) < 30)) = true := by rfl)
    (hline : (apos.endLine == cpos.line) = true := by rfl) (hst : starEach [a] X.env = (false, eval a X.env) :: starEach [] X.env := by rfl) (hplain : (backTo cpos (starEach [] X.env)).any (·.1) = false := by rfl) :
    Ed X C L δ (.Call (.Attribute o "index" apos) [a] [] cpos) n k (.int (((ds.map (fun z => PyData.eqv z d)).idxOf true : Nat) : Int)) :=
  PE.imp (pe_bm PySem.F.plainAttrs_tuple PySem.F.slot_tuple_index PySem.F.type_tuple_index (mt_tindexD (by have := hr.un; omega)) ho (a_cons ha a_nil hst) hbase hfew hline hst hplain) fun σ H Q ⟨t, q⟩ => ⟨t, fun v H2 sv k1 h1 r1 sv1 => by
    subst r1
    have e0 : v = .ref w := sv1
    subst e0
    refine ⟨.inr (.inl ⟨rfl, kt.at_⟩), t.go k1 h1, fun vs H3 svs k2 h2 r2 sv2 => ?_⟩
    subst r2
    obtain ⟨y, rfl, gy⟩ := DvAll.one sv2
    exact ⟨w, y, d, ds, rfl, rfl, Dv.dp _ _ (kt.dv (Bd C L) H3), Dv.dp _ _ gy, s1, s2, hm, q _ H3 _ (k1.trans k2) h2 rfl (Dv.int _)⟩⟩
end

/-! ### defs -/
theorem okP {P : Program} {w : World} {K : PySem.W.Frag} {mg : Str → Option Value} {base : Heap} {k : Nat} {f : Addr} {x qual : Str} {st : Stmt} {fd : FuncData} {N ps : List Str} {ok : List PD → SV → Prop} (F : Fun K x qual st f fd) (S : FnScope N ps (defScope st))
    (hl : ∀ ds sv, ok ds sv → ds.length = ps.length)
    (hb : ∀ (cdv : Value) (A : Around) (outer : List Env) (s : Shared) (H : Hp) (E : XK) (B : List Addr) (ds : List PD) (sv : SV) (fm : Fm) (D0 : Ends), ok ds sv → (cxOf CX0 P w K mg base N qual (defScope st) f cdv A outer s H E).nox.A.guards = some [] →
      Room k (cxOf CX0 P w K mg base N qual (defScope st) f cdv A outer s H E).nox.A → fm.C = ⟨none, B⟩ → Wt K fm D0.rt (fun _ z => z = sv) → (sv = .d .none → ∀ c σ H', In K fm c σ H' → D0.nx σ H') →
      Bk (cxOf CX0 P w K mg base N qual (defScope st) f cdv A outer s H E).nox fm ⟨[], ds.map (fun d => some (SV.d d)) ++ List.replicate (N.length - ps.length) none, 0⟩ D0 (defBody st)) : Gd P w K mg base CX0 (k + 1) f fd ps (SpP K ok) := by
  have slots : ∀ {B : List Addr} {H : Hp} {vs : List V} {ds : List PD} {j : Nat}, DvAll K B H vs ds → Sl K B H (vs.map some ++ List.replicate j none) (ds.map (fun d => some (SV.d d)) ++ List.replicate j none) := by
    intro B H vs ds j g
    have e := g.length
    refine ⟨by simp [e], fun i sv h => ?_⟩
    by_cases hi : i < ds.length
    · rw [List.getElem?_append_left (by simpa using hi), List.getElem?_map] at h
      cases q : ds[i]? with
      | none =>
        rw [q] at h
        cases h
      | some d =>
        rw [q] at h
        cases h
        obtain ⟨v, h1, h2⟩ := g.get q
        exact ⟨v, by rw [List.getElem?_append_left (by simpa [e] using hi), List.getElem?_map, h1]; rfl, h2⟩
    · rw [List.getElem?_append_right (by simpa using hi), List.getElem?_replicate] at h
      split at h <;> cases h
  refine gd_of F S (fun vs H Q E ⟨B, ds, d, _, g, o, _⟩ => by rw [g.length]; exact hl ds d o) fun cdv A outer s H vs Q E gu hr ⟨B, ds, sv, kn, g, o, q⟩ => ?_
  refine ⟨_, (hb cdv A outer s H E B ds sv ⟨⟨none, B⟩, [([], H)]⟩ { nx := fun _ H' => Q .non H', rt := Q } o gu hr rfl ?_ ?_).nox, ?_⟩
  · intro v H' z m a _ e s1
    subst e
    exact q v H' (fun b u eb => a ([], H) List.mem_cons_self b u List.not_mem_nil eb) s1
  · intro e c σ H' i
    subst e
    exact q .non H' (fun b u eb => i.an ([], H) List.mem_cons_self b u List.not_mem_nil eb) Dv.non
  · refine ⟨.refl _, fun a ha => ?_, fun a ha b hb => ?_, ?_, ?_⟩
    · rw [List.mem_singleton.mp ha]
      exact .refl _ _
    · exact absurd hb List.not_mem_nil
    · unfold L2.start
      rw [g.length, hl ds sv o]
      exact slots g
    · exact ⟨fun p e => (by cases e), fun _ _ z => absurd z List.not_mem_nil, List.nodup_nil, kn, fun _ z => absurd z List.not_mem_nil⟩
end Wk
namespace Wk
open PySem PySem.Spec PyProof.Rows L2
section
variable {X : Cx} {F : Fm} {L : Ls} {δ : Dl} {n m k l : Nat} {D0 : Ends} {rest : List Stmt} {e : Expr} {es : List Expr} {pos p q : Pos} {x : Str} {d : PD} {ds : List PD}
theorem r_retG {S : SV → Prop} (he : E X F.C L δ e n m S) (h : ∀ σ v H sv, In X.K F ⟨L, δ, m⟩ σ H → S sv → SvOk X.K (Bd F.C L) H v sv → D0.rt v H) : Bk X F ⟨L, δ, n⟩ D0 (.Return (some e) pos :: rest) :=
  r_cons (fun _ => False) (PS.imp (ps_ret he) fun D σ H ⟨le, i⟩ => ⟨i.at_, fun v H2 sv k1 h1 r1 s1 => le.rt v H2 (h σ v H2 sv (i.go k1 h1) r1 s1)⟩) fun _ z => z.elim
/-- return of a new list of written items -/
theorem r_retLst (he : Dd X F.C L δ es n m ds) (hz : ds.length ≤ 1000) (h : ∀ σ H r vs, In X.K F ⟨L, δ, m⟩ σ H → DvAll X.K (Bd F.C L) H vs ds → H r = none → D0.rt (.ref r) (upd H r (.lst vs))) : Bk X F ⟨L, δ, n⟩ D0 (.Return (some (.List es p)) pos :: rest) :=
  r_cons (fun _ => False) (PS.imp (ps_ret (pe_lst he)) fun D σ H ⟨le, i⟩ => ⟨i.at_, fun vs H2 svs k1 h1 r1 s1 => by
    subst r1
    have g := s1.data
    refine ⟨?_, fun r nr => le.rt _ _ (h σ H2 r vs (i.go k1 h1) g nr)⟩
    rw [g.length]
    exact Nat.le_of_lt (small1000 hz)⟩) fun _ z => z.elim
end
section
variable {X : Cx} {C : Ct} {L : Ls} {δ : Dl} {n m k : Nat} {a b : Expr} {pos : Pos} {ds : List PD}
/-- an item at a drawn place -/
theorem e_ixLR (ha : Ed X C L δ a n m (.list ds)) (hb : E X C L δ b m k (fun sv => ∃ d, sv = .d d ∧ ∃ i : Int, d = .int i ∧ 0 ≤ i ∧ i < (ds.length : Nat))) (hs : PlainIx b := by intro _ _; rfl) : E X C L δ (.Subscript a b pos) n k (fun sv => ∃ d, sv = .d d ∧ d ∈ ds) :=
  PE.imp (pe_ix ix_list ha hb hs) fun σ H Q ⟨t, q⟩ => ⟨t, fun v H2 sv k1 h1 e1 s1 => ⟨t.go k1 h1, fun w H3 sw k2 h2 e2 s2 => by
    subst e1
    obtain ⟨_, rfl, i, rfl, h0, hlt⟩ := e2
    cases s2
    have s3 := Dv.keep s1 (k2.wider bs_bd)
    obtain ⟨j, rfl⟩ : ∃ j : Nat, i = (j : Nat) := ⟨i.toNat, by omega⟩
    have hj : j < ds.length := by omega
    cases s3 with
    | lst r g =>
      obtain ⟨z, hz, hd⟩ := atI_at g (atI_nat (List.getElem?_eq_getElem hj))
      exact ⟨_, _, _, z, rfl, rfl, r.sq, hz, q z H3 _ (k1.trans k2) h2 ⟨_, rfl, List.getElem_mem hj⟩ hd⟩⟩⟩
end
theorem slots_of {K : PySem.W.Frag} {B : List Addr} {H : Hp} {vs : List V} {ds : List PD} {j : Nat} (g : DvAll K B H vs ds) : Sl K B H (vs.map some ++ List.replicate j none) (ds.map (fun d => some (SV.d d)) ++ List.replicate j none) := by
  have e := g.length
  refine ⟨by simp [e], fun i sv h => ?_⟩
  by_cases hi : i < ds.length
  · rw [List.getElem?_append_left (by simpa using hi), List.getElem?_map] at h
    cases q : ds[i]? with
    | none =>
      rw [q] at h
      cases h
    | some d =>
      rw [q] at h
      cases h
      obtain ⟨v, h1, h2⟩ := g.get q
      exact ⟨v, by rw [List.getElem?_append_left (by simpa [e] using hi), List.getElem?_map, h1]; rfl, h2⟩
  · rw [List.getElem?_append_right (by simpa using hi), List.getElem?_replicate] at h
    split at h <;> cases h
theorem Sl.first {K : PySem.W.Frag} {B : List Addr} {H : Hp} {σ : L2.St} {δ : Dl} {v : V} {sv : SV} (h : Sl K B H σ δ) (g : SvOk K B H v sv) : Sl K B H (some v :: σ) (some sv :: δ) := by
  refine ⟨by rw [List.length_cons, List.length_cons, h.1], fun i w e => ?_⟩
  cases i with
  | zero =>
    cases e
    exact ⟨v, rfl, g⟩
  | succ i => exact h.2 i w e
/-- a def that draws -/
theorem okQ {P : Program} {w : World} {K : PySem.W.Frag} {mg : Str → Option Value} {base : Heap} {k : Nat} {f : Addr} {x qual : Str} {st : Stmt} {fd : FuncData} {N ps : List Str} {ok : List PD → Nat → (PD → Prop) → Prop} (F : Fun K x qual st f fd) (S : FnScope N ps (defScope st))
    (hl : ∀ ds c R, ok ds c R → ds.length + 1 = ps.length)
    (hb : ∀ (cdv : Value) (A : Around) (outer : List Env) (s : Shared) (H : Hp) (E : XK) (p : Addr) (B : List Addr) (ds : List PD) (c : Nat) (R : PD → Prop) (n : Nat) (fm : Fm) (D0 : Ends), ok ds c R → n + c ≤ 1000000 → (cxOf CX0 P w K mg base N qual (defScope st) f cdv A outer s H E).nox.A.guards = some [] →
      Room k (cxOf CX0 P w K mg base N qual (defScope st) f cdv A outer s H E).nox.A → fm.C = ⟨some p, B⟩ → Wt K fm D0.rt (fun m z => m ≤ n + c ∧ ∃ d, z = .d d ∧ R d) →
      Bk (cxOf CX0 P w K mg base N qual (defScope st) f cdv A outer s H E).nox fm ⟨[], some (.v (.ref p)) :: (ds.map (fun d => some (SV.d d)) ++ List.replicate (N.length - ps.length) none), n⟩ D0 (defBody st)) : Gd P w K mg base CX0 (k + 1) f fd ps (SpQ K ok) := by
  refine gd_of F S (fun vs H Q E ⟨p, B, ws, n, c, ds, R, e, _, _, g, _, _, o, _⟩ => by rw [e, List.length_cons, g.length]; exact hl ds c R o) fun cdv A outer s H vs Q E gu hr ⟨p, B, ws, n, c, ds, R, ev, hp, kn, g, po, hz, o, q⟩ => ?_
  subst ev
  have inB : ∀ b, b ∈ Bd ⟨some p, B⟩ [] → b ∈ B := fun b hb => by
    rcases List.mem_append.mp hb with z | z
    · have e : b = p := by simpa [Bs] using z
      rw [e]
      exact hp
    · exact z
  refine ⟨_, (hb cdv A outer s H E p B ds c R n ⟨⟨some p, B⟩, [([p], H)]⟩ { nx := fun _ H' => Q .non H', rt := Q } o hz gu hr rfl ?_).nox, ?_⟩
  · intro v H' z m a ho e s1
    obtain ⟨hm, d, rfl, hR⟩ := e
    exact q v H' d (a ([p], H) List.mem_cons_self) ((ho.pot p rfl).mono hm) hR (Dv.less s1 fun b hb => List.mem_append_right _ hb)
  · refine ⟨.refl _, fun a ha => ?_, fun a ha b hb => ?_, ?_, ?_⟩
    · rw [List.mem_singleton.mp ha]
      exact .refl _ _
    · rw [List.mem_singleton.mp ha]
      exact .inl (by simpa [Bs] using hb)
    · unfold L2.start
      have e1 : (V.ref p :: ws).length = ps.length := by rw [List.length_cons, g.length]; exact hl ds c R o
      rw [e1]
      exact (slots_of (g.less inB)).first (v := .ref p) (sv := .v (.ref p)) rfl
    · refine ⟨fun p' e => ?_, fun _ _ z => absurd z List.not_mem_nil, by simp [Bs], kn, fun _ z => absurd z List.not_mem_nil⟩
      cases e
      exact po

/-! ### the purse: made, drawn from -/
/-- a new purse -/
def SpPot (K : PySem.W.Frag) : Sp := fun vs H Q _ => ∃ (B : List Addr) (ns : List Int) (k : Int), (∀ b, b ∈ B → H b ≠ none) ∧ DvAll K B H vs [.list (ns.map PyData.int), .int k] ∧ (0 ≤ k ∧ k < 100) ∧ ∀ p H', H p = none → Same H H' → PotAt p 0 H' → Q (.ref p) H'
theorem okPot {P : Program} {w : World} {K : PySem.W.Frag} {mg : Str → Option Value} {base : Heap} {k : Nat} {f : Addr} {x qual : Str} {st : Stmt} {fd : FuncData} {N : List Str} (F : Fun K x qual st f fd) (S : FnScope N ["script", "place"] (defScope st))
    (hb : ∀ (cdv : Value) (A : Around) (outer : List Env) (s : Shared) (H : Hp) (E : XK) (B : List Addr) (ns : List Int) (y : Int) (fm : Fm) (D0 : Ends), 0 ≤ y ∧ y < 100 → (cxOf CX0 P w K mg base N qual (defScope st) f cdv A outer s H E).nox.A.guards = some [] →
      Room k (cxOf CX0 P w K mg base N qual (defScope st) f cdv A outer s H E).nox.A → fm.C = ⟨none, B⟩ →
      (∀ c σ H r a b, In K fm c σ H → H r = none → (0 ≤ a ∧ a.natAbs < 2 ^ 1000) → (0 ≤ b ∧ b < 2305843009213693951) → D0.rt (.ref r) (upd H r (.lst [.int a, .int b, .int 0]))) →
      Bk (cxOf CX0 P w K mg base N qual (defScope st) f cdv A outer s H E).nox fm ⟨[], some (.d (.list (ns.map PyData.int))) :: some (.d (.int y)) :: List.replicate (N.length - 2) none, 0⟩ D0 (defBody st)) : Gd P w K mg base CX0 (k + 1) f fd ["script", "place"] (SpPot K) := by
  refine gd_of F S (fun vs H Q E ⟨B, ns, y, _, g, _⟩ => g.length) fun cdv A outer s H vs Q E gu hr ⟨B, ns, y, kn, g, hy, q⟩ => ?_
  refine ⟨_, (hb cdv A outer s H E B ns y ⟨⟨none, B⟩, [([], H)]⟩ { nx := fun _ H' => Q .non H', rt := Q } hy gu hr rfl ?_).nox, ?_⟩
  · intro c σ H' r a b i nr ha hb
    have sm : Same H H' := fun b' o e => i.an ([], H) List.mem_cons_self b' o List.not_mem_nil e
    have sm2 := same_new (o := .lst [.int a, .int b, .int 0]) nr
    exact q r _ (sm.free nr) (sm.trans sm2) ⟨a, b, 0, upd_same, ha, hb, by decide, by decide⟩
  · refine ⟨.refl _, fun a ha => ?_, fun a ha b hb => ?_, ?_, ?_⟩
    · rw [List.mem_singleton.mp ha]
      exact .refl _ _
    · exact absurd hb List.not_mem_nil
    · unfold L2.start
      rw [g.length]
      exact slots_of g
    · exact ⟨fun p e => (by cases e), fun _ _ z => absurd z List.not_mem_nil, List.nodup_nil, kn, fun _ z => absurd z List.not_mem_nil⟩
/-- g(pot(script, place)): a purse is made and handed on -/
theorem e_callFresh {X : Cx} {C : Ct} {L : Ls} {δ : Dl} {n : Nat} {k1 k2 r : Nat} {g y : Str} {p1 p2 pos1 pos2 : Pos} {e1 e2 : Expr} {ps1 ps2 : List Str} {ok : List PD → Nat → (PD → Prop) → Prop} {c : Nat} {R : PD → Prop} {ns : List Int} {i : Int}
    (G : Kn X CX0 k1 g ps1 (SpQ X.K ok)) (Y : Kn X CX0 k2 y ps2 (SpPot X.K)) (gu : X.A.guards = some []) (hr : Room r X.A) (hk1 : k1 ≤ r) (hk2 : k2 ≤ r) (ha : Dd X C L δ [e1, e2] n n [.list (ns.map PyData.int), .int i]) (hi : 0 ≤ i ∧ i < 100) (ho : ok [] c R) (hc : c ≤ 1000000)
    (hg : Gl X g := by rfl) (hy : Gl X y := by rfl) (hdb : (g == ("__debug__" : Str)) = false := by decide) (hdb2 : (y == ("__debug__" : Str)) = false := by decide)
    (he : starEach [.Call (.Name y p2) [e1, e2] [] pos2] X.env = (false, eval (.Call (.Name y p2) [e1, e2] [] pos2) X.env) :: starEach [] X.env := by rfl) (hpl : (backTo pos1 (starEach [] X.env)).any (·.1) = false := by rfl)
    (he2 : starEach [e1, e2] X.env = (false, eval e1 X.env) :: starEach [e2] X.env := by rfl) (hpl2 : (backTo pos2 (starEach [e2] X.env)).any (·.1) = false := by rfl) :
    E X C L δ (.Call (.Name g p1) [.Call (.Name y p2) [e1, e2] [] pos2] [] pos1) n n (fun sv => ∃ d, sv = .d d ∧ R d) :=
  PE.imp (pe_callG G gu (hr.mono hk1) hg pass0 (pa_cons (pe_callG Y gu (hr.mono hk2) hy pass0 ha hdb2 he2 hpl2) pa_nil he) hdb he hpl) fun σ H Q ⟨t, q⟩ => ⟨t, fun vs H2 svs k3 h3 r3 s3 => by
    subst r3
    refine ⟨Bd C L, ns, i, fun b hb => h3.known hb, s3.data, hi, fun p H4 np sm po => ?_⟩
    refine ⟨p, p :: Bd C L, [], 0, c, [], R, rfl, List.mem_cons_self, fun b hb => ?_, .nil, po, by omega, ho, fun v H5 d kp po2 hR g5 => ?_⟩
    · rcases List.mem_cons.mp hb with z | z
      · obtain ⟨_, _, _, e, _⟩ := po
        rw [z, e]
        simp
      · exact same_some sm (h3.known z)
    · have kk : Same H2 H5 := fun b o e => kp b o (fun z => by
        have e' : b = p := by simpa using z
        rw [e', np] at e
        cases e) (sm b o e)
      exact q v H5 _ (k3.trans (.same kk)) (h3.same kk) ⟨d, rfl, hR⟩ (Dv.less g5 fun b hb => List.mem_cons_of_mem _ hb)⟩
/-- the draw -/
def okTake : List PD → Nat → (PD → Prop) → Prop := fun ds c R => ∃ u : Int, ds = [.int u] ∧ 0 < u ∧ u.natAbs < 2 ^ 1000 ∧ c = 1 ∧ R = fun d => ∃ i : Int, d = .int i ∧ 0 ≤ i ∧ i < u
theorem okTk {P : Program} {w : World} {K : PySem.W.Frag} {mg : Str → Option Value} {base : Heap} {k : Nat} {f : Addr} {x qual : Str} {st : Stmt} {fd : FuncData} {N : List Str} (F : Fun K x qual st f fd) (S : FnScope N ["pot", "upto"] (defScope st))
    (hb : ∀ (cdv : Value) (A : Around) (outer : List Env) (s : Shared) (H : Hp) (E : XK) (p : Addr) (u a b c : Int) (fm : Fm) (D0 : Ends), 0 < u → u.natAbs < 2 ^ 1000 → (0 ≤ a ∧ a.natAbs < 2 ^ 1000) → (0 ≤ b ∧ b < 2305843009213693951) → (0 ≤ c ∧ c < 1000000) → (cxOf CX0 P w K mg base N qual (defScope st) f cdv A outer s H E).nox.A.guards = some [] →
      Room k (cxOf CX0 P w K mg base N qual (defScope st) f cdv A outer s H E).nox.A → fm.C = ⟨none, []⟩ →
      (∀ δ n σ H v i a' c', In K fm ⟨[(p, [.int a', .int b, .int c'])], δ, n⟩ σ H → (0 ≤ a' ∧ a' ≤ a) → (0 ≤ c' ∧ c' ≤ c + 1) → 0 ≤ i → i < u → Dv K (Bd fm.C [(p, [.int a', .int b, .int c'])]) H v (.int i) → D0.rt v H) →
      Bk (cxOf CX0 P w K mg base N qual (defScope st) f cdv A outer s H E).nox fm ⟨[(p, [.int a, .int b, .int c])], some (.v (.ref p)) :: some (.d (.int u)) :: List.replicate (N.length - 2) none, 0⟩ D0 (defBody st)) : Gd P w K mg base CX0 (k + 1) f fd ["pot", "upto"] (SpQ K okTake) := by
  refine gd_of F S (fun vs H Q E ⟨p, B, ws, n, c, ds, R, e, _, _, g, _, _, ⟨u, e2, _⟩, _⟩ => by rw [e, List.length_cons, g.length, e2]; rfl) fun cdv A outer s H vs Q E gu hr ⟨p, B, ws, n, c1, ds, R, ev, hp, kn, g, po, hz, ⟨u, e2, hu, hu2, e3, e4⟩, q⟩ => ?_
  subst ev e2 e3 e4
  obtain ⟨a, b, c, h1, h2, h3, h4, h5⟩ := po
  refine ⟨_, (hb cdv A outer s H E p u a b c ⟨⟨none, []⟩, [([p], H)]⟩ { nx := fun _ H' => Q .non H', rt := Q } hu hu2 h2 h3 ⟨h4, by omega⟩ gu hr rfl ?_).nox, ?_⟩
  · intro δ m σ H' v i a' c' iin ha hc h0 hlt dv
    cases dv
    obtain ⟨xs, hx, gx⟩ := iin.at_.hold.ls p _ List.mem_cons_self
    have exs : xs = [.int a', .int b, .int c'] := by
      have := DvAll.ints (ns := [a', b, c']) gx
      rw [this]
      rfl
    subst exs
    exact q _ H' (.int i) (iin.an ([p], H) List.mem_cons_self) ⟨a', b, c', hx, ⟨ha.1, Nat.lt_of_le_of_lt (by omega) h2.2⟩, h3, hc.1, by omega⟩ ⟨i, rfl, h0, hlt⟩ (.int i)
  · refine ⟨.refl _, fun a ha => ?_, fun a ha b hb => ?_, ?_, ?_⟩
    · rw [List.mem_singleton.mp ha]
      exact .refl _ _
    · rw [List.mem_singleton.mp ha]
      exact .inl (by simpa [Bs] using hb)
    · unfold L2.start
      cases g with
      | cons g1 g2 =>
        cases g1
        cases g2
        exact (slots_of (ds := [.int u]) (.cons (.int u) .nil)).first (v := .ref p) (sv := .v (.ref p)) rfl
    · refine ⟨fun p' e => (by cases e), fun a' ds' z => ?_, by simp [Bs], fun _ z => absurd z List.not_mem_nil, fun _ _ => List.not_mem_nil⟩
      rw [List.mem_singleton] at z
      cases z
      exact ⟨_, h1, .cons (.int _) (.cons (.int _) (.cons (.int _) .nil))⟩
/-! bounds -/
theorem cm64 {i j : Int} (hi : 0 ≤ i ∧ i < 18446744073709551616) (hj : 0 ≤ j ∧ j < 18446744073709551616) : CMulW i j :=
  wide_mul (a := 64) (b := 64) (by have : (2 : Nat) ^ 64 = 18446744073709551616 := by decide
                                   omega) (by have : (2 : Nat) ^ 64 = 18446744073709551616 := by decide
                                              omega) (by decide) (by decide) (by decide)
theorem mulb {x y a b : Int} (hx : 0 ≤ x ∧ x ≤ a) (hy : 0 ≤ y ∧ y ≤ b) : 0 ≤ x * y ∧ x * y ≤ a * b :=
  ⟨Int.mul_nonneg hx.1 hy.1, Int.mul_le_mul hx.2 hy.2 hy.1 (by omega)⟩
theorem bits_lt {i : Int} {a : Nat} (h : i.natAbs < 2 ^ a) (ha : 0 < a) : Builtin.Int.intBits i ≤ a + 1 := by
  have x := PySem.Flt.log2_lt_of ha h
  unfold Builtin.Int.intBits
  split <;> omega
theorem cp64 {i j : Int} (hi : 0 ≤ i ∧ i < 18446744073709551616) (hj : 0 ≤ j ∧ j ≤ 1000) : CPowW i j := by
  have h := bits_lt (i := i) (a := 64) (by have : (2 : Nat) ^ 64 = 18446744073709551616 := by decide
                                           omega) (by decide)
  have h2 := mulb (x := (Builtin.Int.intBits i : Nat)) (y := j) (a := 65) (b := 1000) ⟨by omega, by omega⟩ hj
  exact ⟨hj.1, by omega⟩
theorem at_in {l : List Int} {i : Int} (h : 0 ≤ i ∧ i < (l.length : Nat)) : ∃ q, q ∈ l ∧ atI (l.map PyData.int) i = some (.int q) := by
  obtain ⟨j, rfl⟩ : ∃ j : Nat, i = (j : Nat) := ⟨i.toNat, by omega⟩
  have hi : j < l.length := by omega
  refine ⟨l[j], List.getElem_mem hi, ?_⟩
  apply atI_nat
  rw [List.getElem?_map, List.getElem?_eq_getElem hi]
  rfl
theorem big_pow : ((10 : Int) ^ (60 : Int).toNat) ^ (5 : Int).toNat = 10 ^ 300 := by decide +kernel
theorem big_pos : (0 : Int) < ((10 : Int) ^ (60 : Int).toNat) ^ (5 : Int).toNat := by decide +kernel
theorem own_ok (x : Int) (u : Bool) : CMulW (x % ((10 : Int) ^ (60 : Int).toNat) ^ (5 : Int).toNat) (if u = true then 1 else 0) ∧ 0 ≤ x % ((10 : Int) ^ (60 : Int).toNat) ^ (5 : Int).toNat * (if u = true then 1 else 0) ∧
    (x % ((10 : Int) ^ (60 : Int).toNat) ^ (5 : Int).toNat * (if u = true then 1 else 0)).natAbs < 2 ^ 1000 := by
  have h0 := Int.emod_nonneg x (Int.ne_of_gt big_pos)
  have h1 := Int.emod_lt_of_pos x big_pos
  generalize x % ((10 : Int) ^ (60 : Int).toNat) ^ (5 : Int).toNat = y at h0 h1 ⊢
  rw [big_pow] at h1
  have hl : (10 : Int) ^ 300 < 2 ^ 999 := by decide +kernel
  have e2 : ((2 ^ 999 : Nat) : Int) = (2 : Int) ^ 999 := by norm_cast
  have hn : y.natAbs < 2 ^ 999 := by omega
  have hn2 : (2 : Nat) ^ 999 < 2 ^ 1000 := by decide +kernel
  cases u with
  | true =>
    refine ⟨wide_mul (a := 999) (b := 1) hn (by decide) (by decide) (by decide) (by decide), ?_, ?_⟩
    · show 0 ≤ y * 1
      omega
    · show (y * 1).natAbs < _
      rw [Int.mul_one]
      exact Nat.lt_trans hn hn2
  | false =>
    refine ⟨wide_mul (a := 999) (b := 1) hn (by decide) (by decide) (by decide) (by decide), ?_, ?_⟩
    · show 0 ≤ y * 0
      omega
    · show (y * 0).natAbs < _
      rw [Int.mul_zero]
      decide +kernel
end Wk
namespace Wk
open PySem PySem.Spec PyProof.Rows L2
/-! ### enumerate(t), t a tuple -/
theorem enumT_new (t : Addr) (its : Array Value) (n : Nat) (dd : Option Addr) (ss : Array (Option Value)) : Meets (Builtin.«enumerate.__new__» ⟨[.type "enumerate", .ref t], []⟩) (fun _ R s =>
    s.heap.get? t = some ⟨.type "tuple", dd, .seq its n, ss⟩ ∧
    R (.ok (.ret (.ref (s.heap.push { cls := .type "tuple_iterator", data := .fields #[.ref t, .int 0 0] }).objs.size)))
      { s with heap := Heap.push (s.heap.push { cls := .type "tuple_iterator", data := .fields #[.ref t, .int 0 0] }) { cls := .type "enumerate", data := .fields #[.none, .bool false, .ref s.heap.objs.size, rawInt 0, .none, .none] } }) := by
  apply Meets.of_wp
  rintro prog w A R ⟨hp, g, d, tk, os⟩ ⟨ht, hR⟩
  have subE := sub_enumerate
  have isT : Heap.IsTuple (Shared.heap ⟨hp, g, d, tk, os⟩) t its := ⟨_, ht, rfl, n, rfl⟩
  wp_walk using AutoSeq1.wpAny_loadPart' ht
  apply wpAny_stack_any
  intro st
  apply wpAny_pure
  split
  · rename_i c _ _ _ _ _
    cases (c == Value.type "enumerate") <;> (wp_walk using AutoSeq1.wpAny_loadPart' ht, wpAny_pyIter_tuple isT) <;> exact ⟨_, rfl, hR⟩
  · wp_walk using AutoSeq1.wpAny_loadPart' ht, wpAny_pyIter_tuple isT
    exact ⟨_, rfl, hR⟩
theorem call_enumT {prog : Program} {w : World} {A : Around} {E : Value → Shared → Prop} {s : Shared} {t : Addr} {its : Array Value} {Q : Value → Shared → Prop} (hT : s.heap.IsTuple t its)
    (h : ∀ h', IsEnum h' (s.heap.objs.size + 1) s.heap.objs.size 0 .none → h'.IsTupleIter s.heap.objs.size t 0 → (∀ b o, s.heap.get? b = some o → h'.get? b = some o) → Q (.ref (s.heap.objs.size + 1)) { s with heap := h' }) :
    wpAny (model prog w) A (call (.type "enumerate") [.ref t]) Q E s := by
  obtain ⟨⟨cl, dd, dt, ss⟩, ho, hc, n, hd⟩ := hT
  simp only at hc hd
  subst hc hd
  have size1 : (s.heap.push { cls := .type "tuple_iterator", data := .fields #[.ref t, .int 0 0] }).objs.size = s.heap.objs.size + 1 := Heap.size_push ..
  refine callType_new F.called_enumerate (by decide) (F.typeCall_enumerate_1 _) (F.newCall_enumerate_1 _)
    (fun obj => F.args_object_init_2 obj _) F.entry_enumerate_new (enumT_new t its n dd ss) ⟨ho, ?_⟩
  have en := Heap.get?_push_size (s.heap.push { cls := .type "tuple_iterator", data := .fields #[.ref t, .int 0 0] })
    (o := { cls := .type "enumerate", data := .fields #[.none, .bool false, .ref s.heap.objs.size, rawInt 0, .none, .none] }) rfl
  show _ ∧ _
  rw [size1] at en ⊢
  exact ⟨⟨_, en, rfl⟩, h _ en ⟨_, Heap.get?_push_of_some _ (Heap.get?_push_size _ rfl), rfl, rfl⟩ fun b o q => Heap.get?_push_of_some _ (Heap.get?_push_of_some _ q)⟩
/-- a new pair at each turn -/
def ItT (K : PySem.W.Frag) (a : Addr) : It where
  go := fun i H => ∃ (xs : List V) (x : V), SqT K H a xs ∧ xs[i]? = some x
  yld := fun i H v H' => ∃ T x, v = .ref T ∧ H T = none ∧ H' = upd H T (.tup [.int (i : Nat), x]) ∧ ∀ xs, SqT K H a xs → xs[i]? = some x
  stop := fun i H => ∃ xs : List V, SqT K H a xs ∧ xs.length ≤ i
theorem turn_T {P : Program} {w : World} {K : PySem.W.Frag} {elts : List Expr} {kk : Nat} {tpos : Pos} (a e it : Addr) :
    Turn P w K (.Tuple elts kk tpos) (ItT K a) [e, it] e (fun i h => (∃ old, IsEnum h e it ((i : Nat) : Int) old) ∧ h.IsTupleIter it a i ∧ e ≠ it) := by
  constructor
  · simp
  · rintro i h ⟨⟨old, he⟩, ⟨o, ho, hc, hd⟩, _⟩ b hb
    have two : b = e ∨ b = it := by simpa using hb
    rcases two with rfl | rfl
    · exact ⟨_, he, fun v q => nomatch q⟩
    · exact ⟨o, ho, fun v q => by rw [hd] at q; cases q⟩
  · rintro i h h' ⟨⟨old, he⟩, hi, ne⟩ k
    exact ⟨⟨old, k e (by simp) _ he⟩, hi.at (fun o q => k it (by simp) o q), ne⟩
  · rintro X rfl rfl rfl hc i pins s σ H E I hf ⟨⟨old, he⟩, hit, ne⟩ ⟨xs, x, hq, hx⟩
    obtain ⟨its, rv, p, hz⟩ := I.tuple hq
    obtain ⟨u, hu, ru⟩ := rv.get hx
    have hel : e < s.heap.objs.size := Heap.lt_size he
    have hil : it < s.heap.objs.size := by
      obtain ⟨_, q, _⟩ := hit
      exact Heap.lt_size q
    have hpT : s.heap.IsTuple a its.toArray := p
    have ha : a ≠ it := by
      rintro rfl
      obtain ⟨o1, q1, c1, _⟩ := hpT
      obtain ⟨o2, q2, c2, _⟩ := hit
      rw [q1] at q2
      cases q2
      rw [c1] at c2
      injection c2 with c3
      exact absurd c3 (by decide)
    have hae : a ≠ e := by
      rintro rfl
      obtain ⟨o1, q1, c1, _⟩ := hpT
      have q2 : s.heap.get? a = some _ := he
      rw [q1] at q2
      cases q2
      injection c1 with c3
      exact absurd c3 (by decide)
    have hlt : i < its.toArray.size := by
      have := (List.getElem?_eq_some_iff.mp hu).1
      simpa using this
    have D := Draws.tuple (prog := X.prog) (w := X.w) (A := X.A.in1) (I.ok.hd hc) it a ha its.toArray
    refine wpAny_pyNext_enum_itemD D he ⟨hit, hpT⟩ hlt ne (by simp only [List.mem_cons, List.not_mem_nil, or_false]; exact fun z => z.elim ne (fun z => hae z.symm)) fun y h' tk hy ho ⟨hit', hT'⟩ hT hsz hk => ?_
    have ey : y = u := by
      have h1 : its.toArray[i]? = some y := hy
      have h2 : its.toArray[i]? = some u := by simpa using hu
      rw [h1] at h2
      exact Option.some.inj h2
    subst ey
    refine ⟨_, rfl, wpAny_letOwnedTupleGo_enum (s := { s with heap := h', toks := tk + 1 }) ho fun h'' he' sb => ?_⟩
    have newT : h''.get? s.heap.objs.size = some { cls := .type "tuple", data := .seq #[.int i tk, y] } := (sb.2 _ (Nat.ne_of_gt hel)).trans hT
    have okT : ObjOk X.prog X.w (upd H s.heap.objs.size (.tup [.int (i : Nat), x])) h'' s.heap.objs.size (.tup [.int (i : Nat), x]) := by
      refine ⟨?_, [.int i tk, y], .cons ⟨_, rfl⟩ (.cons ru .nil), ⟨_, newT, rfl, _, rfl⟩⟩
      show 2 ≤ sizeLine
      decide
    have I1 : Inv X pins σ (upd H s.heap.objs.size (.tup [.int (i : Nat), x])) { s with heap := h'', toks := tk + 1 } :=
      I.turnedNew (ch := [e, it]) (fun b ob hb q => (sb.2 b (fun z => hb (by simp [z]))).trans (hk b ob (fun z => hb (by simp [z])) (fun z => hb (by simp [z])) q)) hf (Nat.le_refl _) okT
    refine ⟨.ref s.heap.objs.size, _, I1, rfl, ⟨_, x, rfl, I.hok.fresh (Nat.le_refl _), rfl, fun ys hy2 => ?_⟩, ⟨⟨y, ?_⟩, hit'.at fun o q => (sb.2 it (Ne.symm ne)).trans q, ne⟩, fun b hb => ?_⟩
    · rw [I.tuple_inj hy2 hq]
      exact hx
    · have e1 : ((i + 1 : Nat) : Int) = (i : Int) + 1 := by omega
      rw [e1]
      exact he'
    · have two : b = e ∨ b = it := by simpa using hb
      have lt : b < s.heap.objs.size := by rcases two with z | z <;> (rw [z]; assumption)
      rw [upd_ne (Nat.ne_of_lt lt)]
      exact (hf b hb).1
  · rintro X rfl rfl rfl hc i pins s σ H E I hf ⟨⟨old, he⟩, hit, ne⟩ ⟨xs, hq, hx⟩
    obtain ⟨its, rv, p, hz⟩ := I.tuple hq
    have hpT : s.heap.IsTuple a its.toArray := p
    obtain ⟨f0, f1, f2, f3, f4, f5⟩ := hf it (by simp)
    have hl := rv.length
    have hT : s.TypeIs (.ref e) "enumerate" := ⟨_, he, rfl⟩
    unfold pyNext
    refine wpAny_bind (wpAny_attempt (wpAny_callSpecial?_slot (name := Str.ofString "__next__") hT F.slot_enumerate_next (wpAny_call_entry F.slot_enumerate_next hT F.entry_enumerate_next ?_ (F.args_enumerate_next_1 _))))
    show wpAny _ _ (field (.ref e) 2 >>= _) _ _ _
    refine wpAny_bind (wpAny_field he rfl (x := .ref it) rfl (wpAny_bind (wpAny_nextOf_tuple_end (I.ok.hd hc) hit hpT (by simp; omega) fun h' x ext hx' => ?_)))
    obtain ⟨o, ho, hc'⟩ := hx'
    exact wpAny_bind (wpAny_isInstance (T := "StopIteration") (b := true) ⟨o, ho, hc'⟩ isSubtype_stop (wpAny_pure ⟨rfl, I.turned (t' := s.toks) (fun b o hb q => ext b o hb q) f0 f1 f3 f4 f5⟩))
  · rintro A i s Q E ⟨⟨_, he⟩, _⟩ h
    exact wpAny_pyIter_enum he h
def iEnT (K : PySem.W.Frag) (ta : TA) : TI := fun σ H R => ta σ H fun vs H1 => ∃ a xs, vs = [.ref a] ∧ SqT K H1 a xs ∧ R (ItT K a) H1
theorem pi_enT {X : Cx} {e : Expr} {ta : TA} {p pos tpos : Pos} {elts : List Expr} {kk : Nat} (hg : Gl X "enumerate") (hm : X.mg "enumerate" = none) (ha : PA X [e] ta) (hs : starEach [e] X.env = [(false, eval e X.env)] := by rfl) :
    PI X (.Tuple elts kk tpos) (.Call (.Name "enumerate" p) [e] [] pos) (iEnT X.K ta) := by
  constructor
  intro pins s σ H R I h
  refine Call_ (ld_blt I hg hm boot_enumerate (PyProof.Rows.callWith_type1 (thn (ha.run pos pins s σ H _ I h) ?_) hs rfl))
  rintro us s1 ⟨vs, H1, I1, r1, a, xs, rfl, hq, q⟩
  cases r1 with
  | cons r rr =>
    cases rr
    cases r
    obtain ⟨its, rv, p', hz⟩ := I1.tuple hq
    refine call_enumT (show s1.heap.IsTuple a its.toArray from p') fun h' he hit hk => wpAny_pyIter_enum he ?_
    have I2 : Inv X pins σ H1 { s1 with heap := h' } := I1.kept (t' := s1.toks) hk
    refine ⟨s1.heap.objs.size + 1, [s1.heap.objs.size + 1, s1.heap.objs.size], _, _, H1, rfl, I2, turn_T a _ _, ⟨⟨.none, he⟩, hit, Nat.succ_ne_self _⟩, fun b hb => ?_, q⟩
    have two : b = s1.heap.objs.size + 1 ∨ b = s1.heap.objs.size := by simpa using hb
    have le : s1.heap.objs.size ≤ b := by
      rcases two with z | z
      · rw [z]
        exact Nat.le_add_right _ _
      · rw [z]
        exact Nat.le_refl _
    exact I1.fpOk le (I1.hok.fresh le)
theorem walk_enT {K : PySem.W.Frag} {a : Addr} {xs : List V} : Walk (ItT K a) xs.length (fun H => SqT K H a xs) (YPair (fun i => some (.int (i : Nat))) (fun i => xs[i]?)) := by
  constructor
  · exact fun i _ hi q => ⟨xs, xs[i], q, by simp [hi]⟩
  · exact fun _ q => ⟨xs, q, Nat.le_refl _⟩
  · rintro i H v H' _ q ⟨T, x, h1, h2, h3, h4⟩
    exact ⟨T, .int (i : Nat), x, h1, h2, h3, rfl, h4 xs q⟩
theorem goes_enT {K : PySem.W.Frag} {B : List Addr} {H : Hp} {a : Addr} {xs : List V} {ds : List PD} (r : RdT K B H a xs) (g : DvAll K B H xs ds) : Goes K B (ItT K a) (pairsD ds) H := by
  refine ⟨fun B H => RdT K B H a xs ∧ DvAll K B H xs ds, ⟨r, g⟩, fun B H p h f => ⟨h.1.grow f, h.2.grow f⟩, fun B H H' h k => ⟨h.1.keep k, h.2.keep k⟩, fun B => ?_⟩
  rw [show (pairsD ds).length = xs.length by rw [g.length]; simp [pairsD]]
  exact walk_enT.mono (fun H h => h.1.sq) fun i H x H' hi h y kn => by
    obtain ⟨T, y1, y2, rfl, nT, rfl, e1, e2⟩ := y
    cases e1
    obtain ⟨d, e3, hd⟩ := h.2.vget e2
    have sm := same_new (o := .tup [.int (i : Nat), y2]) nT
    refine ⟨sm, .tuple [.int (i : Nat), d], by simp [pairsD, e3], .tup (.inl ⟨fun z => kn _ z nT, .inl upd_same⟩) (.cons (.int _) (.cons (hd.keep (.same sm)) .nil))⟩
theorem i_enT {X : Cx} {C : Ct} {L : Ls} {δ : Dl} {n m : Nat} {e : Expr} {pos p : Pos} {ds : List PD} {elts : List Expr} {kk : Nat} {tpos : Pos} (hm : X.mg "enumerate" = none) (h : Ed X C L δ e n m (.tuple ds)) (hg : Gl X "enumerate" := by rfl) (hs : starEach [e] X.env = [(false, eval e X.env)] := by rfl) (hs2 : starEach [e] X.env = (false, eval e X.env) :: starEach [] X.env := by rfl) :
    Wi X C L δ (.Tuple elts kk tpos) (.Call (.Name "enumerate" p) [e] [] pos) n m (pairsD ds) := PI.imp (pi_enT hg hm (a_cons h a_nil hs2) hs) fun σ H R ⟨t, q⟩ => ⟨t, fun vs H2 svs k1 h1 e1 s1 => by
  subst e1
  obtain ⟨v, rfl, g⟩ := DvAll.one s1
  cases g with
  | tup r g => exact ⟨_, _, rfl, r.sq, q _ H2 k1 h1 (goes_enT r g)⟩⟩
end Wk
namespace Wk
open PySem PySem.Spec PyProof.Rows L2
section
variable {X : Cx} {F : Fm} {L : Ls} {δ : Dl} {n m k l : Nat} {D0 : Ends} {rest : List Stmt}
theorem r_ps {st : Stmt} {R : SV → Prop} {k : Nat} (h : PS X st (tAsg (tOf X.K F.C L δ n m R) (gName k))) (g : ∀ sv, R sv → Bk X F ⟨L, δ.set k (some sv), m⟩ D0 rest) : Bk X F ⟨L, δ, n⟩ D0 (st :: rest) :=
  r_cons (fun c' => ∃ sv, R sv ∧ c' = ⟨L, δ.set k (some sv), m⟩) (PS.imp h fun D σ H ⟨le, i⟩ => ⟨i.at_, fun v H2 sv k1 h1 r1 s1 => by
    have i2 := i.go k1 h1
    exact le.nx _ _ ⟨_, ⟨sv, r1, rfl⟩, i2.an, i2.fr, i2.at_.sl.set s1, h1⟩⟩) fun c' ⟨sv, r, ec⟩ => by
    subst ec
    exact g sv r
/-- y = [f x for x in ..], over l.map g -/
theorem r_lcM {α : Type} {elt iter : Expr} {scope : Scope} {x y : Str} {i : Nat} {pos tp py spos : Pos} {l : List α} {g : α → PD} (k : Nat) (f : α → PD) (hc : X.calm = true) (hN : X.N.Nodup) (hi : Wi X F.C L δ (.Name x tp) iter n m (l.map g)) (ok : BlkOk X.N X.env.scope scope [(x, i)])
    (hg : ∀ (s : Shared) (H : Hp) (Cc : Addr) (cl : List (Str × Addr)) (fp : List Addr), PG (X.blk s H scope (compEnvC scope cl Cc X.env) fp) (.Name x tp) (gT X.K F.C (.name i)))
    (he : ∀ (s : Shared) (H : Hp) (Cc : Addr) (cl : List (Str × Addr)) (fp : List Addr) (D : Addr) (acc : List PD) (a : α), a ∈ l →
      PE (X.blk s H scope (compEnvC scope cl Cc X.env) fp) elt (tOf X.K F.C ((D, acc) :: L) ((δ.set i none).set i (some (.d (g a)))) m m (Eq (SV.d (f a)))))
    (hz : l.length ≤ 100000) (g' : Bk X F ⟨L, δ.set k (some (.d (.list (l.map f)))), m⟩ D0 rest) (hy : X.N[k]? = some y := by rfl) (hyl : X.env.scope.names.lookup y = some .local := by rfl)
    (hsw : swapsWith (.ListComp elt [⟨.Name x tp, iter, [], 0⟩] scope pos) (some (.Name y py)) spos.line X.env = pure true := by exact sw_true rfl rfl rfl (by decide +kernel)) (hs : ∀ x, foldedSetIterable iter X.env x = pure x := by intro _; rfl) :
    Bk X F ⟨L, δ, n⟩ D0 (.Assign [.Name y py] (.ListComp elt [⟨.Name x tp, iter, [], 0⟩] scope pos) spos :: rest) := by
  refine r_ps (p_lcNR k 0 (fun j d e => ∃ a, l[j]? = some a ∧ e = f a) hc hN hi ok hg (fun s H Cc cl fp D acc j d hd => ?_) (by rw [List.length_map]; exact hz) hy hyl hsw hs) fun sv ⟨es, e1, e2, e3⟩ => ?_
  · rw [List.getElem?_map] at hd
    cases h3 : l[j]? with
    | none =>
      rw [h3] at hd
      cases hd
    | some a =>
      rw [h3] at hd
      cases hd
      exact PE.imp (he s H Cc cl fp D acc a (List.mem_of_getElem? h3)) fun σ H1 Q ⟨t, q⟩ => ⟨t, fun v H2 sv k h r s => q v H2 sv k h ⟨f a, r.symm, a, rfl, rfl⟩ s⟩
  · subst e1
    rw [map_ext e2 e3]
    exact g'
end
/-! ### what is written out has room -/
mutual
def Pl : PD → Prop
  | .none => True
  | .bool _ => True
  | .int i => i.natAbs.log2 < 1000
  | .str _ => False
  | .list ds => PlAll ds
  | .tuple ds => PlAll ds
  | .dict _ => False
def PlAll : List PD → Prop
  | [] => True
  | d :: ds => Pl d ∧ PlAll ds
end
mutual
theorem Pl.all : ∀ d : PD, Pl d → PyData.showable d = true ∧ PyData.hasDict d = false ∧ PyData.leavesShort 1001 d = true
  | .none, _ => ⟨rfl, rfl, rfl⟩
  | .bool _, _ => ⟨rfl, rfl, rfl⟩
  | .int i, h => by
    have h1 : i.natAbs.log2 < 1000 := h
    refine ⟨?_, rfl, ?_⟩
    · simp only [PyData.showable]
      exact decide_eq_true (by omega)
    · simp only [PyData.leavesShort, PyData.shown]
      exact decide_eq_true (by rw [PySem.ofString_length]; exact int_text_length_le (by decide) h1)
  | .str _, h => False.elim h
  | .list ds, h => by
    obtain ⟨a, b, c⟩ := PlAll.all ds h
    exact ⟨by simp only [PyData.showable]; exact a, by simp only [PyData.hasDict]; exact b, by simp only [PyData.leavesShort]; exact c⟩
  | .tuple ds, h => by
    obtain ⟨a, b, c⟩ := PlAll.all ds h
    exact ⟨by simp only [PyData.showable]; exact a, by simp only [PyData.hasDict]; exact b, by simp only [PyData.leavesShort]; exact c⟩
  | .dict _, h => False.elim h
theorem PlAll.all : ∀ ds : List PD, PlAll ds → PyData.showableAll ds = true ∧ PyData.hasDictAll ds = false ∧ PyData.leavesShortAll 1001 ds = true
  | [], _ => ⟨rfl, rfl, rfl⟩
  | d :: ds, h => by
    obtain ⟨a, b, c⟩ := Pl.all d h.1
    obtain ⟨a', b', c'⟩ := PlAll.all ds h.2
    refine ⟨?_, ?_, ?_⟩
    · simp only [PyData.showableAll, a, a', Bool.and_self]
    · simp only [PyData.hasDictAll, b, b', Bool.or_self]
    · simp only [PyData.leavesShortAll, c, c', Bool.and_self]
end
theorem showy {d : PD} (h : Pl d) (hb : d.bulk ≤ 10000) (hd : d.depth ≤ 62) : Showy d := by
  obtain ⟨a, b, c⟩ := Pl.all d h
  refine ⟨a, b, ?_, hd⟩
  have := PyData.shown_le_bulk 1001 (by decide) d c
  rw [sizeLine_eq]
  omega
theorem PlAll.of : ∀ {ds : List PD}, (∀ d ∈ ds, Pl d) → PlAll ds
  | [], _ => trivial
  | d :: ds, h => ⟨h d List.mem_cons_self, PlAll.of fun e he => h e (List.mem_cons_of_mem _ he)⟩
theorem log_small {i : Int} (h : i.natAbs < 2 ^ 900) : i.natAbs.log2 < 1000 := Nat.lt_trans (PySem.Flt.log2_lt_of (by decide) h) (by decide)
theorem ints_bulk : ∀ ns : List Int, PyData.bulkAll (ns.map PyData.int) = ns.length
  | [] => rfl
  | n :: ns => by
    show 0 + 1 + PyData.bulkAll (ns.map PyData.int) = ns.length + 1
    rw [ints_bulk ns]
    omega
theorem ints_depth : ∀ ns : List Int, PyData.depthAll (ns.map PyData.int) = 0
  | [] => rfl
  | n :: ns => by
    show max 0 (PyData.depthAll (ns.map PyData.int)) = 0
    rw [ints_depth ns]
    rfl
theorem showy_list {ns : List Int} (h : ∀ n ∈ ns, n.natAbs < 2 ^ 900) (hz : ns.length ≤ 1000) : Showy (.list (ns.map PyData.int)) := by
  refine showy (PlAll.of fun d hd => ?_) ?_ ?_
  · obtain ⟨n, hn, rfl⟩ := List.mem_map.mp hd
    exact log_small (h n hn)
  · show PyData.bulkAll (ns.map PyData.int) ≤ _
    rw [ints_bulk]
    omega
  · show PyData.depthAll (ns.map PyData.int) + 1 ≤ _
    rw [ints_depth]
    decide
theorem showy_tup {ns : List Int} (h : ∀ n ∈ ns, n.natAbs < 2 ^ 900) (hz : ns.length ≤ 1000) : Showy (.tuple (ns.map PyData.int)) := by
  refine showy (PlAll.of fun d hd => ?_) ?_ ?_
  · obtain ⟨n, hn, rfl⟩ := List.mem_map.mp hd
    exact log_small (h n hn)
  · show PyData.bulkAll (ns.map PyData.int) ≤ _
    rw [ints_bulk]
    omega
  · show PyData.depthAll (ns.map PyData.int) + 1 ≤ _
    rw [ints_depth]
    decide
theorem showy_int {i : Int} (h : i.natAbs < 2 ^ 900) : Showy (.int i) := showy (log_small h) (Nat.zero_le _) (Nat.zero_le _)
end Wk
/-! the law's own def, entered from outside (no repr under way) -/
namespace Wk
open PySem PySem.Spec PyProof.Rows L2
def Good (t s' : Shared) (r : Result) : Prop := r = .ok (.ret (.bool true)) ∧ PySem.OldK t.heap s'.heap ∧ s'.os = t.os ∧ AllBare s'.gens
section
variable {P : Program} {w : World} {K : PySem.W.Frag} {mg bn : Str → Option Value} {k : Nat} {g p : Addr} {fd : FuncData} {y : Str} {t : Shared} {us : List Value} {is : List Int} {ok : List PD → SV → Prop} {H : Hp}
theorem enter_at (inK : K.In t.heap) (top : t.heap.Ns mainGlobals mg) (bi : t.heap.Ns builtinsNs bn) (boot : ∀ z : Str, z ≠ "__name__" → bn z = bootBuiltins z) (free : t.heap.NoLimit) (still : t.gens = #[])
    (got : t.heap.get? p = some { cls := .type "list", data := .seq us.toArray }) (room : Room k callerA)
    (G : ∀ under : Heap, K.In under → under.Ns mainGlobals mg → Gd P w K mg under CX0 k g fd [y] (SpP K ok)) (bd : ∀ (s : Shared) (u : Value), BindsTo s fd ⟨[u], []⟩ [(y, u)]) (good : ok [.list (is.map PyData.int)] (.d (.bool true)))
    (frozen : Only H) (seen : SqL K H p (is.map V.int)) (fits : HOk P w H t.heap) (lone : ∀ b, H b ≠ none → b = p) (apart : H p ≠ none → K.lookup p = none) :
    codeAny (model P w) callerA (.call (.ref g) ⟨[.ref p], []⟩) (fun r s' => Good t s' r) t := by
  have free_of : ∀ {b : Addr}, b ≠ p → H b = none := fun {b} n => by
    cases q : H b with
    | none => rfl
    | some u => exact absurd (lone b (by rw [q]; simp)) n
  have ns_of : ∀ {b : Addr} {f : Str → Option Value}, t.heap.Ns b f → (hidT t.heap H).Ns b f := fun {b f} ⟨o, es, ep, e, d, r⟩ => by
    have n : b ≠ p := fun z => by
      rw [z, got] at e
      cases e
      cases (show Data.seq us.toArray _ = Data.dict es ep from d)
    exact ⟨o, es, ep, hidT_get e (free_of n), d, r⟩
  have kin_of : K.In (hidT t.heap H) := fun b o e => hidT_get (inK b o e) (by
    by_cases n : b = p
    · subst n
      cases q : H b with
      | none => rfl
      | some u =>
        rw [apart (by rw [q]; simp)] at e
        cases e
    · exact free_of n)
  obtain ⟨lim, l1, l2⟩ := free
  have M : Mod K mg (hidT t.heap H) := { kin := kin_of, glob := ns_of top, blt := ⟨bn, ns_of bi, boot⟩, nolimit := ⟨lim, ns_of l1, l2⟩ }
  have V0 : Env0 P w K mg (hidT t.heap H) callerA [] t H :=
    { frames := rfl, mod := M, bs := fun b o e => of_hidT e, bsz := Nat.le_of_eq (hidT_size _ _), funs := trivial, frf := fun b z => (List.not_mem_nil z).elim, hok := fits, bare := .of_eq still }
  have want : SpP K ok [.ref p] H (fun v _ => v = .bl true) (fun _ _ _ => False) := by
    refine ⟨[], _, _, fun b z => (List.not_mem_nil z).elim, .cons (.lst ?_ (DvAll.of_ints is)) .nil, good, fun v H' _ z => ?_⟩
    · rcases seen with z | z
      · exact .inl ⟨List.not_mem_nil, z⟩
      · exact .inr (.inr z)
    · cases (show Dv K [] H' v (.bool true) from z)
      rfl
  have run := (G _ kin_of (ns_of top)).run callerA rfl [] t H ⟨[.ref p], []⟩ [.ref p] [.ref p] _ _ room V0 (bd t (.ref p)) (.cons rfl .nil) want
  refine codeAny_mono run fun r s' h => ?_
  match r, h with
  | .ok (.ret u), ⟨v, H', os, bare, un, fits', rv, q⟩ =>
    cases (show v = .bl true from q)
    cases (show u = Value.bool true from rv)
    refine ⟨rfl, PySem.OldK.of_keep fun b o e => ?_, os, bare⟩
    cases q : H b with
    | none => exact un.keep b o e q (fun z => (List.not_mem_nil z).elim) List.not_mem_nil
    | some u =>
      obtain ⟨ob, xs, z⟩ := (frozen b).resolve_left (by rw [q]; simp)
      have x1 := (fits b _ z).1
      have x2 := (fits' b _ (un.frzs b ob _ z)).1
      rw [x1] at e
      cases e
      exact x2
/-- the same, whatever the script is -/
theorem enter_law (inK : K.In t.heap) (top : t.heap.Ns mainGlobals mg) (bi : t.heap.Ns builtinsNs bn) (boot : ∀ z : Str, z ≠ "__name__" → bn z = bootBuiltins z) (free : t.heap.NoLimit) (still : t.gens = #[])
    (got : t.heap.get? p = some { cls := .type "list", data := .seq us.toArray }) (nums : IntsAre us is) (small : is.length ≤ sizeLine) (room : Room k callerA)
    (G : ∀ under : Heap, K.In under → under.Ns mainGlobals mg → Gd P w K mg under CX0 k g fd [y] (SpP K ok)) (bd : ∀ (s : Shared) (u : Value), BindsTo s fd ⟨[u], []⟩ [(y, u)]) (good : ok [.list (is.map PyData.int)] (.d (.bool true))) :
    codeAny (model P w) callerA (.call (.ref g) ⟨[.ref p], []⟩) (fun r s' => Good t s' r) t := by
  have vals := vals_ints nums
  have long := nums.length
  cases q : K.lookup p with
  | some o =>
    have e := inK p o q
    rw [got] at e
    cases e
    exact enter_at (H := fun _ => none) inK top bi boot free still got room G bd good (fun _ => .inl rfl) (.inr ⟨_, us.toArray, _, q, rfl, rfl, rfl, by rw [List.size_toArray, long]; exact small, by simpa using vals⟩) (fun b u z => nomatch (show (none : Option HO) = some u from z)) (fun b z => (z rfl).elim) fun z => (z rfl).elim
  | none =>
    let O : HO := .frz { cls := .type "list", data := .seq us.toArray } (.lst (is.map V.int))
    have here : (fun b => if b = p then some O else none : Hp) p = some O := if_pos rfl
    have away : ∀ b, b ≠ p → (fun b => if b = p then some O else none : Hp) b = none := fun b n => if_neg n
    refine enter_at (H := fun b => if b = p then some O else none) inK top bi boot free still got room G bd good (fun b => ?_) (.inl (.inr ⟨_, here⟩)) (fun b u z => ?_) (fun b z => ?_) fun _ => q
    · by_cases n : b = p
      · exact .inr ⟨_, _, by rw [n]; exact here⟩
      · exact .inl (away b n)
    · by_cases n : b = p
      · subst n
        rw [here] at z
        cases z
        exact ⟨got, by rw [List.length_map]; exact small, us, _, vals, got⟩
      · rw [away b n] at z
        cases z
    · by_cases n : b = p
      · exact n
      · exact (z (away b n)).elim
end
/-- the end of a row whose law's def is told by SpP -/
theorem row_end {l : PySem.W.OpenLaw} {n k : Nat} {q : Program} {loose : List Str} {XP : (Str → Option Value) → Heap → Prop} {YP : World → Heap → Prop} {d : DefRec} {K : PySem.Params → PySem.W.Frag} {y : Str} {ok : List PD → SV → Prop}
    (most : l.most = some n) (few : n ≤ sizeLine) (plain : d.params.defaults = []) (room : Room k callerA) (know : ∀ (w : World) (h : Heap), YP w h → (K w.params).In h)
    (facts : ∀ (w : World) (mg : Str → Option Value) (g : Addr) (h : Heap), (K w.params).In h → h.Ns mainGlobals mg → mg d.name = some (.ref g) →
      ∃ fd : FuncData, (∀ (s : Shared) (u : Value), BindsTo s fd ⟨[u], []⟩ [(y, u)]) ∧ ∀ under : Heap, (K w.params).In under → under.Ns mainGlobals mg → Gd l.prog w (K w.params) mg under CX0 k g fd [y] (SpP (K w.params) ok))
    (good : ∀ is : List Int, ok [.list (is.map PyData.int)] (.d (.bool true))) : PySem.W.WalkO q loose XP YP l.row.toRowW d [] (fun f vs => PySem.call f vs) :=
  Att.attach_call most plain fun w _ t mg mb g o pm cd doc p us is G Y _ _ _ named got nums len still => by
    have inK := know w _ Y
    obtain ⟨fd, bd, promise⟩ := facts w mg g _ inK G.T.g named
    exact enter_law inK G.T.g G.T.b G.T.builtins G.T.nolimit still got nums (Nat.le_trans len few) room promise bd (good is)
end Wk
/-! what the written part of the heap says of a row's top -/
namespace Wk
open PySem PySem.Spec PyProof.Rows L2
section
variable {K : PySem.W.Frag} {h : Heap} {mg : Str → Option Value}
/-- a def of the text stands there under its name -/
structure Std (K : PySem.W.Frag) (x : Str) (st : Stmt) : Prop where
  ex : ∃ f fd, PySem.W.nsIn K mainGlobals x = some (some (.ref f)) ∧ Fun K x x st f fd
theorem Std.mk' {x : Str} {st : Stmt} {f : Addr} {oc : Value} {od an : Option Addr} {osl : Array (Option Value)} {kV doc pm cdv ct : Value} (a : PySem.W.nsIn K mainGlobals x = some (some (.ref f)))
    (l : K.lookup f = some ⟨oc, od, .func (PySem.W.fnOf x x (defArgs st) (defBody st) (defScope st) .none kV doc pm an cdv ct), osl⟩) (c : PySem.W.codeIn K cdv x = true) (k : PySem.W.keepIn K (.ref f) = true) : Std K x st :=
  ⟨f, _, a, fun_mk l c k⟩
/-- so it is known, if it does what is said -/
theorem Std.know {P : Program} {w : World} {base : Heap} {Z : CXT} {k : Nat} {x : Str} {st : Stmt} {ps : List Str} {sp : Sp} (X : K.In h) (G : h.Ns mainGlobals mg) (D : Std K x st)
    (b : ∀ (kV doc pm : Value) (an : Option Addr) (cdv ct : Value) (us : List Value), us.length = ps.length → bindArgs (PySem.W.fnOf x x (defArgs st) (defBody st) (defScope st) .none kV doc pm an cdv ct) ⟨us, []⟩ = pure (ps.zip us))
    (g : ∀ {f : Addr} {fd : FuncData}, Fun K x x st f fd → Gd P w K mg base Z k f fd ps sp) : Knw P w K mg base Z k x ps sp := by
  obtain ⟨f, fd, a, F⟩ := D.ex
  exact knw (PySem.W.mg_of X G a) F (F.binds b) (g F)
/-- names that the top does not set -/
def NoN (K : PySem.W.Frag) (x : Str) : Prop := PySem.W.nsIn K mainGlobals x = some none
theorem bt_of (X : K.In h) (G : h.Ns mainGlobals mg) (h1 : NoN K "len") (h2 : NoN K "abs") (h3 : NoN K "int") (h4 : NoN K "sum") (h5 : NoN K "tuple") (h6 : NoN K "list") (h7 : NoN K "range") (h8 : NoN K "enumerate") (h9 : NoN K "all") (h10 : NoN K "isinstance") (h11 : NoN K "repr") (h12 : NoN K "max") (h13 : NoN K "min") (h14 : NoN K "str") (h15 : NoN K "bool") (h16 : NoN K "dict") : Bt mg :=
  ⟨PySem.W.mg_none_of X G h1, PySem.W.mg_none_of X G h2, PySem.W.mg_none_of X G h3, PySem.W.mg_none_of X G h4, PySem.W.mg_none_of X G h5, PySem.W.mg_none_of X G h6, PySem.W.mg_none_of X G h7, PySem.W.mg_none_of X G h8, PySem.W.mg_none_of X G h9, PySem.W.mg_none_of X G h10, PySem.W.mg_none_of X G h11, PySem.W.mg_none_of X G h12, PySem.W.mg_none_of X G h13, PySem.W.mg_none_of X G h14, PySem.W.mg_none_of X G h15, PySem.W.mg_none_of X G h16⟩
/-! tuples of the text -/
def optAll {α : Type} : List (Option α) → Option (List α)
  | [] => some []
  | some a :: r => (optAll r).map (a :: ·)
  | none :: _ => none
def rdV (K : PySem.W.Frag) : Nat → Value → Option PD
  | _, .none => some .none
  | _, .bool b => some (.bool b)
  | _, .int i _ => some (.int i)
  | n + 1, .ref a => match K.lookup a with
    | some ⟨.type t, none, .seq its _, _⟩ => if t = "tuple" ∧ its.size ≤ 1000 then (optAll (its.toList.map (rdV K n))).map PyData.tuple else none
    | _ => none
  | _, _ => none
theorem optAll_len {α β : Type} {f : α → Option β} : ∀ {l : List α} {r : List β}, optAll (l.map f) = some r → ∀ {S : α → β → Prop}, (∀ a b, f a = some b → S a b) → Paired S l r
  | [], r, h, S, _ => by
    cases h
    exact .nil
  | a :: l, r, h, S, g => by
    rw [List.map_cons] at h
    cases q : f a with
    | none =>
      rw [q] at h
      cases h
    | some b =>
      rw [q] at h
      obtain ⟨r', h1, h2⟩ := Option.map_eq_some_iff.mp h
      subst h2
      exact .cons (g a b q) (optAll_len h1 g)
theorem rd_ok : ∀ (n : Nat) (v : Value) (d : PD), rdV K n v = some d → ∃ x : V, RelV x v ∧ ∀ B H, Dv K B H x d
  | 0, v, d, h => by
    cases v with
    | none => cases h; exact ⟨.non, rfl, fun _ _ => .non⟩
    | bool b => cases h; exact ⟨.bl b, rfl, fun _ _ => .bl b⟩
    | int i t => cases h; exact ⟨.int i, ⟨t, rfl⟩, fun _ _ => .int i⟩
    | _ => cases h
  | n + 1, v, d, h => by
    cases v with
    | none => cases h; exact ⟨.non, rfl, fun _ _ => .non⟩
    | bool b => cases h; exact ⟨.bl b, rfl, fun _ _ => .bl b⟩
    | int i t => cases h; exact ⟨.int i, ⟨t, rfl⟩, fun _ _ => .int i⟩
    | ref a =>
      unfold rdV at h
      split at h
      · rename_i t its c osl q
        split at h
        · rename_i hc
          obtain ⟨rfl, hz⟩ := hc
          obtain ⟨ds, h1, rfl⟩ := Option.map_eq_some_iff.mp h
          have f2 := optAll_len h1 (S := fun v d => ∃ x : V, RelV x v ∧ ∀ B H, Dv K B H x d) fun v d hv => rd_ok n v d hv
          have key : ∃ xs : List V, Vals xs its.toList ∧ ∀ B H, DvAll K B H xs ds := by
            clear h1 q hz h
            generalize its.toList = l at f2
            induction f2 with
            | nil => exact ⟨[], .nil, fun _ _ => .nil⟩
            | cons s _ ih =>
              obtain ⟨x, rx, dx⟩ := s
              obtain ⟨xs, rxs, dxs⟩ := ih
              exact ⟨x :: xs, .cons rx rxs, fun B H => .cons (dx B H) (dxs B H)⟩
          obtain ⟨xs, rx, dx⟩ := key
          exact ⟨.ref a, rfl, fun B H => .tup (.inr (.inr ⟨_, its, _, q, rfl, rfl, Nat.le_trans hz (by decide), rx⟩)) (dx B H)⟩
        · cases h
      · cases h
    | _ => cases h
theorem kt_of {n : Nat} {a : Addr} {ds : List PD} (h : rdV K n (.ref a) = some (.tuple ds)) : KT K a ds := by
  obtain ⟨x, rx, dx⟩ := rd_ok n _ _ h
  have e : x = .ref a := by
    cases x with
    | ref b =>
      have e : Value.ref a = Value.ref b := rx
      cases e
      rfl
    | _ => first | (cases (show _ = _ from rx)) | (obtain ⟨_, q⟩ := (show ∃ _, _ from rx); cases q)
  subst e
  cases n with
  | zero => cases h
  | succ n =>
    refine ⟨?_, dx⟩
    unfold rdV at h
    split at h
    · rename_i t its c osl q
      split at h
      · rename_i hc
        exact ⟨_, q, by rw [hc.1], rfl⟩
      · cases h
    · cases h
end
end Wk
namespace Mo
open PySem PySem.Spec PyProof.Rows L2 Wk
def topS (i : Nat) : Stmt := PySem.Challenge.pw_selfdrawn_k02_whole_motions_one_behind_a.main.body.getD i (.Pass ⟨0, 0, 0, 0⟩)
section
variable {P : Program} {w : World} {K : PySem.W.Frag} {mg : Str → Option Value} {base : Heap} {f : Addr} {fd : FuncData}
/-! ### what the checks say -/
def whole : PD → Bool
  | .int _ => true
  | _ => false
theorem whole_eq (d : PD) : (isI d && !isB d) = whole d := by cases d <;> rfl
theorem sc2 : FnScope ["value"] ["value"] (defScope (topS 2)) := ⟨rfl, rfl, rfl, by decide +kernel, rfl, by decide +kernel, by decide +kernel⟩
def okWhole : List PD → SV → Prop := fun ds sv => ∃ d, ds = [d] ∧ sv = .d (.bool (whole d))
theorem is_whole (z : Bt mg) (F : Fun K "is_whole" "is_whole" (topS 2) f fd) : Gd P w K mg base CX0 1 f fd ["value"] (SpP K okWhole) := by
  refine okP F sc2 (fun ds sv ⟨d, e, _⟩ => by rw [e]; rfl) fun cdv A outer s H E B ds sv fm D0 ⟨d, e1, e2⟩ gu hr hC hw hn => ?_
  subst e1 e2
  refine r_ret hw (e_eq (e_and (e_isInt z (e_var 0)) fun _ => e_one (e_not (e_isBool z (e_var 0)))) (congrArg PyData.bool (whole_eq d))) fun sv h => h.symm
/-! is_whole_in -/
def wholeIn (d : PD) (a b : Int) : Bool := match d with
  | .int i => decide (a ≤ i) && decide (i ≤ b)
  | _ => false
theorem sc3 : FnScope ["value", "least", "most"] ["value", "least", "most"] (defScope (topS 3)) := ⟨rfl, rfl, rfl, by decide +kernel, rfl, by decide +kernel, by decide +kernel⟩
def okWholeIn : List PD → SV → Prop := fun ds sv => ∃ d a b, ds = [d, .int a, .int b] ∧ sv = .d (.bool (wholeIn d a b))
theorem is_whole_in (z : Bt mg) (h1 : Knw P w K mg base CX0 1 "is_whole" ["value"] (SpP K okWhole)) (F : Fun K "is_whole_in" "is_whole_in" (topS 3) f fd) : Gd P w K mg base CX0 2 f fd ["value", "least", "most"] (SpP K okWholeIn) := by
  refine okP F sc3 (fun ds sv ⟨d, a, b, e, _⟩ => by rw [e]; rfl) fun cdv A outer s H E B ds sv fm D0 ⟨d, a, b, e1, e2⟩ gu hr hC hw hn => ?_
  subst e1 e2
  cases d with
  | int i => 
    refine r_retD hw (e_and (e_callP h1 gu hr (by decide) (a_cons (e_var 0) a_nil) ⟨_, rfl, rfl⟩) fun _ => e_one (e_chain op_le op_le (v_I0 fun _ _ => .bl _) (v_I0 fun _ _ => .bl _) (e_var 1) (e_var 0) fun _ => e_var 2)) ?_
    rfl
  | _ => 
    refine r_retD hw (e_and (v := false) (e_callP h1 gu hr (by decide) (a_cons (e_var 0) a_nil) ⟨_, rfl, rfl⟩) (fun h => ?_)) ?_
    · cases h
    · rfl
end
end Mo
namespace Mo
open PySem PySem.Spec PyProof.Rows L2 Wk
section
variable {P : Program} {w : World} {K : PySem.W.Frag} {mg : Str → Option Value} {base : Heap} {f : Addr} {fd : FuncData}
/-! is_fraction -/
def isFr : PD → Bool
  | .tuple [.int t, .int l] => decide (1 ≤ l) && decide (((Nat.gcd t.natAbs l.natAbs : Nat) : Int) = 1)
  | _ => false
theorem sc4 : FnScope ["value", "top", "low"] ["value"] (defScope (topS 4)) := ⟨rfl, rfl, rfl, by decide +kernel, rfl, by decide +kernel, by decide +kernel⟩
def okFr : List PD → SV → Prop := fun ds sv => ∃ d, ds = [d] ∧ sv = .d (.bool (isFr d))
theorem isFr_no {d : PD} (h : isT d = false) : isFr d = false := by cases d <;> first | rfl | cases h
theorem isFr_len {ds : List PD} (h : ((ds.length : Nat) : Int) ≠ 2) : isFr (.tuple ds) = false := by
  match ds, h with
  | [], _ => rfl
  | [a], _ => cases a <;> rfl
  | [_, _], h => exact absurd rfl h
  | a :: b :: c :: r, _ => cases a <;> cases b <;> rfl
theorem isFr_pair (a b : PD) (h : whole a = false ∨ whole b = false) : isFr (.tuple [a, b]) = false := by
  cases a <;> cases b <;> first | rfl | (rcases h with h | h <;> cases h)
theorem is_fraction (z : Bt mg) (zg : mg "gcd" = some (.builtin "math.gcd")) (h1 : Knw P w K mg base CX0 1 "is_whole" ["value"] (SpP K okWhole)) (F : Fun K "is_fraction" "is_fraction" (topS 4) f fd) : Gd P w K mg base CX0 2 f fd ["value"] (SpP K okFr) := by
  refine okP F sc4 (fun ds sv ⟨d, e, _⟩ => by rw [e]; rfl) fun cdv A outer s H E B ds sv fm D0 ⟨d, e1, e2⟩ gu hr hC hw hn => ?_
  subst e1 e2
  cases hT : isT d with
  | false =>
    refine r_ifT (t_of (w_or (v := false) (t_not (t_val (e_isTup z (e_var 0)))) (fun h => ?_))) ?_ (r_retD hw e_bl ?_)
    · rw [hT] at h
      cases h
    · rw [hT]
      rfl
    · rw [isFr_no hT]
  | true =>
    cases d with
    | tuple ds =>
      by_cases hl : ((ds.length : Nat) : Int) = 2
      · match ds, hl with
        | [a, b], _ =>
          refine r_ifF (t_of (w_or (t_not (t_val (e_isTup z (e_var 0)))) (fun h => w_or1 (t_neI (e_lenT z.len (e_var 0)) e_int)))) rfl ?_
          refine r_tup (ts := [.name 1, .name 2]) rfl (g_tup rfl (gs_cons (g_name 1 sc4.nd) (gs_cons (g_name 2 sc4.nd) gs_nil))) (e_var 0) (fun sv e => ⟨.tuple [a, b], _, e.symm, rfl, ?_⟩)
          by_cases ha : whole a = true
          · by_cases hb : whole b = true
            · cases a <;> first | cases ha | skip
              cases b <;> first | cases hb | skip
              rename_i t l
              refine r_retD hw (e_and (e_callP h1 gu hr (by decide) (a_cons (e_var 1) a_nil) ⟨_, rfl, rfl⟩) fun _ => e_and (e_callP h1 gu hr (by decide) (a_cons (e_var 2) a_nil) ⟨_, rfl, rfl⟩) fun _ => e_and (e_ge (e_var 2) e_int) fun _ => e_one (e_eqI (e_gcd zg (e_var 1) (e_var 2)) e_int)) ?_
              rfl
            · refine r_retD hw (e_and (e_callP h1 gu hr (by decide) (a_cons (e_var 1) a_nil) ⟨_, rfl, rfl⟩) fun _ => e_and (v := false) (e_callP h1 gu hr (by decide) (a_cons (e_var 2) a_nil) ⟨_, rfl, rfl⟩) fun h => absurd h hb) ?_
              rw [isFr_pair a b (.inr (by simpa using hb)), Bool.and_false, Bool.and_false]
          · refine r_retD hw (e_and (v := false) (e_callP h1 gu hr (by decide) (a_cons (e_var 1) a_nil) ⟨_, rfl, rfl⟩) fun h => absurd h ha) ?_
            rw [isFr_pair a b (.inl (by simpa using ha)), Bool.and_false]
      · refine r_ifT (t_of (w_or (t_not (t_val (e_isTup z (e_var 0)))) (fun h => w_or1 (t_neI (e_lenT z.len (e_var 0)) e_int)))) ?_ (r_retD hw e_bl ?_)
        · rw [decide_eq_false hl]
          rfl
        · rw [isFr_len hl]
    | _ => cases hT
/-! is_fraction_in -/
def frIn (d : PD) (a b : Int) : Bool := match d with
  | .tuple [.int t, .int l] => isFr (.tuple [.int t, .int l]) && (decide (a * l ≤ t) && decide (t ≤ b * l))
  | _ => false
def lowOk (d : PD) : Prop := ∀ t l, d = .tuple [.int t, .int l] → l.natAbs.log2 < 900000
theorem fr_shape {d : PD} (h : isFr d = true) : ∃ t l, d = .tuple [.int t, .int l] := by
  unfold isFr at h
  split at h
  · exact ⟨_, _, rfl⟩
  · cases h
theorem frIn_no {d : PD} {a b : Int} (h : isFr d = false) : frIn d a b = false := by
  unfold frIn
  split
  · rw [h]
    rfl
  · rfl
theorem sc5 : FnScope ["value", "least", "most"] ["value", "least", "most"] (defScope (topS 5)) := ⟨rfl, rfl, rfl, by decide +kernel, rfl, by decide +kernel, by decide +kernel⟩
def okFrIn : List PD → SV → Prop := fun ds sv => ∃ d a b, ds = [d, .int a, .int b] ∧ lowOk d ∧ (a = 0 ∨ a = 1) ∧ (b = 0 ∨ b = 1) ∧ sv = .d (.bool (frIn d a b))
theorem mul01 {a l : Int} (h : a = 0 ∨ a = 1) (hl : l.natAbs.log2 < 900000) : CMulW a l := by
  unfold CMulW
  rcases h with rfl | rfl
  · show (0 : Nat).log2 + _ < _
    rw [show (0 : Nat).log2 = 0 by decide]
    omega
  · show (1 : Nat).log2 + _ < _
    rw [show (1 : Nat).log2 = 0 by decide]
    omega
theorem is_fraction_in (h1 : Knw P w K mg base CX0 2 "is_fraction" ["value"] (SpP K okFr)) (F : Fun K "is_fraction_in" "is_fraction_in" (topS 5) f fd) : Gd P w K mg base CX0 3 f fd ["value", "least", "most"] (SpP K okFrIn) := by
  refine okP F sc5 (fun ds sv ⟨d, a, b, e, _⟩ => by rw [e]; rfl) fun cdv A outer s H E B ds sv fm D0 ⟨d, a, b, e1, hlo, ha, hb, e2⟩ gu hr hC hw hn => ?_
  subst e1 e2
  by_cases hf : isFr d = true
  · obtain ⟨t, l, rfl⟩ := fr_shape hf
    have hl := hlo t l rfl
    refine r_retD hw (e_and (e_callP h1 gu hr (by decide) (a_cons (e_var 0) a_nil) ⟨_, rfl, rfl⟩) fun _ => e_one (e_chain op_le op_le (v_I0 fun _ _ => .bl _) (v_I0 fun _ _ => .bl _) (e_mul (mul01 ha hl) (e_var 1) (e_ixT (e_var 0) (e_int (i := 1)))) (e_ixT (e_var 0) (e_int (i := 0))) fun _ => e_mul (mul01 hb hl) (e_var 2) (e_ixT (e_var 0) (e_int (i := 1))))) ?_
    rfl
  · refine r_retD hw (e_and (v := false) (e_callP h1 gu hr (by decide) (a_cons (e_var 0) a_nil) ⟨_, rfl, rfl⟩) fun h => absurd h hf) ?_
    rw [frIn_no (by simpa using hf), Bool.and_false]
/-! is_point, is_cell -/
def isPt (d : PD) (s : Int) : Bool := match d with
  | .tuple ds => decide (((ds.length : Nat) : Int) = s) && ds.all fun p => frIn p 0 1
  | _ => false
def isCe (d : PD) (s z : Int) : Bool := match d with
  | .tuple ds => decide (((ds.length : Nat) : Int) = s) && ds.all fun p => wholeIn p 0 (z - 1)
  | _ => false
theorem sc6 : FnScope ["value", "sides", "part"] ["value", "sides"] (defScope (topS 6)) := ⟨rfl, rfl, rfl, by decide +kernel, rfl, by decide +kernel, by decide +kernel⟩
theorem sc7 : FnScope ["value", "sides", "size", "part"] ["value", "sides", "size"] (defScope (topS 7)) := ⟨rfl, rfl, rfl, by decide +kernel, rfl, by decide +kernel, by decide +kernel⟩
def okPt : List PD → SV → Prop := fun ds sv => ∃ d s, ds = [d, .int s] ∧ (∀ es, d = .tuple es → es.length ≤ 100000 ∧ ∀ p, p ∈ es → lowOk p) ∧ sv = .d (.bool (isPt d s))
def okCe : List PD → SV → Prop := fun ds sv => ∃ d s z, ds = [d, .int s, .int z] ∧ (∀ es, d = .tuple es → es.length ≤ 100000) ∧ sv = .d (.bool (isCe d s z))
theorem bools_map (l : List PD) (g : PD → Bool) : l.map (fun p => PyData.bool (g p)) = (l.map g).map PyData.bool := by rw [List.map_map]; rfl
theorem all_map (l : List PD) (g : PD → Bool) : (l.map g).all id = l.all g := by rw [List.all_map]; rfl
theorem is_point (z : Bt mg) (h1 : Knw P w K mg base CX0 3 "is_fraction_in" ["value", "least", "most"] (SpP K okFrIn)) (F : Fun K "is_point" "is_point" (topS 6) f fd) : Gd P w K mg base CX0 4 f fd ["value", "sides"] (SpP K okPt) := by
  refine okP F sc6 (fun ds sv ⟨d, s, e, _⟩ => by rw [e]; rfl) fun cdv A outer s H E B ds sv fm D0 ⟨d, n, e1, hlo, e2⟩ gu hr hC hw hn => ?_
  subst e1 e2
  cases d with
  | tuple es =>
    obtain ⟨hz, hl⟩ := hlo es rfl
    by_cases hen : ((es.length : Nat) : Int) = n
    · refine r_ifF (t_of (w_or (t_not (t_val (e_isTup z (e_var 0)))) (fun h => w_or1 (t_neI (e_lenT z.len (e_var 0)) (e_var 1))))) ?_ ?_
      · rw [decide_eq_true hen]
        rfl
      · refine r_retD hw (e_all (bs := es.map fun p => frIn p 0 1) rfl z.all (e_eq (e_lcN (i := 2) (fun p => .bool (frIn p 0 1)) rfl sc6.nd (i_tup (e_var 0)) (blkOk_by (own := [("part", 2)]) (N := ["value", "sides", "part"]) (sc := defScope (topS 6)) (by decide +kernel)) (fun _ _ _ _ _ => g_name 2 sc6.nd)
          (fun s' H' Cc cl fp D acc p hp => e_callP h1 gu hr (by decide) (a_cons (e_var 2) (a_cons e_int (a_cons e_int a_nil))) ⟨p, 0, 1, rfl, hl p hp, .inl rfl, .inr rfl, rfl⟩) hz) (congrArg PyData.list (bools_map es _)))) ?_
        rw [all_map]
        show PyData.bool _ = .bool (decide (((es.length : Nat) : Int) = n) && _)
        rw [decide_eq_true hen]
        rfl
    · refine r_ifT (t_of (w_or (t_not (t_val (e_isTup z (e_var 0)))) (fun h => w_or1 (t_neI (e_lenT z.len (e_var 0)) (e_var 1))))) ?_ (r_retD hw e_bl ?_)
      · rw [decide_eq_false hen]
        rfl
      · show PyData.bool _ = .bool (decide (((es.length : Nat) : Int) = n) && _)
        rw [decide_eq_false hen]
        rfl
  | _ =>
    refine r_ifT (t_of (w_or (v := false) (t_not (t_val (e_isTup z (e_var 0)))) (fun h => ?_))) rfl (r_retD hw e_bl ?_)
    · cases h
    · rfl
theorem is_cell (z : Bt mg) (h1 : Knw P w K mg base CX0 2 "is_whole_in" ["value", "least", "most"] (SpP K okWholeIn)) (F : Fun K "is_cell" "is_cell" (topS 7) f fd) : Gd P w K mg base CX0 3 f fd ["value", "sides", "size"] (SpP K okCe) := by
  refine okP F sc7 (fun ds sv ⟨d, s, _, e, _⟩ => by rw [e]; rfl) fun cdv A outer s H E B ds sv fm D0 ⟨d, n, y, e1, hlo, e2⟩ gu hr hC hw hn => ?_
  subst e1 e2
  cases d with
  | tuple es =>
    have hz := hlo es rfl
    by_cases hen : ((es.length : Nat) : Int) = n
    · refine r_ifF (t_of (w_or (t_not (t_val (e_isTup z (e_var 0)))) (fun h => w_or1 (t_neI (e_lenT z.len (e_var 0)) (e_var 1))))) ?_ ?_
      · rw [decide_eq_true hen]
        rfl
      · refine r_retD hw (e_all (bs := es.map fun p => wholeIn p 0 (y - 1)) rfl z.all (e_eq (e_lcN (i := 3) (fun p => .bool (wholeIn p 0 (y - 1))) rfl sc7.nd (i_tup (e_var 0)) (blkOk_by (own := [("part", 3)]) (N := ["value", "sides", "size", "part"]) (sc := defScope (topS 7)) (by decide +kernel)) (fun _ _ _ _ _ => g_name 3 sc7.nd)
          (fun s' H' Cc cl fp D acc p hp => e_callP h1 gu hr (by decide) (a_cons (e_var 3) (a_cons e_int (a_cons (e_sub (e_var 2) e_int) a_nil))) ⟨p, 0, y - 1, rfl, rfl⟩) hz) (congrArg PyData.list (bools_map es _)))) ?_
        rw [all_map]
        show PyData.bool _ = .bool (decide (((es.length : Nat) : Int) = n) && _)
        rw [decide_eq_true hen]
        rfl
    · refine r_ifT (t_of (w_or (t_not (t_val (e_isTup z (e_var 0)))) (fun h => w_or1 (t_neI (e_lenT z.len (e_var 0)) (e_var 1))))) ?_ (r_retD hw e_bl ?_)
      · rw [decide_eq_false hen]
        rfl
      · show PyData.bool _ = .bool (decide (((es.length : Nat) : Int) = n) && _)
        rw [decide_eq_false hen]
        rfl
  | _ =>
    refine r_ifT (t_of (w_or (v := false) (t_not (t_val (e_isTup z (e_var 0)))) (fun h => ?_))) rfl (r_retD hw e_bl ?_)
    · cases h
    · rfl
end
end Mo
namespace Mo
open PySem PySem.Spec PyProof.Rows L2 Wk
/-! ### the table of motions -/
abbrev Mot := List (Nat × Bool)
def lm : List Mot := [[(0, false)], [(0, true)]]
def pm : List Mot := [[(0, false), (1, false)], [(1, true), (0, false)], [(0, true), (1, true)], [(1, false), (0, true)], [(0, true), (1, false)], [(1, true), (0, true)], [(0, false), (1, true)], [(1, false), (0, false)]]
def encP (p : Nat × Bool) : PD := .tuple [.int (p.1 : Nat), .bool p.2]
def encM (m : Mot) : PD := .tuple (m.map encP)
def tbl (s : Nat) : List Mot := if s = 1 then lm else pm
def Ts (K : PySem.W.Frag) (aT : Nat → Addr) : Prop := ∀ s, s = 1 ∨ s = 2 → KT K (aT s) ((tbl s).map encM)
/-- one, then other -/
def joint (s i j : Nat) : Mot := ((tbl s).getD j []).map fun p => let q := ((tbl s).getD i []).getD p.1 (0, false); (q.1, q.2 != p.2)
def jm (s i j : Nat) : Nat := (((tbl s).map encM).map fun z => PyData.eqv z (encM (joint s i j))).idxOf true
def many (s : Nat) : Nat := if s = 1 then 2 else 8
theorem tbl_len {s : Nat} (h : s = 1 ∨ s = 2) : (tbl s).length = many s := by rcases h with rfl | rfl <;> rfl
section
variable {P : Program} {w : World} {K : PySem.W.Frag} {mg : Str → Option Value} {base : Heap} {f : Addr} {fd : FuncData}
/-! motions_for, check_motion -/
theorem sc17 : FnScope ["sides"] ["sides"] (defScope (topS 17)) := ⟨rfl, rfl, rfl, by decide +kernel, rfl, by decide +kernel, by decide +kernel⟩
def okFor (aT : Nat → Addr) : List PD → SV → Prop := fun ds sv => ∃ s, (s = 1 ∨ s = 2) ∧ ds = [.int (s : Nat)] ∧ sv = .v (.ref (aT s))
theorem motions_for {aT : Nat → Addr} (g1 : mg "LINE_MOTIONS" = some (.ref (aT 1))) (g2 : mg "PLANE_MOTIONS" = some (.ref (aT 2))) (h1 : Knw P w K mg base CX0 2 "is_whole_in" ["value", "least", "most"] (SpP K okWholeIn)) (F : Fun K "motions_for" "motions_for" (topS 17) f fd) :
    Gd P w K mg base CX0 3 f fd ["sides"] (SpP K (okFor aT)) := by
  refine okP F sc17 (fun ds sv ⟨d, _, e, _⟩ => by rw [e]; rfl) fun cdv A outer s H E B ds sv fm D0 ⟨n, hs, e1, e2⟩ gu hr hC hw hn => ?_
  subst e1 e2
  rcases hs with rfl | rfl
  · refine r_ifF (t_not (t_val (e_callP h1 gu hr (by decide) (a_cons (e_var 0) (a_cons e_int (a_cons e_int a_nil))) ⟨_, _, _, rfl, rfl⟩))) rfl (r_ret hw (e_if (R := Eq (SV.v (.ref (aT 1)))) (t_eqI (e_var 0) e_int) (fun _ => e_globV g1 rfl) (fun h => ?_)) fun sv h => h.symm)
    exact absurd h (by decide)
  · refine r_ifF (t_not (t_val (e_callP h1 gu hr (by decide) (a_cons (e_var 0) (a_cons e_int (a_cons e_int a_nil))) ⟨_, _, _, rfl, rfl⟩))) rfl (r_ret hw (e_if (R := Eq (SV.v (.ref (aT 2)))) (t_eqI (e_var 0) e_int) (fun h => ?_) (fun _ => e_globV g2 rfl)) fun sv h => h.symm)
    exact absurd h (by decide)
theorem sc18 : FnScope ["motions", "value"] ["motions", "value"] (defScope (topS 18)) := ⟨rfl, rfl, rfl, by decide +kernel, rfl, by decide +kernel, by decide +kernel⟩
def okCheck : List PD → SV → Prop := fun ds sv => ∃ ms i, ds = [.tuple ms, .int (i : Nat)] ∧ i < ms.length ∧ sv = .d .none
theorem check_motion (z : Bt mg) (h1 : Knw P w K mg base CX0 2 "is_whole_in" ["value", "least", "most"] (SpP K okWholeIn)) (F : Fun K "check_motion" "check_motion" (topS 18) f fd) : Gd P w K mg base CX0 3 f fd ["motions", "value"] (SpP K okCheck) := by
  refine okP F sc18 (fun ds sv ⟨d, _, e, _⟩ => by rw [e]; rfl) fun cdv A outer s H E B ds sv fm D0 ⟨ms, i, e1, hi, e2⟩ gu hr hC hw hn => ?_
  subst e1 e2
  refine r_ifF (t_not (t_val (e_callP h1 gu hr (by decide) (a_cons (e_var 1) (a_cons e_int (a_cons (e_sub (e_lenT z.len (e_var 0)) e_int) a_nil))) ⟨_, _, _, rfl, rfl⟩))) ?_ (r_nil fun σ H' i => hn rfl _ σ H' i)
  show (!(decide ((0 : Int) ≤ ((i : Nat) : Int)) && decide (((i : Nat) : Int) ≤ ((ms.length : Nat) : Int) - 1))) = false
  rw [decide_eq_true (show (0 : Int) ≤ ((i : Nat) : Int) by omega), decide_eq_true (show ((i : Nat) : Int) ≤ ((ms.length : Nat) : Int) - 1 by omega)]
  rfl
/-! joint_motion -/
theorem sc19 : FnScope ["sides", "one", "other", "motions", "joint", "middle", "turned", "start", "turned_before"] ["sides", "one", "other"] (defScope (topS 19)) := ⟨rfl, rfl, rfl, by decide +kernel, rfl, by decide +kernel, by decide +kernel⟩
def okJoint : List PD → SV → Prop := fun ds sv => ∃ s i j, (s = 1 ∨ s = 2) ∧ i < many s ∧ j < many s ∧ ds = [.int (s : Nat), .int (i : Nat), .int (j : Nat)] ∧ sv = .d (.int (jm s i j : Nat))
theorem at_tbl {s i : Nat} (h : i < (tbl s).length) : atI ((tbl s).map encM) ((i : Nat) : Int) = some (encM ((tbl s).getD i [])) := by
  apply atI_nat
  rw [List.getElem?_map, List.getElem?_eq_getElem h]
  simp [List.getD, h]
theorem tbl_row {s i : Nat} (hs : s = 1 ∨ s = 2) (h : i < many s) : ((tbl s).getD i []).length = s ∧ ∀ p ∈ (tbl s).getD i [], p.1 < s := by
  rcases hs with rfl | rfl
  · revert i
    decide
  · revert i
    decide
theorem at_row {m : Mot} {k : Nat} (h : k < m.length) : atI (m.map encP) ((k : Nat) : Int) = some (encP (m.getD k (0, false))) := by
  apply atI_nat
  rw [List.getElem?_map, List.getElem?_eq_getElem h]
  simp [List.getD, h]
theorem shaped_tbl {s : Nat} (hs : s = 1 ∨ s = 2) : SeqAt.shaped (.tuple ((tbl s).map encM)) = true := by rcases hs with rfl | rfl <;> decide +kernel
theorem shaped_joint {s i j : Nat} (hs : s = 1 ∨ s = 2) (hi : i < many s) (hj : j < many s) : SeqAt.shaped (encM (joint s i j)) = true := by
  rcases hs with rfl | rfl
  · exact (show ∀ i, i < 2 → ∀ j, j < 2 → SeqAt.shaped (encM (joint 1 i j)) = true by decide +kernel) i hi j hj
  · exact (show ∀ i, i < 8 → ∀ j, j < 8 → SeqAt.shaped (encM (joint 2 i j)) = true by decide +kernel) i hi j hj
theorem joint_in {s i j : Nat} (hs : s = 1 ∨ s = 2) (hi : i < many s) (hj : j < many s) : true ∈ ((tbl s).map encM).map (fun z => PyData.eqv z (encM (joint s i j))) := by
  rcases hs with rfl | rfl
  · exact (show ∀ i, i < 2 → ∀ j, j < 2 → true ∈ ((tbl 1).map encM).map (fun z => PyData.eqv z (encM (joint 1 i j))) by decide +kernel) i hi j hj
  · exact (show ∀ i, i < 8 → ∀ j, j < 8 → true ∈ ((tbl 2).map encM).map (fun z => PyData.eqv z (encM (joint 2 i j))) by decide +kernel) i hi j hj
theorem joint_motion {aT : Nat → Addr} (hT : Ts K aT) (z : Bt mg) (h1 : Knw P w K mg base CX0 3 "motions_for" ["sides"] (SpP K (okFor aT))) (h2 : Knw P w K mg base CX0 3 "check_motion" ["motions", "value"] (SpP K okCheck)) (F : Fun K "joint_motion" "joint_motion" (topS 19) f fd) :
    Gd P w K mg base CX0 4 f fd ["sides", "one", "other"] (SpP K okJoint) := by
  refine okP F sc19 (fun ds sv ⟨_, _, _, _, _, _, e, _⟩ => by rw [e]; rfl) fun cdv A outer s H E B ds sv fm D0 ⟨n, i, j, hs, hi, hj, e1, e2⟩ gu hr hC hw hn => ?_
  subst e1 e2
  have kt := hT n hs
  have li : i < (tbl n).length := by rw [tbl_len hs]; exact hi
  have lj : j < (tbl n).length := by rw [tbl_len hs]; exact hj
  refine r_set 3 (e_callP h1 gu hr (by decide) (a_cons (e_var 0) a_nil) ⟨n, hs, rfl, rfl⟩) ?_ sc19.nd
  refine r_drop (e_callP h2 gu hr (by decide) (a_cons (e_kt kt (e_var 3)) (a_cons (e_var 1) a_nil)) ⟨_, i, rfl, by rw [List.length_map]; exact li, rfl⟩) ?_
  refine r_drop (e_callP h2 gu hr (by decide) (a_cons (e_kt kt (e_var 3)) (a_cons (e_var 2) a_nil)) ⟨_, j, rfl, by rw [List.length_map]; exact lj, rfl⟩) ?_
  refine r_new 4 (fun D => ?_) sc19.nd
  refine r_for (tgd := .tup [.name 5, .name 6]) (ds := ((tbl n).getD j []).map encP)
    (fun k c => ∃ x1 x2 x3 x4 : Option SV, c = ⟨[(D, ((joint n i j).take k).map encP)], [some (.d (.int (n : Nat))), some (.d (.int (i : Nat))), some (.d (.int (j : Nat))), some (.v (.ref (aT n))), some (.v (.ref D)), x1, x2, x3, x4], 0⟩)
    rfl PassesOwn.never (i_tup (e_ixT (e_kt kt (e_var 3)) (e_var 2) (at_tbl lj))) (g_tup rfl (gs_cons (g_name 5 sc19.nd) (gs_cons (g_name 6 sc19.nd) gs_nil))) ⟨none, none, none, none, rfl⟩ (fun k c ⟨x1, x2, x3, x4, e⟩ => by rw [e]; rfl) ?_ ?_
  · rintro k d c H1 hd ⟨x1, x2, x3, x4, rfl⟩
    rw [List.getElem?_map] at hd
    cases hp : ((tbl n).getD j [])[k]? with
    | none =>
      rw [hp] at hd
      cases hd
    | some p =>
      rw [hp] at hd
      cases hd
      have hmem : p ∈ (tbl n).getD j [] := List.mem_of_getElem? hp
      have hp1 := (tbl_row hs hj).2 p hmem
      have li' : p.1 < ((tbl n).getD i []).length := by rw [(tbl_row hs hi).1]; exact hp1
      refine ⟨_, rfl, ?_⟩
      refine r_tup (ts := [.name 7, .name 8]) rfl (g_tup rfl (gs_cons (g_name 7 sc19.nd) (gs_cons (g_name 8 sc19.nd) gs_nil))) (e_ixT (e_ixT (e_kt kt (e_var 3)) (e_var 1) (at_tbl li)) (e_var 5) (at_row li')) (fun sv e => ⟨_, _, e.symm, rfl, ?_⟩)
      refine r_append (e_var 4) (e_tup (a_cons (e_var 7) (a_cons (e_neB (e_var 8) (e_var 6)) a_nil))) ?_ (r_end (J := _) ?_)
      · rw [List.length_map, List.length_take]
        have : (joint n i j).length ≤ 2 := by
          unfold joint
          rw [List.length_map, (tbl_row hs hj).1]
          rcases hs with rfl | rfl <;> decide
        omega
      · have e1 : ((joint n i j).take (k + 1)).map encP = ((joint n i j).take k).map encP ++ [encP ((((tbl n).getD i []).getD p.1 (0, false)).1, (((tbl n).getD i []).getD p.1 (0, false)).2 != p.2)] := by
          rw [List.take_add_one, List.map_append]
          unfold joint
          rw [List.getElem?_map, hp]
          rfl
        rw [e1]
        exact ⟨_, _, _, _, rfl⟩
  · rintro c ⟨x1, x2, x3, x4, rfl⟩
    have e1 : (joint n i j).take (((tbl n).getD j []).map encP).length = joint n i j := List.take_of_length_le (by unfold joint; rw [List.length_map, List.length_map]; exact Nat.le_refl _)
    rw [e1]
    refine r_retD hw (e_tindex hr kt (shaped_tbl hs) (e_var 3) (e_tupleM (ds := (joint n i j).map encP) List.mem_cons_self z.tuple (e_var 4)) (shaped_joint hs hi hj) (joint_in hs hi hj)) rfl
end
end Mo
namespace Mo
open PySem PySem.Spec PyProof.Rows L2 Wk
abbrev Fr2 := Int × Int
def encF (q : Fr2) : PD := .tuple [.int q.1, .int q.2]
def ptU (s i : Nat) (pts : List Fr2) : List Fr2 := ((tbl s).getD i []).map fun p => let q := pts.getD p.1 (0, 1); (if p.2 then q.2 - q.1 else q.1, q.2)
def ceU (s i : Nat) (z : Int) (cs : List Int) : List Int := ((tbl s).getD i []).map fun p => let q := cs.getD p.1 0; if p.2 then z - 1 - q else q
section
variable {P : Program} {w : World} {K : PySem.W.Frag} {mg : Str → Option Value} {base : Heap} {f : Addr} {fd : FuncData}
theorem sc21 : FnScope ["sides", "motion", "point", "motions", "moved", "start", "turned", "top", "low"] ["sides", "motion", "point"] (defScope (topS 21)) := ⟨rfl, rfl, rfl, by decide +kernel, rfl, by decide +kernel, by decide +kernel⟩
def okPu : List PD → SV → Prop := fun ds sv => ∃ s i pts, (s = 1 ∨ s = 2) ∧ i < many s ∧ pts.length = s ∧ isPt (.tuple (pts.map encF)) (s : Nat) = true ∧ (∀ q ∈ pts, q.2.natAbs.log2 < 900000) ∧ ds = [.int (s : Nat), .int (i : Nat), .tuple (pts.map encF)] ∧ sv = .d (.tuple ((ptU s i pts).map encF))
theorem at_get {α : Type} {l : List α} {g : α → PD} {k : Nat} (d : α) (h : k < l.length) : atI (l.map g) ((k : Nat) : Int) = some (g (l.getD k d)) := by
  apply atI_nat
  rw [List.getElem?_map, List.getElem?_eq_getElem h]
  simp [List.getD, h]
theorem row_le {s i : Nat} (hs : s = 1 ∨ s = 2) (hi : i < many s) : ((tbl s).getD i []).length ≤ 2 := by
  rw [(tbl_row hs hi).1]
  rcases hs with rfl | rfl <;> decide
theorem point_under {aT : Nat → Addr} (hT : Ts K aT) (z : Bt mg) (h1 : Knw P w K mg base CX0 3 "motions_for" ["sides"] (SpP K (okFor aT))) (h2 : Knw P w K mg base CX0 3 "check_motion" ["motions", "value"] (SpP K okCheck)) (h3 : Knw P w K mg base CX0 4 "is_point" ["value", "sides"] (SpP K okPt))
    (F : Fun K "point_under" "point_under" (topS 21) f fd) : Gd P w K mg base CX0 5 f fd ["sides", "motion", "point"] (SpP K okPu) := by
  refine okP F sc21 (fun ds sv ⟨_, _, _, _, _, _, _, _, e, _⟩ => by rw [e]; rfl) fun cdv A outer s H E B ds sv fm D0 ⟨n, i, pts, hs, hi, hp, hpt, hlo, e1, e2⟩ gu hr hC hw hn => ?_
  subst e1 e2
  have kt := hT n hs
  have li : i < (tbl n).length := by rw [tbl_len hs]; exact hi
  refine r_set 3 (e_callP h1 gu hr (by decide) (a_cons (e_var 0) a_nil) ⟨n, hs, rfl, rfl⟩) ?_ sc21.nd
  refine r_drop (e_callP h2 gu hr (by decide) (a_cons (e_kt kt (e_var 3)) (a_cons (e_var 1) a_nil)) ⟨_, i, rfl, by rw [List.length_map]; exact li, rfl⟩) ?_
  refine r_ifF (t_not (t_val (e_callP h3 gu hr (by decide) (a_cons (e_var 2) (a_cons (e_var 0) a_nil)) ⟨_, _, rfl, fun es e => ?_, rfl⟩))) (by rw [hpt]; rfl) ?_
  · cases e
    refine ⟨?_, fun p hpm t l e => ?_⟩
    · rw [List.length_map, hp]
      rcases hs with rfl | rfl <;> decide
    · obtain ⟨q, hq, rfl⟩ := List.mem_map.mp hpm
      cases e
      exact hlo q hq
  refine r_new 4 (fun D => ?_) sc21.nd
  refine r_for (tgd := .tup [.name 5, .name 6]) (ds := ((tbl n).getD i []).map encP)
    (fun k c => ∃ x1 x2 x3 x4 : Option SV, c = ⟨[(D, ((ptU n i pts).take k).map encF)], [some (.d (.int (n : Nat))), some (.d (.int (i : Nat))), some (.d (.tuple (pts.map encF))), some (.v (.ref (aT n))), some (.v (.ref D)), x1, x2, x3, x4], 0⟩)
    rfl PassesOwn.never (i_tup (e_ixT (e_kt kt (e_var 3)) (e_var 1) (at_tbl li))) (g_tup rfl (gs_cons (g_name 5 sc21.nd) (gs_cons (g_name 6 sc21.nd) gs_nil))) ⟨none, none, none, none, rfl⟩ (fun k c ⟨x1, x2, x3, x4, e⟩ => by rw [e]; rfl) ?_ ?_
  · rintro k d c H1 hd ⟨x1, x2, x3, x4, rfl⟩
    rw [List.getElem?_map] at hd
    cases hpk : ((tbl n).getD i [])[k]? with
    | none =>
      rw [hpk] at hd
      cases hd
    | some p =>
      rw [hpk] at hd
      cases hd
      have hp1 := (tbl_row hs hi).2 p (List.mem_of_getElem? hpk)
      refine ⟨_, rfl, ?_⟩
      refine r_tup (ts := [.name 7, .name 8]) rfl (g_tup rfl (gs_cons (g_name 7 sc21.nd) (gs_cons (g_name 8 sc21.nd) gs_nil))) (e_ixT (e_var 2) (e_var 5) (at_get (l := pts) (g := encF) (0, 1) (by rw [hp]; exact hp1))) (fun sv e => ⟨_, _, e.symm, rfl, ?_⟩)
      refine r_append (e_var 4) (e_tup (a_cons (e_if (m := 0) (k := 0) (R := Eq (SV.d (.int (if p.2 then (pts.getD p.1 (0, 1)).2 - (pts.getD p.1 (0, 1)).1 else (pts.getD p.1 (0, 1)).1)))) (t_val (e_var 6)) (fun h => ?_) (fun h => ?_)) (a_cons (e_var 8) a_nil))) ?_ (r_end (J := _) ?_)
      · exact e_eq (e_sub (e_var 8) (e_var 7)) (by rw [h]; rfl)
      · exact e_eq (e_var 7) (by rw [h]; rfl)
      · rw [List.length_map, List.length_take]
        have : (ptU n i pts).length ≤ 2 := by
          unfold ptU
          rw [List.length_map]
          exact row_le hs hi
        omega
      · have e1 : ((ptU n i pts).take (k + 1)).map encF = ((ptU n i pts).take k).map encF ++ [encF (if p.2 then (pts.getD p.1 (0, 1)).2 - (pts.getD p.1 (0, 1)).1 else (pts.getD p.1 (0, 1)).1, (pts.getD p.1 (0, 1)).2)] := by
          rw [List.take_add_one, List.map_append]
          unfold ptU
          rw [List.getElem?_map, hpk]
          rfl
        rw [e1]
        exact ⟨_, _, _, _, rfl⟩
  · rintro c ⟨x1, x2, x3, x4, rfl⟩
    have e1 : (ptU n i pts).take (((tbl n).getD i []).map encP).length = ptU n i pts := List.take_of_length_le (by unfold ptU; rw [List.length_map, List.length_map]; exact Nat.le_refl _)
    rw [e1]
    exact r_retD hw (e_tupleM List.mem_cons_self z.tuple (e_var 4)) rfl
/-! cell_under -/
theorem sc22 : FnScope ["sides", "size", "motion", "cell", "motions", "moved", "start", "turned"] ["sides", "size", "motion", "cell"] (defScope (topS 22)) := ⟨rfl, rfl, rfl, by decide +kernel, rfl, by decide +kernel, by decide +kernel⟩
def okCu : List PD → SV → Prop := fun ds sv => ∃ s i z cs, (s = 1 ∨ s = 2) ∧ i < many s ∧ cs.length = s ∧ 1 ≤ z ∧ (∀ c ∈ cs, 0 ≤ c ∧ c ≤ z - 1) ∧ ds = [.int (s : Nat), .int z, .int (i : Nat), .tuple (cs.map PyData.int)] ∧ sv = .d (.tuple ((ceU s i z cs).map PyData.int))
theorem cell_under {aT : Nat → Addr} (hT : Ts K aT) (z : Bt mg) (h0 : Knw P w K mg base CX0 1 "is_whole" ["value"] (SpP K okWhole)) (h1 : Knw P w K mg base CX0 3 "motions_for" ["sides"] (SpP K (okFor aT))) (h2 : Knw P w K mg base CX0 3 "check_motion" ["motions", "value"] (SpP K okCheck)) (h3 : Knw P w K mg base CX0 3 "is_cell" ["value", "sides", "size"] (SpP K okCe))
    (F : Fun K "cell_under" "cell_under" (topS 22) f fd) : Gd P w K mg base CX0 4 f fd ["sides", "size", "motion", "cell"] (SpP K okCu) := by
  refine okP F sc22 (fun ds sv ⟨_, _, _, _, _, _, _, _, _, e, _⟩ => by rw [e]; rfl) fun cdv A outer s H E B ds sv fm D0 ⟨n, i, y, cs, hs, hi, hl, hy, hc, e1, e2⟩ gu hr hC hw hn => ?_
  subst e1 e2
  have kt := hT n hs
  have li : i < (tbl n).length := by rw [tbl_len hs]; exact hi
  have hcell : isCe (.tuple (cs.map PyData.int)) ((n : Nat) : Int) y = true := by
    show (decide ((((cs.map PyData.int).length : Nat) : Int) = ((n : Nat) : Int)) && (cs.map PyData.int).all fun p => wholeIn p 0 (y - 1)) = true
    rw [List.length_map, hl, decide_eq_true rfl, Bool.true_and, List.all_map, List.all_eq_true]
    intro c hm
    show (decide ((0 : Int) ≤ c) && decide (c ≤ y - 1)) = true
    rw [decide_eq_true (hc c hm).1, decide_eq_true (hc c hm).2]
    rfl
  refine r_set 4 (e_callP h1 gu hr (by decide) (a_cons (e_var 0) a_nil) ⟨n, hs, rfl, rfl⟩) ?_ sc22.nd
  refine r_ifF (t_of (w_or (t_not (t_val (e_callP h0 gu hr (by decide) (a_cons (e_var 1) a_nil) ⟨_, rfl, rfl⟩))) fun _ => w_or1 (t_lt (e_var 1) e_int))) ?_ ?_
  · show (false || decide (y < 1)) = false
    rw [decide_eq_false (by omega)]
    rfl
  refine r_drop (e_callP h2 gu hr (by decide) (a_cons (e_kt kt (e_var 4)) (a_cons (e_var 2) a_nil)) ⟨_, i, rfl, by rw [List.length_map]; exact li, rfl⟩) ?_
  refine r_ifF (t_not (t_val (e_callP h3 gu hr (by decide) (a_cons (e_var 3) (a_cons (e_var 0) (a_cons (e_var 1) a_nil))) ⟨_, _, _, rfl, fun es e => ?_, rfl⟩))) (by rw [hcell]; rfl) ?_
  · cases e
    rw [List.length_map, hl]
    rcases hs with rfl | rfl <;> decide
  refine r_new 5 (fun D => ?_) sc22.nd
  refine r_for (tgd := .tup [.name 6, .name 7]) (ds := ((tbl n).getD i []).map encP)
    (fun k c => ∃ x1 x2 : Option SV, c = ⟨[(D, ((ceU n i y cs).take k).map PyData.int)], [some (.d (.int (n : Nat))), some (.d (.int y)), some (.d (.int (i : Nat))), some (.d (.tuple (cs.map PyData.int))), some (.v (.ref (aT n))), some (.v (.ref D)), x1, x2], 0⟩)
    rfl PassesOwn.never (i_tup (e_ixT (e_kt kt (e_var 4)) (e_var 2) (at_tbl li))) (g_tup rfl (gs_cons (g_name 6 sc22.nd) (gs_cons (g_name 7 sc22.nd) gs_nil))) ⟨none, none, rfl⟩ (fun k c ⟨x1, x2, e⟩ => by rw [e]; rfl) ?_ ?_
  · rintro k d c H1 hd ⟨x1, x2, rfl⟩
    rw [List.getElem?_map] at hd
    cases hpk : ((tbl n).getD i [])[k]? with
    | none =>
      rw [hpk] at hd
      cases hd
    | some p =>
      rw [hpk] at hd
      cases hd
      have hp1 := (tbl_row hs hi).2 p (List.mem_of_getElem? hpk)
      refine ⟨_, rfl, ?_⟩
      refine r_append (e_var 5) (d := .int (if p.2 then y - 1 - cs.getD p.1 0 else cs.getD p.1 0)) (e_if (m := 0) (k := 0) (t_val (e_var 7)) (fun h => ?_) (fun h => ?_)) ?_ (r_end (J := _) ?_)
      · exact e_eq (e_sub (e_sub (e_var 1) e_int) (e_ixT (e_var 3) (e_var 6) (at_get (l := cs) (g := PyData.int) 0 (by rw [hl]; exact hp1)))) (by rw [h]; rfl)
      · exact e_eq (e_ixT (e_var 3) (e_var 6) (at_get (l := cs) (g := PyData.int) 0 (by rw [hl]; exact hp1))) (by rw [h]; rfl)
      · rw [List.length_map, List.length_take]
        have : (ceU n i y cs).length ≤ 2 := by
          unfold ceU
          rw [List.length_map]
          exact row_le hs hi
        omega
      · have e1 : ((ceU n i y cs).take (k + 1)).map PyData.int = ((ceU n i y cs).take k).map PyData.int ++ [.int (if p.2 then y - 1 - cs.getD p.1 0 else cs.getD p.1 0)] := by
          rw [List.take_add_one, List.map_append]
          unfold ceU
          rw [List.getElem?_map, hpk]
          rfl
        rw [e1]
        exact ⟨_, _, rfl⟩
  · rintro c ⟨x1, x2, rfl⟩
    have e1 : (ceU n i y cs).take (((tbl n).getD i []).map encP).length = ceU n i y cs := List.take_of_length_le (by unfold ceU; rw [List.length_map, List.length_map]; exact Nat.le_refl _)
    rw [e1]
    exact r_retD hw (e_tupleM List.mem_cons_self z.tuple (e_var 5)) rfl
end
end Mo
namespace Mo
open PySem PySem.Spec PyProof.Rows L2 Wk
section
variable {P : Program} {w : World} {K : PySem.W.Frag} {mg : Str → Option Value} {base : Heap} {f : Addr} {fd : FuncData}
/-! ### the law's draws -/
theorem sc24 : FnScope ["script", "place", "cell", "own", "small"] ["script", "place"] (defScope (topS 24)) := ⟨rfl, rfl, rfl, by decide +kernel, rfl, by decide +kernel, by decide +kernel⟩
theorem law_pot (z : Bt mg) (F : Fun K "_law_pot" "_law_pot" (topS 24) f fd) : Gd P w K mg base CX0 1 f fd ["script", "place"] (SpPot K) := by
  refine okPot F sc24 fun cdv A outer s H E B ns y fm D0 hy gu hr hC hq => ?_
  refine r_setR (m := 0) 2 (R := fun sv => ∃ c : Int, sv = .d (.int c)) (e_if (m := 0) (t_lt (e_var 1) (e_lenL z.len (e_var 0))) (fun h => ?_) (fun h => ?_)) (fun sv ⟨c, e⟩ => ?_) sc24.nd
  · have h' := of_decide_eq_true h
    obtain ⟨q, _, hq'⟩ := at_in (l := ns) (i := y) ⟨hy.1, by rw [List.length_map] at h'; exact h'⟩
    exact e_imp (e_ixL (e_var 0) (e_var 1) hq') fun sv e => ⟨q, e.symm⟩
  · refine e_imp (e_add (e_add (e_mod (by decide) (e_sum (ns := ns.take 1) rfl z.sum (e_eq (e_upTo (j := 1) (e_var 0) e_int) (by rw [List.map_take]))) e_int) (e_mul (cm64 (by decide) ⟨hy.1, by omega⟩) e_int (e_var 1))) e_int) fun sv e => ⟨_, e.symm⟩
  subst e
  refine r_setR (m := 0) 3 (R := fun sv => ∃ o : Int, sv = .d (.int o) ∧ 0 ≤ o ∧ o.natAbs < 2 ^ 1000) ?_ (fun sv ⟨o, e, h0, h1⟩ => ?_) sc24.nd
  · refine e_imp (e_mul (own_ok _ _).1 (e_mod big_pos (e_intI z.int (e_abs z.abs (e_var 2))) (e_pow (by decide +kernel) (e_pow (by decide +kernel) e_int e_int) e_int)) (e_intB z.int (e_ge (e_abs z.abs (e_var 2)) (e_pow (by decide +kernel) e_int e_int)))) fun sv e => ⟨_, e.symm, (own_ok _ _).2.1, (own_ok _ _).2.2⟩
  subst e
  refine r_set 4 (e_mod (by decide) (e_intI z.int (e_var 2)) e_int) ?_ sc24.nd
  have s0 := Int.emod_nonneg c (b := 2305843009213693951) (by decide)
  have s1 := Int.emod_lt_of_pos c (b := 2305843009213693951) (by decide)
  generalize c % 2305843009213693951 = sm at s0 s1 ⊢
  refine r_retLst (a_cons (e_var 3) (a_cons (e_mod (by decide) (e_intI z.int (e_add (e_add (e_mul (cm64 ⟨s0, by omega⟩ (by decide)) (e_var 4) e_int) (e_mul (cm64 (mulb (b := 100) ⟨by decide, Int.le_refl _⟩ ⟨hy.1, by omega⟩ |>.imp_right fun h => Int.lt_of_le_of_lt h (by decide)) ⟨hy.1, by omega⟩) (e_mul (cm64 (by decide) ⟨hy.1, by omega⟩) e_int (e_var 1)) (e_var 1))) e_int)) e_int) (a_cons e_int a_nil))) (Nat.le_of_ble_eq_true rfl) (fun σ H' r vs i g nr => ?_)
  have ev := DvAll.ints (ns := [o, _, 0]) g
  subst ev
  exact hq _ σ H' r _ _ i nr ⟨h0, h1⟩ ⟨Int.emod_nonneg _ (by decide), Int.lt_trans (Int.emod_lt_of_pos _ (by decide)) (by decide)⟩
/-! _law_take -/
theorem sc25 : FnScope ["pot", "upto", "digit", "prime", "blend"] ["pot", "upto"] (defScope (topS 25)) := ⟨rfl, rfl, rfl, by decide +kernel, rfl, by decide +kernel, by decide +kernel⟩
theorem law_take (z : Bt mg) (F : Fun K "_law_take" "_law_take" (topS 25) f fd) : Gd P w K mg base CX0 1 f fd ["pot", "upto"] (SpQ K okTake) := by
  refine okTk F sc25 fun cdv A outer s H E p u a b c fm D0 hu hu2 ha hb hc gu hr hC hq => ?_
  refine r_ifR (t_gt (e_ixM List.mem_cons_self (e_var 0) (e_int (i := 0))) e_int) (fun h => ?_) (fun h => ?_)
  · refine r_set 2 (e_mod hu (e_intI z.int (e_ixM List.mem_cons_self (e_var 0) (e_int (i := 0)))) (e_var 1)) ?_ sc25.nd
    refine r_item (e_div (wide_div hu hu2 (by decide) (by decide)) (e_ixM List.mem_cons_self (e_var 0) (e_int (i := 0))) (e_var 1)) (e_var 0) e_int (j := 0) rfl ?_
    refine r_retG (e_var 2) fun σ v H' sv i r s => ?_
    subst r
    refine hq _ _ σ H' v _ (a / u) c i ⟨Int.ediv_nonneg ha.1 (by omega), Int.ediv_le_self u ha.1⟩ ⟨hc.1, by omega⟩ (Int.emod_nonneg _ (by omega)) (Int.emod_lt_of_pos _ hu) s
  · refine r_item (e_add (e_ixM List.mem_cons_self (e_var 0) (e_int (i := 2))) e_int) (e_var 0) e_int (j := 2) rfl ?_
    have p0 := Int.emod_nonneg (c + 1) (b := 5) (by decide)
    have p1 := Int.emod_lt_of_pos (c + 1) (b := 5) (by decide)
    obtain ⟨q, hqm, hqa⟩ := at_in (l := [2147483647, 2147483629, 2147483587, 2147483579, 2147483563]) (i := (c + 1) % 5) ⟨p0, p1⟩
    have hq1 : 0 < q ∧ q < 2147483648 := by
      simp only [List.mem_cons, List.not_mem_nil, or_false] at hqm
      omega
    refine r_set 3 (e_ixL (e_lst (a_cons e_int (a_cons e_int (a_cons e_int (a_cons e_int (a_cons e_int a_nil)))))) (e_mod (by decide) (e_intI z.int (e_ixM List.mem_cons_self (e_var 0) (e_int (i := 2)))) e_int) hqa) ?_ sc25.nd
    have hc1 : 0 ≤ c + 1 ∧ c + 1 ≤ 1000000 := ⟨by omega, by omega⟩
    generalize hx : c + 1 = x at hc1 hqa p0 p1 ⊢
    have m1 : CMulW 98183 x := cm64 (by decide) ⟨hc1.1, by omega⟩
    have b1 : 0 ≤ 98183 * x ∧ 98183 * x ≤ 98183 * 1000000 := ⟨by omega, by omega⟩
    have m2 : CMulW (98183 * x) x := cm64 ⟨b1.1, by omega⟩ ⟨hc1.1, by omega⟩
    have b2 := mulb b1 hc1
    have m3 : CPowW (b + 98183 * x * x + 419) 3 := cp64 ⟨by omega, by omega⟩ (by decide)
    refine r_set 4 (e_mod hq1.1 (e_intI z.int (e_pow m3 (e_intI z.int (e_add (e_add (e_ixM List.mem_cons_self (e_var 0) (e_int (i := 1))) (e_mul m2 (e_mul m1 e_int (e_ixM List.mem_cons_self (e_var 0) (e_int (i := 2)))) (e_ixM List.mem_cons_self (e_var 0) (e_int (i := 2))))) e_int)) e_int)) (e_var 3)) ?_ sc25.nd
    have c0 := Int.emod_nonneg ((b + 98183 * x * x + 419) ^ (3 : Int).toNat) (b := q) (by omega)
    have c1 := Int.emod_lt_of_pos ((b + 98183 * x * x + 419) ^ (3 : Int).toNat) hq1.1
    generalize (b + 98183 * x * x + 419) ^ (3 : Int).toNat % q = y at c0 c1 ⊢
    have d0 := Int.emod_nonneg y (b := 10009) (by decide)
    have d1 := Int.emod_lt_of_pos y (b := 10009) (by decide)
    have m4 : CMulW 87 x := cm64 (by decide) ⟨hc1.1, by omega⟩
    have m5 : CMulW y (y % 10009 + 87 * x) := cm64 ⟨c0, by omega⟩ ⟨by omega, by omega⟩
    refine r_set 4 (e_mod (by decide) (e_intI z.int (e_mul m5 (e_var 4) (e_add (e_mod (by decide) (e_intI z.int (e_var 4)) e_int) (e_mul m4 e_int (e_ixM List.mem_cons_self (e_var 0) (e_int (i := 2))))))) e_int) ?_ sc25.nd
    have e0 := Int.emod_nonneg (y * (y % 10009 + 87 * x)) (b := 2305843009213693907) (by decide)
    generalize y * (y % 10009 + 87 * x) % 2305843009213693907 = v1 at e0 ⊢
    refine r_retG (e_mod hu (e_intI z.int (e_div (wide_div (b := 64) (by decide) (by decide) (by decide) (by decide)) (e_var 4) e_int)) (e_var 1)) fun σ v H' sv i r s => ?_
    subst r
    exact hq _ _ σ H' v _ a x i ⟨ha.1, Int.le_refl _⟩ ⟨hc1.1, by omega⟩ (Int.emod_nonneg _ (by omega)) (Int.emod_lt_of_pos _ hu) s
/-! _law_of -/
theorem sc26 : FnScope ["pot", "some"] ["pot", "some"] (defScope (topS 26)) := ⟨rfl, rfl, rfl, by decide +kernel, rfl, by decide +kernel, by decide +kernel⟩
def okOf : List PD → Nat → (PD → Prop) → Prop := fun ds c R => ∃ es, ds = [.list es] ∧ es ≠ [] ∧ es.length ≤ 1000 ∧ c = 1 ∧ R = fun d => d ∈ es
theorem law_of (z : Bt mg) (h1 : Knw P w K mg base CX0 1 "_law_take" ["pot", "upto"] (SpQ K okTake)) (F : Fun K "_law_of" "_law_of" (topS 26) f fd) : Gd P w K mg base CX0 2 f fd ["pot", "some"] (SpQ K okOf) := by
  refine okQ F sc26 (fun ds c R ⟨es, e, _⟩ => by rw [e]; rfl) fun cdv A outer s H E p B ds c R n fm D0 ⟨es, e1, e2, e3, e4, e5⟩ hz gu hr hC hw => ?_
  subst e1 e4 e5
  have hpos : 0 < es.length := List.length_pos_iff.mpr e2
  have hC' : fm.C.P = some p := by rw [hC]
  refine r_ret hw (e_ixLR (e_var 1) (e_callQ h1 gu hr (by decide) hC' (e_var 0) (a_cons (e_lenL z.len (e_var 1)) a_nil) ⟨(es.length : Nat), rfl, by omega, ?_, rfl, rfl⟩ hz)) fun sv ⟨d, e, hd⟩ => ⟨Nat.le_refl _, d, e, hd⟩
  exact Nat.lt_of_le_of_lt (by omega : _ ≤ 1000) (by decide +kernel)
end
end Mo
namespace Mo
open PySem PySem.Spec PyProof.Rows L2 Wk
section
variable {P : Program} {w : World} {K : PySem.W.Frag} {mg : Str → Option Value} {base : Heap} {f : Addr} {fd : FuncData}
/-! _law_cells -/
theorem sc27 : FnScope ["script", "most"] ["script", "most"] (defScope (topS 27)) := ⟨rfl, rfl, rfl, by decide +kernel, rfl, by decide +kernel, by decide +kernel⟩
def cellsN (m l : Int) : Int := let q := if l < m then l else m; if q > 1 then q else 1
def okCells : List PD → SV → Prop := fun ds sv => ∃ ns : List Int, ∃ m : Int, ds = [.list (ns.map PyData.int), .int m] ∧ 0 ≤ m ∧ m ≤ 100 ∧ sv = .d (.list (rangeD 0 (cellsN m (ns.length : Nat)).toNat))
theorem cellsN_le {m l : Int} (h : 0 ≤ m ∧ m ≤ 100) (hl : 0 ≤ l) : 0 ≤ cellsN m l ∧ cellsN m l ≤ 100 := by
  unfold cellsN
  dsimp only
  split <;> split <;> omega
theorem law_cells (z : Bt mg) (F : Fun K "_law_cells" "_law_cells" (topS 27) f fd) : Gd P w K mg base CX0 1 f fd ["script", "most"] (SpP K okCells) := by
  refine okP F sc27 (fun ds sv ⟨_, _, e, _⟩ => by rw [e]; rfl) fun cdv A outer s H E B ds sv fm D0 ⟨ns, m, e1, h0, h1, e2⟩ gu hr hC hw hn => ?_
  subst e1 e2
  have hb := cellsN_le (m := m) (l := ((ns.map PyData.int).length : Nat)) ⟨h0, h1⟩ (by omega)
  refine r_retD hw (e_listRg (i := cellsN m ((ns.map PyData.int).length : Nat)) z rfl ⟨hb.1, by omega⟩ (e_max z rfl e_int (e_min z rfl (e_var 1) (e_lenL z.len (e_var 0))))) ?_
  rw [List.length_map]
/-! _law_led -/
def rot (low : Int) : Nat → Int × Int → Int × Int
  | 0, q => q
  | k + 1, q => let r := rot low k q; (low - r.2, r.1)
def led (i : Nat) (low : Int) : List Int → List Int
  | [t] => if i = 1 then [low - t] else [t]
  | [t, u] => let r := rot low (i % 4) (if i > 3 then (low - t, u) else (t, u)); [r.1, r.2]
  | _ => []
theorem sc28 : FnScope ["motion", "low", "tops", "across", "down", "lap"] ["motion", "low", "tops"] (defScope (topS 28)) := ⟨rfl, rfl, rfl, by decide +kernel, rfl, by decide +kernel, by decide +kernel⟩
def okLed : List PD → SV → Prop := fun ds sv => ∃ i : Nat, ∃ low : Int, ∃ ts : List Int, (ts.length = 1 ∨ ts.length = 2) ∧ i < 100 ∧ ds = [.int (i : Nat), .int low, .tuple (ts.map PyData.int)] ∧ sv = .d (.tuple ((led i low ts).map PyData.int))
theorem law_led (z : Bt mg) (F : Fun K "_law_led" "_law_led" (topS 28) f fd) : Gd P w K mg base CX0 1 f fd ["motion", "low", "tops"] (SpP K okLed) := by
  refine okP F sc28 (fun ds sv ⟨_, _, _, _, _, e, _⟩ => by rw [e]; rfl) fun cdv A outer s H E B ds sv fm D0 ⟨i, low, ts, hl, hi, e1, e2⟩ gu hr hC hw hn => ?_
  subst e1 e2
  match ts, hl with
  | [t], _ =>
    refine r_ifT (t_eqI (e_lenT z.len (e_var 2)) e_int) rfl (r_retD hw (e_if (m := 0) (k := 0) (R := Eq (SV.d (.tuple ((led i low [t]).map PyData.int)))) (t_eqI (e_var 0) e_int) (fun h => ?_) (fun h => ?_)) rfl)
    · have h' := of_decide_eq_true h
      refine e_eq (e_tup (a_cons (e_sub (e_var 1) (e_ixT (e_var 2) (e_int (i := 0)))) a_nil)) ?_
      show _ = PyData.tuple ((if i = 1 then [low - t] else [t]).map PyData.int)
      rw [if_pos (by omega)]
      rfl
    · have h' := of_decide_eq_false h
      refine e_eq (e_var 2) ?_
      show _ = PyData.tuple ((if i = 1 then [low - t] else [t]).map PyData.int)
      rw [if_neg (by omega)]
  | [t, u], _ =>
    refine r_ifF (t_eqI (e_lenT z.len (e_var 2)) e_int) rfl ?_
    generalize hq : (if i > 3 then (low - t, u) else (t, u)) = q
    refine r_tup (m := 0) (R := Eq (SV.d (.tuple [.int q.1, .int q.2]))) (ts := [.name 3, .name 4]) rfl (g_tup rfl (gs_cons (g_name 3 sc28.nd) (gs_cons (g_name 4 sc28.nd) gs_nil))) (e_if (m := 0) (t_gt (e_var 0) e_int) (fun h => ?_) (fun h => ?_)) (fun sv e => ⟨_, _, e.symm, rfl, ?_⟩)
    · have h' := of_decide_eq_true h
      refine e_eq (e_tup (a_cons (e_sub (e_var 1) (e_ixT (e_var 2) (e_int (i := 0)))) (a_cons (e_ixT (e_var 2) (e_int (i := 1))) a_nil))) ?_
      rw [← hq, if_pos (by omega)]
    · have h' := of_decide_eq_false h
      refine e_eq (e_var 2) ?_
      rw [← hq, if_neg (by omega)]
      rfl
    refine r_for (tgd := .name 5) (ds := rangeD 0 (((i : Nat) : Int) % 4).toNat)
      (fun k c => ∃ x1 : Option SV, c = ⟨[], [some (.d (.int (i : Nat))), some (.d (.int low)), some (.d (.tuple ([t, u].map PyData.int))), some (.d (.int (rot low k q).1)), some (.d (.int (rot low k q).2)), x1], 0⟩)
      rfl PassesOwn.never (i_range z.range (e_mod (by decide) (e_intI z.int (e_var 0)) e_int) ⟨by omega, by omega⟩) (g_name 5 sc28.nd) ⟨none, rfl⟩ (fun k c ⟨x1, e⟩ => by rw [e]) ?_ ?_
    · rintro k d c H1 hd ⟨x1, rfl⟩
      refine ⟨_, rfl, ?_⟩
      refine r_par 3 4 rfl sc28.nd (by decide) (ar_cons (e_sub (e_var 1) (e_var 4)) (ar_cons (e_var 3) ar_nil)) (fun svs h => ?_)
      obtain ⟨_, _, rfl, h1, _, _, rfl, h2, rfl⟩ := h
      subst h1 h2
      refine ⟨_, _, rfl, r_end (J := _) ⟨_, rfl⟩⟩
    · rintro c ⟨x1, rfl⟩
      refine r_retD hw (e_tup (a_cons (e_var 3) (a_cons (e_var 4) a_nil))) ?_
      have e1 : (rangeD 0 (((i : Nat) : Int) % 4).toNat).length = i % 4 := by
        simp only [rangeD, List.length_map, List.length_range]
        omega
      rw [e1]
      show _ = PyData.tuple ((let r := rot low (i % 4) (if i > 3 then (low - t, u) else (t, u)); [r.1, r.2]).map PyData.int)
      rw [hq]
      rfl
/-! _law_fraction -/
theorem sc29 : FnScope ["top", "low", "one", "other"] ["top", "low"] (defScope (topS 29)) := ⟨rfl, rfl, rfl, by decide +kernel, rfl, by decide +kernel, by decide +kernel⟩
def frac (t l : Nat) : Fr2 := (((t / Nat.gcd t l : Nat) : Int), ((l / Nat.gcd t l : Nat) : Int))
def okFrac : List PD → SV → Prop := fun ds sv => ∃ t l : Nat, t < 18446744073709551616 ∧ 0 < l ∧ l < 18446744073709551616 ∧ ds = [.int (t : Nat), .int (l : Nat)] ∧ sv = .d (encF (frac t l))
def pos2 (c : Cf) : Bool := match c.δ[2]? with
  | some (some (SV.d (PyData.int a))) => decide (0 < a)
  | _ => false
theorem law_fraction (z : Bt mg) (F : Fun K "_law_fraction" "_law_fraction" (topS 29) f fd) : Gd P w K mg base CX0 1 f fd ["top", "low"] (SpP K okFrac) := by
  refine okP F sc29 (fun ds sv ⟨_, _, _, _, _, e, _⟩ => by rw [e]; rfl) fun cdv A outer s H E B ds sv fm D0 ⟨t, l, ht, hl, hl2, e1, e2⟩ gu hr hC hw hn => ?_
  subst e1 e2
  refine r_par 2 3 rfl sc29.nd (by decide) (ar_cons (e_abs z.abs (e_intI z.int (e_var 0))) (ar_cons (e_intI z.int (e_var 1)) ar_nil)) (fun svs h => ?_)
  obtain ⟨_, _, rfl, h1, _, _, rfl, h2, rfl⟩ := h
  subst h1 h2
  refine ⟨_, _, rfl, ?_⟩
  refine r_while (fun k c => ∃ a b : Nat, k = a ∧ 0 < b ∧ a < 18446744073709551616 ∧ b < 18446744073709551616 ∧ Nat.gcd a b = Nat.gcd t l ∧ c = ⟨[], [some (.d (.int (t : Nat))), some (.d (.int (l : Nat))), some (.d (.int (a : Nat))), some (.d (.int (b : Nat)))], 0⟩)
    pos2 PassesOwn.never ⟨t, t, l, rfl, hl, ht, hl2, rfl, ?_⟩ ?_ ?_ ?_
  · have e : (if ((t : Nat) : Int) < 0 then -((t : Nat) : Int) else ((t : Nat) : Int)) = ((t : Nat) : Int) := if_neg (by omega)
    show (⟨[], [some (.d (.int (t : Nat))), some (.d (.int (l : Nat))), some (.d (.int (if ((t : Nat) : Int) < 0 then -((t : Nat) : Int) else ((t : Nat) : Int)))), some (.d (.int (l : Nat)))], 0⟩ : Cf) = _
    rw [e]
  · rintro k c ⟨a, b, _, _, _, _, _, rfl⟩
    exact t_gt (e_var 2) e_int
  · rintro k c ⟨a, b, rfl, hb, ha1, hb1, hg, rfl⟩ hu
    have ha : 0 < k := by
      have := of_decide_eq_true (show decide ((0 : Int) < ((k : Nat) : Int)) = true from hu)
      omega
    refine r_par 2 3 rfl sc29.nd (by decide) (ar_cons (e_mod (j := ((k : Nat) : Int)) (by omega) (e_var 3) (e_var 2)) (ar_cons (e_var 2) ar_nil)) (fun svs h => ?_)
    obtain ⟨_, _, rfl, h1, _, _, rfl, h2, rfl⟩ := h
    subst h1 h2
    refine ⟨_, _, rfl, r_end (J := _) ⟨b % k, Nat.mod_lt _ ha, b % k, k, rfl, ha, Nat.lt_of_le_of_lt (Nat.mod_le _ _) hb1, ha1, ?_, ?_⟩⟩
    · rw [← hg, ← Nat.gcd_rec]
    · show (⟨[], [_, _, some (.d (.int (((b : Nat) : Int) % ((k : Nat) : Int)))), _], 0⟩ : Cf) = _
      rw [← Int.natCast_emod]
  · rintro k c ⟨a, b, rfl, hb, ha1, hb1, hg, rfl⟩ hu
    have ha : k = 0 := by
      have := of_decide_eq_false (show decide ((0 : Int) < ((k : Nat) : Int)) = false from hu)
      omega
    subst ha
    have hbg : b = Nat.gcd t l := by rw [← hg, Nat.gcd_zero_left]
    subst hbg
    have dv : ∀ x : Int, CDivW x ((Nat.gcd t l : Nat) : Int) := fun x => wide_div (b := 64) (by omega) (by
      have : (2 : Nat) ^ 64 = 18446744073709551616 := by decide
      omega) (by decide) (by decide)
    refine r_retD hw (e_tup (a_cons (e_div (dv _) (e_intI z.int (e_var 0)) (e_var 3)) (a_cons (e_div (dv _) (e_intI z.int (e_var 1)) (e_var 3)) a_nil))) ?_
    show PyData.tuple [.int (((t : Nat) : Int) / ((Nat.gcd t l : Nat) : Int)), .int (((l : Nat) : Int) / ((Nat.gcd t l : Nat) : Int))] = encF (frac t l)
    rw [← Int.natCast_ediv, ← Int.natCast_ediv]
    rfl
/-! _law_fractions -/
theorem sc30 : FnScope ["low", "tops", "top"] ["low", "tops"] (defScope (topS 30)) := ⟨rfl, rfl, rfl, by decide +kernel, rfl, by decide +kernel, by decide +kernel⟩
def okFracs : List PD → SV → Prop := fun ds sv => ∃ l : Nat, ∃ ts : List Nat, 0 < l ∧ l < 18446744073709551616 ∧ ts.length ≤ 1000 ∧ (∀ t ∈ ts, t ≤ l) ∧ ds = [.int (l : Nat), .tuple (ts.map fun t => .int (t : Nat))] ∧ sv = .d (.tuple ((ts.map fun t => frac t l).map encF))
theorem law_fractions (z : Bt mg) (h1 : Knw P w K mg base CX0 1 "_law_fraction" ["top", "low"] (SpP K okFrac)) (F : Fun K "_law_fractions" "_law_fractions" (topS 30) f fd) : Gd P w K mg base CX0 2 f fd ["low", "tops"] (SpP K okFracs) := by
  refine okP F sc30 (fun ds sv ⟨_, _, _, _, _, _, e, _⟩ => by rw [e]; rfl) fun cdv A outer s H E B ds sv fm D0 ⟨l, ts, hl, hl2, hz, hts, e1, e2⟩ gu hr hC hw hn => ?_
  subst e1 e2
  refine r_retD hw (e_tupleL z.tuple (e_lcN (i := 2) (fun d => match d with | .int t => encF (frac t.toNat l) | _ => .none) rfl sc30.nd (i_tup (e_var 1)) (blkOk_by (own := [("top", 2)]) (N := ["low", "tops", "top"]) (sc := defScope (topS 30)) (by decide +kernel)) (fun _ _ _ _ _ => g_name 2 sc30.nd)
    (fun s' H' Cc cl fp D acc p hp => ?_) (by rw [List.length_map]; omega))) ?_
  · obtain ⟨t, ht, rfl⟩ := List.mem_map.mp hp
    exact e_callP h1 gu hr (by decide) (a_cons (e_var 2) (a_cons (e_var 0) a_nil)) ⟨t, l, Nat.lt_of_le_of_lt (hts t ht) hl2, hl, hl2, rfl, rfl⟩
  · rw [List.map_map, List.map_map]
    rfl
end
end Mo
namespace Wk
open PySem PySem.Spec PyProof.Rows L2
section
variable {X : Cx} {C : Ct} {L : Ls} {δ : Dl} {n m k : Nat}
theorem get_getD {α : Type} {l : List α} {k : Nat} (d : α) (h : k < l.length) : l[k]? = some (l.getD k d) := by
  rw [List.getElem?_eq_getElem h]
  simp [List.getD, h]
theorem pairsD_len (ds : List PD) : (pairsD ds).length = ds.length := by simp [pairsD]
theorem ixN_nat {n j : Nat} (h : j < n) : ixN n ((j : Nat) : Int) = some j := by
  unfold ixN
  rw [if_pos (by omega), if_pos (by omega)]
  simp
/-- xs.index(x), a list of ints that has it -/
theorem e_lindex {o a : Expr} {apos cpos : Pos} {ns : List Int} {y : Int} (ho : Ed X C L δ o n m (.list (ns.map PyData.int))) (ha : Ed X C L δ a m k (.int y)) (hm : y ∈ ns)
    (hbase : attributeBase o "index" X.env (eval o X.env) = eval o X.env := by rfl)
    (hfew : ((backTo cpos (starEach [a] X.env)).all (fun x => !x.1) && (backToKw cpos (keywordEach [] X.env)).all (fun x => x.1.isSome)
      && decide ([a].length + ([] : List Keyword).length + (if ([] : List Keyword).isEmpty then 0 else 1) < 30)) = true := by rfl)
    (hline : (apos.endLine == cpos.line) = true := by rfl) (hst : starEach [a] X.env = (false, eval a X.env) :: starEach [] X.env := by rfl) (hplain : (backTo cpos (starEach [] X.env)).any (·.1) = false := by rfl) :
    Ed X C L δ (.Call (.Attribute o "index" apos) [a] [] cpos) n k (.int ((ns.idxOf y : Nat) : Int)) :=
  PE.imp (pe_bm PySem.F.plainAttrs_list PySem.F.slot_list_index PySem.F.type_list_index mt_index ho (a_cons ha a_nil hst) hbase hfew hline hst hplain) fun σ H Q ⟨t, q⟩ => ⟨t, fun v H2 sv k1 h1 r1 sv1 => by
    subst r1
    have sv2 : Dv X.K (Bd C L) H2 v (.list (ns.map PyData.int)) := sv1
    cases sv1 with
    | @lst r xs _ rd g =>
      have e := g.ints
      subst e
      refine ⟨.inl ⟨rfl, _, rd.sq⟩, t.go k1 h1, fun vs H3 svs k2 h2 r2 s3 => ?_⟩
      subst r2
      obtain ⟨w, rfl, gw⟩ := DvAll.one s3
      cases gw
      have hi : ns.idxOf y < ns.length := List.idxOf_lt_length_iff.mpr hm
      refine ⟨r, ns.map V.int, .int y, ns.idxOf y, .int y, rfl, rfl, (rd.keep (k2.wider bs_bd)).sq, rfl, ?_, ?_, ?_, fun j z' hj hz => ?_, q _ H3 _ (k1.trans k2) h2 rfl (Dv.int _)⟩
      · rw [List.all_map, List.all_eq_true]
        exact fun _ _ => rfl
      · rw [List.getElem?_map, List.getElem?_eq_getElem hi, List.getElem_idxOf hi]
        rfl
      · show (y == y) = true
        exact beq_self_eq_true y
      · rw [List.getElem?_map] at hz
        have hj2 : j < ns.length := Nat.lt_trans hj hi
        rw [List.getElem?_eq_getElem hj2] at hz
        cases hz
        have ne := List.not_of_lt_findIdx (p := (· == y)) (xs := ns) hj
        show (ns[j] == y) = false
        simpa using ne⟩
end
end Wk
namespace Mo
open PySem PySem.Spec PyProof.Rows L2 Wk
section
variable {P : Program} {w : World} {K : PySem.W.Frag} {mg : Str → Option Value} {base : Heap} {f : Addr} {fd : FuncData}
/-! back_motion -/
theorem sc20 : FnScope ["sides", "one", "motions", "back", "end", "start", "turned"] ["sides", "one"] (defScope (topS 20)) := ⟨rfl, rfl, rfl, by decide +kernel, rfl, by decide +kernel, by decide +kernel⟩
def bk (s : Nat) (row : Mot) : Nat → List PD
  | 0 => List.replicate s .none
  | k + 1 => (bk s row k).set (row.getD k (0, false)).1 (encP (k, (row.getD k (0, false)).2))
def bm (s i : Nat) : Nat := (((tbl s).map encM).map fun z => PyData.eqv z (.tuple (bk s ((tbl s).getD i []) s))).idxOf true
def okBack : List PD → SV → Prop := fun ds sv => ∃ s i, (s = 1 ∨ s = 2) ∧ i < many s ∧ ds = [.int (s : Nat), .int (i : Nat)] ∧ sv = .d (.int (bm s i : Nat))
theorem bk_len {s : Nat} {row : Mot} : ∀ k, (bk s row k).length = s
  | 0 => List.length_replicate
  | k + 1 => by
    show ((bk s row k).set _ _).length = s
    rw [List.length_set, bk_len k]
theorem shaped_back {s i : Nat} (hs : s = 1 ∨ s = 2) (hi : i < many s) : SeqAt.shaped (.tuple (bk s ((tbl s).getD i []) s)) = true := by
  rcases hs with rfl | rfl
  · exact (show ∀ i, i < 2 → SeqAt.shaped (.tuple (bk 1 ((tbl 1).getD i []) 1)) = true by decide +kernel) i hi
  · exact (show ∀ i, i < 8 → SeqAt.shaped (.tuple (bk 2 ((tbl 2).getD i []) 2)) = true by decide +kernel) i hi
theorem back_in {s i : Nat} (hs : s = 1 ∨ s = 2) (hi : i < many s) : true ∈ ((tbl s).map encM).map (fun z => PyData.eqv z (.tuple (bk s ((tbl s).getD i []) s))) := by
  rcases hs with rfl | rfl
  · exact (show ∀ i, i < 2 → true ∈ ((tbl 1).map encM).map (fun z => PyData.eqv z (.tuple (bk 1 ((tbl 1).getD i []) 1))) by decide +kernel) i hi
  · exact (show ∀ i, i < 8 → true ∈ ((tbl 2).map encM).map (fun z => PyData.eqv z (.tuple (bk 2 ((tbl 2).getD i []) 2))) by decide +kernel) i hi
theorem back_motion {aT : Nat → Addr} (hT : Ts K aT) (z : Bt mg) (h1 : Knw P w K mg base CX0 3 "motions_for" ["sides"] (SpP K (okFor aT))) (h2 : Knw P w K mg base CX0 3 "check_motion" ["motions", "value"] (SpP K okCheck)) (F : Fun K "back_motion" "back_motion" (topS 20) f fd) :
    Gd P w K mg base CX0 4 f fd ["sides", "one"] (SpP K okBack) := by
  refine okP F sc20 (fun ds sv ⟨_, _, _, _, e, _⟩ => by rw [e]; rfl) fun cdv A outer s H E B ds sv fm D0 ⟨n, i, hs, hi, e1, e2⟩ gu hr hC hw hn => ?_
  subst e1 e2
  have kt := hT n hs
  have li : i < (tbl n).length := by rw [tbl_len hs]; exact hi
  have hrow := (tbl_row hs hi).1
  refine r_set 2 (e_callP h1 gu hr (by decide) (a_cons (e_var 0) a_nil) ⟨n, hs, rfl, rfl⟩) ?_ sc20.nd
  refine r_drop (e_callP h2 gu hr (by decide) (a_cons (e_kt kt (e_var 2)) (a_cons (e_var 1) a_nil)) ⟨_, i, rfl, by rw [List.length_map]; exact li, rfl⟩) ?_
  refine r_rep (z := ((n : Nat) : Int)) 3 e_non (e_var 0) (by rcases hs with rfl | rfl <;> decide) (fun D => ?_) sc20.nd
  refine r_for (tgd := .tup [.name 4, .tup [.name 5, .name 6]]) (ds := pairsD (((tbl n).getD i []).map encP))
    (fun k c => ∃ x1 x2 x3 : Option SV, c = ⟨[(D, bk n ((tbl n).getD i []) k)], [some (.d (.int (n : Nat))), some (.d (.int (i : Nat))), some (.v (.ref (aT n))), some (.v (.ref D)), x1, x2, x3], 0⟩)
    rfl PassesOwn.never (i_enT z.enumerate (e_ixT (e_kt kt (e_var 2)) (e_var 1) (at_tbl li))) (g_tup rfl (gs_cons (g_name 4 sc20.nd) (gs_cons (g_tup rfl (gs_cons (g_name 5 sc20.nd) (gs_cons (g_name 6 sc20.nd) gs_nil))) gs_nil))) ⟨none, none, none, rfl⟩ (fun k c ⟨x1, x2, x3, e⟩ => by rw [e]; rfl) ?_ ?_
  · rintro k d c H1 hd ⟨x1, x2, x3, rfl⟩
    have hk : k < (((tbl n).getD i [])).length := by
      have := (List.getElem?_eq_some_iff.mp hd).1
      simpa [pairsD] using this
    obtain ⟨p, hp⟩ : ∃ p, ((tbl n).getD i []).getD k (0, false) = p := ⟨_, rfl⟩
    have hpk : ((tbl n).getD i [])[k]? = some p := by rw [← hp]; exact get_getD _ hk
    have ed : d = .tuple [.int (k : Nat), encP p] := by
      simp only [pairsD, List.getElem?_mapIdx, List.getElem?_map, hpk] at hd
      exact (Option.some.inj hd).symm
    subst ed
    have hp1 := (tbl_row hs hi).2 p (List.mem_of_getElem? hpk)
    refine ⟨_, rfl, ?_⟩
    refine r_item (j := p.1) (e_tup (a_cons (e_var 4) (a_cons (e_var 6) a_nil))) (e_var 3) (e_var 5) (ixN_nat (by rw [bk_len]; exact hp1)) (r_end (J := _) ?_)
    have e1 : bk n ((tbl n).getD i []) (k + 1) = (bk n ((tbl n).getD i []) k).set p.1 (encP (k, p.2)) := by
      show (bk n ((tbl n).getD i []) k).set (((tbl n).getD i []).getD k (0, false)).1 (encP (k, (((tbl n).getD i []).getD k (0, false)).2)) = _
      rw [hp]
    rw [e1]
    exact ⟨_, _, _, rfl⟩
  · rintro c ⟨x1, x2, x3, rfl⟩
    have e1 : (pairsD (((tbl n).getD i []).map encP)).length = n := by rw [pairsD_len, List.length_map]; exact hrow
    rw [e1]
    exact r_retD hw (e_tindex hr kt (shaped_tbl hs) (e_var 2) (e_tupleM (ds := bk n ((tbl n).getD i []) n) List.mem_cons_self z.tuple (e_var 3)) (shaped_back hs hi) (back_in hs hi)) rfl
end
end Mo
namespace Mo
open PySem PySem.Spec PyProof.Rows L2 Wk
section
variable {P : Program} {w : World} {K : PySem.W.Frag} {mg : Str → Option Value} {base : Heap} {f : Addr} {fd : FuncData}
/-! _law_probed -/
theorem sc31 : FnScope ["sides", "one", "other", "some", "motion", "tops"] ["sides", "one", "other"] (defScope (topS 31)) := ⟨rfl, rfl, rfl, by decide +kernel, rfl, by decide +kernel, by decide +kernel⟩
def probes (s : Nat) : List (List Int) := if s = 1 then [[0], [1]] else [[0, 0], [1, 0], [0, 2]]
def encT (ts : List Int) : PD := .tuple (ts.map PyData.int)
def hit (i j m : Nat) (ts : List Int) : Bool := PyData.eqv (encT (led m 5 ts)) (encT (led j 5 (led i 5 ts)))
theorem all_mapA {α : Type} (l : List α) (g : α → Bool) : (l.map g).all id = l.all g := by
  rw [List.all_map]
  rfl
theorem hit_all {s i j m : Nat} (hs : s = 1 ∨ s = 2) (hi : i < many s) (hj : j < many s) (hm : m < many s) : (probes s).all (hit i j m) = decide (m = jm s i j) := by
  rcases hs with rfl | rfl
  · exact (show ∀ i, i < 2 → ∀ j, j < 2 → ∀ m, m < 2 → (probes 1).all (hit i j m) = decide (m = jm 1 i j) by decide +kernel) i hi j hj m hm
  · exact (show ∀ i, i < 8 → ∀ j, j < 8 → ∀ m, m < 8 → (probes 2).all (hit i j m) = decide (m = jm 2 i j) by decide +kernel) i hi j hj m hm
theorem jm_lt {s i j : Nat} (hs : s = 1 ∨ s = 2) (hi : i < many s) (hj : j < many s) : jm s i j < many s := by
  rcases hs with rfl | rfl
  · exact (show ∀ i, i < 2 → ∀ j, j < 2 → jm 1 i j < 2 by decide +kernel) i hi j hj
  · exact (show ∀ i, i < 8 → ∀ j, j < 8 → jm 2 i j < 8 by decide +kernel) i hi j hj
theorem led_len {i : Nat} {low : Int} {ts : List Int} (h : ts.length = 1 ∨ ts.length = 2) : (led i low ts).length = ts.length := by
  match ts, h with
  | [t], _ =>
    show (if i = 1 then [low - t] else [t]).length = 1
    split <;> rfl
  | [t, u], _ => rfl
theorem probe_len {s : Nat} (hs : s = 1 ∨ s = 2) : ∀ ts ∈ probes s, ts.length = 1 ∨ ts.length = 2 := by
  rcases hs with rfl | rfl
  · decide
  · decide
theorem shaped_ints (ts : List Int) : SeqAt.shaped (encT ts) = true := by
  have h : PyData.canLayAll0 (ts.map PyData.int) = true := by
    induction ts with
    | nil => rfl
    | cons t ts ih =>
      show (PyData.canLay0 (.int t) && PyData.canLayAll0 (ts.map PyData.int)) = true
      rw [ih]
      rfl
  show (PyData.canLay0 (.tuple (ts.map PyData.int)) && decide ((PyData.tuple (ts.map PyData.int)).depth ≤ 64)) = true
  rw [Bool.and_eq_true]
  refine ⟨by simp only [PyData.canLay0]; exact h, decide_eq_true ?_⟩
  show PyData.depthAll (ts.map PyData.int) + 1 ≤ 64
  rw [ints_depth]
  decide
def okProbed : List PD → SV → Prop := fun ds sv => ∃ s i j, (s = 1 ∨ s = 2) ∧ i < many s ∧ j < many s ∧ ds = [.int (s : Nat), .int (i : Nat), .int (j : Nat)] ∧ sv = .d (.int (jm s i j : Nat))
theorem many_if {X : Cx} {C : Ct} {L : Ls} {δ : Dl} {c : Expr} {p1 p2 p : Pos} {j1 j2 : Nat} {s k : Nat} (hs : s = 1 ∨ s = 2) (h : T X C L δ c k k (decide (((s : Nat) : Int) = 2))) : Ed X C L δ (.IfExp c (.Constant (.int 8) j1 p1) (.Constant (.int 2) j2 p2) p) k k (.int (many s : Nat)) := by
  rcases hs with rfl | rfl
  · exact e_if h (fun h => absurd h (by decide)) (fun _ => e_int)
  · exact e_if h (fun _ => e_int) (fun h => absurd h (by decide))
theorem law_probed (z : Bt mg) (h1 : Knw P w K mg base CX0 1 "_law_led" ["motion", "low", "tops"] (SpP K okLed)) (F : Fun K "_law_probed" "_law_probed" (topS 31) f fd) : Gd P w K mg base CX0 2 f fd ["sides", "one", "other"] (SpP K okProbed) := by
  refine okP F sc31 (fun ds sv ⟨_, _, _, _, _, _, e, _⟩ => by rw [e]; rfl) fun cdv A outer s H E B ds sv fm D0 ⟨n, i, j, hs, hi, hj, e1, e2⟩ gu hr hC hw hn => ?_
  subst e1 e2
  have mn : many n ≤ 8 := by rcases hs with rfl | rfl <;> decide
  refine r_set (m := 0) (sv := .d (.list ((probes n).map encT))) 3 ?_ ?_ sc31.nd
  · rcases hs with rfl | rfl
    · exact e_if (m := 0) (t_eqI (e_var 0) e_int) (fun h => absurd h (by decide)) (fun _ => e_lst (a_cons (e_tup (a_cons e_int a_nil)) (a_cons (e_tup (a_cons e_int a_nil)) a_nil)))
    · exact e_if (m := 0) (t_eqI (e_var 0) e_int) (fun _ => e_lst (a_cons (e_tup (a_cons e_int (a_cons e_int a_nil))) (a_cons (e_tup (a_cons e_int (a_cons e_int a_nil))) (a_cons (e_tup (a_cons e_int (a_cons e_int a_nil))) a_nil)))) (fun h => absurd h (by decide))
  refine r_for (tgd := .name 4) (ds := rangeD 0 (((many n : Nat) : Int)).toNat)
    (fun k c => k ≤ jm n i j ∧ ∃ x1 x2 : Option SV, c = ⟨[], [some (.d (.int (n : Nat))), some (.d (.int (i : Nat))), some (.d (.int (j : Nat))), some (.d (.list ((probes n).map encT))), x1, x2], 0⟩)
    rfl PassesOwn.never (i_range z.range (many_if hs (t_eqI (e_var 0) e_int)) ⟨by omega, by omega⟩) (g_name 4 sc31.nd) ⟨Nat.zero_le _, none, none, rfl⟩ (fun k c ⟨_, x1, x2, e⟩ => by rw [e]) ?_ ?_
  · rintro k d c H1 hd ⟨hk, x1, x2, rfl⟩
    have hk2 : k < many n := by
      have := (List.getElem?_eq_some_iff.mp hd).1
      simpa [rangeD] using this
    have ed : d = .int (k : Nat) := by
      simp only [rangeD, List.getElem?_map, List.getElem?_range (show k < (((many n : Nat) : Int)).toNat by omega)] at hd
      have := (Option.some.inj hd).symm
      rw [this]
      show PyData.int (0 + ((k : Nat) : Int)) = _
      rw [Int.zero_add]
    subst ed
    refine ⟨_, rfl, ?_⟩
    refine r_ifR (u := ((probes n).map (hit i j k)).all id) (t_val (e_all rfl z.all (e_eq (e_lcM (i := 5) (l := probes n) (g := encT) (fun ts => .bool (hit i j k ts)) rfl sc31.nd (i_list (e_var 3)) (blkOk_by (own := [("tops", 5)]) (N := ["sides", "one", "other", "some", "motion", "tops"]) (sc := defScope (topS 31)) (by decide +kernel)) (fun _ _ _ _ _ => g_name 5 sc31.nd)
      (fun s' H' Cc cl fp D acc ts hts => ?_) (by rcases hs with rfl | rfl <;> decide)) (by rw [List.map_map]; rfl)))) (fun hu => ?_) (fun hu => r_end (J := _) ?_)
    · have hl := probe_len hs ts hts
      refine e_eqD hr (shaped_ints _) (shaped_ints _) (e_callP h1 gu hr (by decide) (a_cons (e_var 4) (a_cons e_int (a_cons (e_var 5) a_nil))) ⟨k, 5, ts, hl, by omega, rfl, rfl⟩)
        (e_callP h1 gu hr (by decide) (a_cons (e_var 2) (a_cons e_int (a_cons (e_callP h1 gu hr (by decide) (a_cons (e_var 1) (a_cons e_int (a_cons (e_var 5) a_nil))) ⟨i, 5, ts, hl, by omega, rfl, rfl⟩) a_nil))) ⟨j, 5, led i 5 ts, by rw [led_len hl]; exact hl, by omega, rfl, rfl⟩)
    · rw [all_mapA, hit_all hs hi hj hk2] at hu
      have e := of_decide_eq_true hu
      refine r_retD hw.add (e_var 4) ?_
      rw [e]
    · rw [all_mapA, hit_all hs hi hj hk2] at hu
      have e := of_decide_eq_false hu
      exact ⟨by omega, _, _, rfl⟩
  · rintro c ⟨hk, x1, x2, rfl⟩
    have h1 := jm_lt hs hi hj
    have h2 : (rangeD 0 (((many n : Nat) : Int)).toNat).length = many n := by simp [rangeD]
    omega
/-! _law_are_pairs_right -/
theorem sc32 : FnScope ["sides", "motions", "one", "due", "other"] ["sides"] (defScope (topS 32)) := ⟨rfl, rfl, rfl, by decide +kernel, rfl, by decide +kernel, by decide +kernel⟩
def row (s i : Nat) : List Int := (List.range (many s)).map fun j => ((jm s i j : Nat) : Int)
def okPairs : List PD → SV → Prop := fun ds sv => ∃ s, (s = 1 ∨ s = 2) ∧ ds = [.int (s : Nat)] ∧ sv = .d (.bool true)
theorem row_zero {s i : Nat} (hs : s = 1 ∨ s = 2) (hi : i < many s) : (0 : Int) ∈ row s i ∧ bm s i = (row s i).idxOf 0 := by
  rcases hs with rfl | rfl
  · exact (show ∀ i, i < 2 → (0 : Int) ∈ row 1 i ∧ bm 1 i = (row 1 i).idxOf 0 by decide +kernel) i hi
  · exact (show ∀ i, i < 8 → (0 : Int) ∈ row 2 i ∧ bm 2 i = (row 2 i).idxOf 0 by decide +kernel) i hi
theorem range_map (n : Nat) : rangeD 0 n = (List.range n).map fun j => PyData.int (j : Nat) := by
  unfold rangeD
  congr 1
  funext j
  rw [Int.zero_add]
theorem law_pairs {aT : Nat → Addr} (z : Bt mg) (h1 : Knw P w K mg base CX0 2 "_law_probed" ["sides", "one", "other"] (SpP K okProbed)) (h2 : Knw P w K mg base CX0 4 "joint_motion" ["sides", "one", "other"] (SpP K okJoint)) (h3 : Knw P w K mg base CX0 4 "back_motion" ["sides", "one"] (SpP K okBack))
    (F : Fun K "_law_are_pairs_right" "_law_are_pairs_right" (topS 32) f fd) : Gd P w K mg base CX0 5 f fd ["sides"] (SpP K okPairs) := by
  refine okP F sc32 (fun ds sv ⟨_, _, e, _⟩ => by rw [e]; rfl) fun cdv A outer s H E B ds sv fm D0 ⟨n, hs, e1, e2⟩ gu hr hC hw hn => ?_
  subst e1 e2
  have mn : many n ≤ 8 := by rcases hs with rfl | rfl <;> decide
  have tn : (((many n : Nat) : Int)).toNat = many n := by omega
  refine r_set (sv := .d (.list ((List.range (many n)).map fun j => PyData.int (j : Nat)))) 1 (e_eq (e_listRg z rfl ⟨by omega, by omega⟩ (many_if hs (t_eqI (e_var 0) e_int))) (by rw [tn, range_map])) ?_ sc32.nd
  refine r_for (tgd := .name 2) (ds := (List.range (many n)).map fun j => PyData.int (j : Nat))
    (fun k c => ∃ x1 x2 x3 : Option SV, c = ⟨[], [some (.d (.int (n : Nat))), some (.d (.list ((List.range (many n)).map fun j => PyData.int (j : Nat)))), x1, x2, x3], 0⟩)
    rfl PassesOwn.never (i_list (e_var 1)) (g_name 2 sc32.nd) ⟨none, none, none, rfl⟩ (fun k c ⟨x1, x2, x3, e⟩ => by rw [e]) ?_ ?_
  · rintro k d c H1 hd ⟨x1, x2, x3, rfl⟩
    have hk : k < many n := by
      have := (List.getElem?_eq_some_iff.mp hd).1
      simpa using this
    have ed : d = .int (k : Nat) := by
      rw [List.getElem?_map, List.getElem?_range hk] at hd
      exact (Option.some.inj hd).symm
    subst ed
    refine ⟨_, rfl, ?_⟩
    have small : ∀ y ∈ row n k, y.natAbs < 2 ^ 900 := fun y hy => by
      obtain ⟨j, hj, rfl⟩ := List.mem_map.mp hy
      have := jm_lt hs hk (List.mem_range.mp hj)
      exact Nat.lt_of_lt_of_le (show _ < 8 by omega) (by decide +kernel)
    have rl : (row n k).length ≤ 1000 := by
      unfold row
      rw [List.length_map, List.length_range]
      omega
    have e3 : ((List.range (many n)).map fun j => PyData.int ((jm n k j : Nat) : Int)) = (row n k).map PyData.int := by
      unfold row
      rw [List.map_map]
      rfl
    refine r_lcM 3 (i := 4) (l := List.range (many n)) (g := fun j => PyData.int (j : Nat)) (fun j => .int ((jm n k j : Nat) : Int)) rfl sc32.nd (i_list (e_var 1)) (blkOk_by (own := [("other", 4)]) (N := ["sides", "motions", "one", "due", "other"]) (sc := defScope (topS 32)) (by decide +kernel)) (fun _ _ _ _ _ => g_name 4 sc32.nd)
      (fun s' H' Cc cl fp D acc j hj => e_callP h1 gu hr (by decide) (a_cons (e_var 0) (a_cons (e_var 2) (a_cons (e_var 4) a_nil))) ⟨n, k, j, hs, hk, List.mem_range.mp hj, rfl, rfl⟩) (by rw [List.length_range]; omega) ?_
    rw [e3]
    refine r_ifF (t_neS (e_repr z gu hr (d := .list ((row n k).map PyData.int)) (showy_list small rl) (e_eq (e_lcM (i := 4) (l := List.range (many n)) (g := fun j => PyData.int (j : Nat)) (fun j => .int ((jm n k j : Nat) : Int)) rfl sc32.nd (i_list (e_var 1)) (blkOk_by (own := [("other", 4)]) (N := ["sides", "motions", "one", "due", "other"]) (sc := defScope (topS 32)) (by decide +kernel)) (fun _ _ _ _ _ => g_name 4 sc32.nd)
      (fun s' H' Cc cl fp D acc j hj => e_callP h2 gu hr (by decide) (a_cons (e_var 0) (a_cons (e_var 2) (a_cons (e_var 4) a_nil))) ⟨n, k, j, hs, hk, List.mem_range.mp hj, rfl, rfl⟩) (by rw [List.length_range]; omega)) (by rw [e3]))) (e_repr z gu hr (showy_list small rl) (e_var 3))) (by rw [decide_eq_true rfl]; rfl) ?_
    have bz := row_zero hs hk
    have bs : ((((row n k).idxOf 0 : Nat) : Int)).natAbs < 2 ^ 900 := Nat.lt_of_le_of_lt (show _ ≤ 1000 by have := List.idxOf_le_length (l := row n k) (a := 0); omega) (by decide +kernel)
    refine r_ifF (t_neS (e_repr z gu hr (d := .int (((row n k).idxOf 0 : Nat) : Int)) (showy_int bs) (e_callP h3 gu hr (by decide) (a_cons (e_var 0) (a_cons (e_var 2) a_nil)) ⟨n, k, hs, hk, rfl, by rw [bz.2]⟩)) (e_repr z gu hr (showy_int bs) (e_lindex (ns := row n k) (e_var 3) e_int bz.1))) (by rw [decide_eq_true rfl]; rfl) (r_end (J := _) ⟨_, _, _, rfl⟩)
  · rintro c ⟨x1, x2, x3, rfl⟩
    exact r_retD hw e_bl rfl
end
end Mo
namespace Mo
open PySem PySem.Spec PyProof.Rows L2 Wk
/-! ### where motions lead -/
def ledT (s i : Nat) (low : Int) (ts : List Int) : List Int := ((tbl s).getD i []).map fun p => let q := ts.getD p.1 0; if p.2 then low - q else q
theorem ce_led (s i : Nat) (z : Int) (cs : List Int) : ceU s i z cs = ledT s i (z - 1) cs := rfl
theorem led_eq {s i : Nat} (hs : s = 1 ∨ s = 2) (hi : i < many s) (low : Int) (ts : List Int) (hl : ts.length = s) : led i low ts = ledT s i low ts := by
  rcases hs with rfl | rfl
  · match ts, hl with
    | [t], _ =>
      have h : i = 0 ∨ i = 1 := by
        have : i < 2 := hi
        omega
      rcases h with rfl | rfl <;> rfl
  · match ts, hl with
    | [t, u], _ =>
      have h : i = 0 ∨ i = 1 ∨ i = 2 ∨ i = 3 ∨ i = 4 ∨ i = 5 ∨ i = 6 ∨ i = 7 := by
        have : i < 8 := hi
        omega
      have h2 : ∀ a : Int, low - (low - a) = a := fun a => by omega
      rcases h with rfl | rfl | rfl | rfl | rfl | rfl | rfl | rfl
      · rfl
      · rfl
      · rfl
      · show [low - (low - u), low - t] = [u, low - t]
        rw [h2]
      · rfl
      · rfl
      · show [low - (low - t), low - u] = [t, low - u]
        rw [h2]
      · show [low - (low - u), low - (low - t)] = [u, t]
        rw [h2, h2]
theorem tbl_jm {s i j : Nat} (hs : s = 1 ∨ s = 2) (hi : i < many s) (hj : j < many s) : (tbl s).getD (jm s i j) [] = joint s i j := by
  rcases hs with rfl | rfl
  · exact (show ∀ i, i < 2 → ∀ j, j < 2 → (tbl 1).getD (jm 1 i j) [] = joint 1 i j by decide +kernel) i hi j hj
  · exact (show ∀ i, i < 8 → ∀ j, j < 8 → (tbl 2).getD (jm 2 i j) [] = joint 2 i j by decide +kernel) i hi j hj
theorem bm_fits {s i : Nat} (hs : s = 1 ∨ s = 2) (hi : i < many s) : bm s i < many s ∧ jm s i (bm s i) = 0 := by
  rcases hs with rfl | rfl
  · exact (show ∀ i, i < 2 → bm 1 i < 2 ∧ jm 1 i (bm 1 i) = 0 by decide +kernel) i hi
  · exact (show ∀ i, i < 8 → bm 2 i < 8 ∧ jm 2 i (bm 2 i) = 0 by decide +kernel) i hi
theorem ledT_len {s i : Nat} (hs : s = 1 ∨ s = 2) (hi : i < many s) (low : Int) (ts : List Int) : (ledT s i low ts).length = s := by
  unfold ledT
  rw [List.length_map]
  exact (tbl_row hs hi).1
theorem getD_map {α β : Type} {l : List α} {g : α → β} {k : Nat} (d : β) (e : α) (h : k < l.length) : (l.map g).getD k d = g (l.getD k e) := by
  simp [List.getD, h]
theorem led_joint {s i j : Nat} (hs : s = 1 ∨ s = 2) (hi : i < many s) (hj : j < many s) (low : Int) (ts : List Int) : ledT s (jm s i j) low ts = ledT s j low (ledT s i low ts) := by
  have e : ledT s (jm s i j) low ts = (joint s i j).map fun p => let q := ts.getD p.1 0; if p.2 then low - q else q := by
    unfold ledT
    rw [tbl_jm hs hi hj]
  rw [e]
  unfold joint
  rw [List.map_map]
  show _ = ((tbl s).getD j []).map _
  apply List.map_congr_left
  intro p hp
  have hp1 := (tbl_row hs hj).2 p hp
  have hr := (tbl_row hs hi).1
  show (if (((tbl s).getD i []).getD p.1 (0, false)).2 != p.2 then low - ts.getD (((tbl s).getD i []).getD p.1 (0, false)).1 0 else ts.getD (((tbl s).getD i []).getD p.1 (0, false)).1 0) = (if p.2 then low - (ledT s i low ts).getD p.1 0 else (ledT s i low ts).getD p.1 0)
  have e2 : (ledT s i low ts).getD p.1 0 = (if (((tbl s).getD i []).getD p.1 (0, false)).2 then low - ts.getD (((tbl s).getD i []).getD p.1 (0, false)).1 0 else ts.getD (((tbl s).getD i []).getD p.1 (0, false)).1 0) := by
    unfold ledT
    rw [getD_map 0 (0, false) (by rw [hr]; exact hp1)]
  rw [e2]
  generalize (((tbl s).getD i []).getD p.1 (0, false)) = q
  generalize ts.getD q.1 0 = t
  cases q.2 <;> cases p.2
  · rfl
  · rfl
  · rfl
  · show t = low - (low - t)
    omega
theorem led_zero {s : Nat} (hs : s = 1 ∨ s = 2) (low : Int) (ts : List Int) (hl : ts.length = s) : ledT s 0 low ts = ts := by
  rcases hs with rfl | rfl
  · match ts, hl with
    | [t], _ => rfl
  · match ts, hl with
    | [t, u], _ => rfl
theorem led_in {s i : Nat} (hs : s = 1 ∨ s = 2) (hi : i < many s) {low : Int} {ts : List Int} (hl : ts.length = s) (h : ∀ t ∈ ts, 0 ≤ t ∧ t ≤ low) : ∀ t ∈ ledT s i low ts, 0 ≤ t ∧ t ≤ low := by
  intro t ht
  obtain ⟨p, hp, rfl⟩ := List.mem_map.mp ht
  have hp1 := (tbl_row hs hi).2 p hp
  have hm : ts.getD p.1 0 ∈ ts := by
    have := get_getD (l := ts) (k := p.1) 0 (by rw [hl]; exact hp1)
    exact List.mem_of_getElem? this
  have hb := h _ hm
  show 0 ≤ (if p.2 then low - ts.getD p.1 0 else ts.getD p.1 0) ∧ (if p.2 then low - ts.getD p.1 0 else ts.getD p.1 0) ≤ low
  generalize ts.getD p.1 0 = u at hb ⊢
  cases p.2
  · exact hb
  · show 0 ≤ low - u ∧ low - u ≤ low
    omega
/-! fractions -/
def fracI (t l : Int) : Fr2 := frac t.toNat l.toNat
theorem gcd_rest {t l : Nat} (h : t ≤ l) : Nat.gcd (l - t) l = Nat.gcd t l := by
  apply Nat.dvd_antisymm
  · apply Nat.dvd_gcd
    · have h1 := Nat.gcd_dvd_right (l - t) l
      have h2 := Nat.gcd_dvd_left (l - t) l
      have := Nat.dvd_sub h1 h2
      rwa [Nat.sub_sub_self h] at this
    · exact Nat.gcd_dvd_right _ _
  · apply Nat.dvd_gcd
    · exact Nat.dvd_sub (Nat.gcd_dvd_right t l) (Nat.gcd_dvd_left t l)
    · exact Nat.gcd_dvd_right _ _
theorem frac_rest {t l : Int} (h0 : 0 ≤ t) (h1 : t ≤ l) (hl : 0 < l) : fracI (l - t) l = ((fracI t l).2 - (fracI t l).1, (fracI t l).2) := by
  obtain ⟨a, rfl⟩ : ∃ a : Nat, t = (a : Nat) := ⟨t.toNat, by omega⟩
  obtain ⟨b, rfl⟩ : ∃ b : Nat, l = (b : Nat) := ⟨l.toNat, by omega⟩
  have hab : a ≤ b := by omega
  have e1 : (((b : Nat) : Int) - ((a : Nat) : Int)).toNat = b - a := by omega
  unfold fracI
  rw [e1, Int.toNat_natCast, Int.toNat_natCast]
  unfold frac
  rw [gcd_rest hab]
  have hg : 0 < Nat.gcd a b := Nat.gcd_pos_of_pos_right _ (by omega)
  obtain ⟨x, hx⟩ := Nat.gcd_dvd_left a b
  obtain ⟨y, hy⟩ := Nat.gcd_dvd_right a b
  have q1 : a / Nat.gcd a b = x := by
    rw [Nat.div_eq_iff_eq_mul_right hg (Nat.gcd_dvd_left a b)]
    exact hx
  have q2 : b / Nat.gcd a b = y := by
    rw [Nat.div_eq_iff_eq_mul_right hg (Nat.gcd_dvd_right a b)]
    exact hy
  have q3 : (b - a) / Nat.gcd a b = y - x := by
    rw [Nat.div_eq_iff_eq_mul_right hg (Nat.dvd_sub (Nat.gcd_dvd_right a b) (Nat.gcd_dvd_left a b)), Nat.mul_sub, ← hx, ← hy]
  have hxy : x ≤ y := by
    rw [← q1, ← q2]
    exact Nat.div_le_div_right hab
  rw [q1, q2, q3]
  show ((((y - x : Nat)) : Int), ((y : Nat) : Int)) = (((y : Nat) : Int) - ((x : Nat) : Int), ((y : Nat) : Int))
  rw [Int.ofNat_sub hxy]
theorem pt_led {s i : Nat} (hs : s = 1 ∨ s = 2) (hi : i < many s) {low : Int} {ts : List Int} (hl : ts.length = s) (h : ∀ t ∈ ts, 0 ≤ t ∧ t ≤ low) (h0 : 0 < low) : ptU s i (ts.map fun t => fracI t low) = (ledT s i low ts).map fun t => fracI t low := by
  unfold ptU ledT
  rw [List.map_map]
  apply List.map_congr_left
  intro p hp
  have hp1 := (tbl_row hs hi).2 p hp
  have hm : ts.getD p.1 0 ∈ ts := List.mem_of_getElem? (get_getD (l := ts) (k := p.1) 0 (by rw [hl]; exact hp1))
  have hb := h _ hm
  show (if p.2 then ((ts.map fun t => fracI t low).getD p.1 (0, 1)).2 - ((ts.map fun t => fracI t low).getD p.1 (0, 1)).1 else ((ts.map fun t => fracI t low).getD p.1 (0, 1)).1, ((ts.map fun t => fracI t low).getD p.1 (0, 1)).2) = fracI (if p.2 then low - ts.getD p.1 0 else ts.getD p.1 0) low
  rw [getD_map (0, 1) 0 (by rw [hl]; exact hp1)]
  cases p.2
  · rfl
  · show ((fracI (ts.getD p.1 0) low).2 - (fracI (ts.getD p.1 0) low).1, (fracI (ts.getD p.1 0) low).2) = fracI (low - ts.getD p.1 0) low
    rw [frac_rest hb.1 hb.2 h0]
theorem frac_ok {t l : Int} (h0 : 0 ≤ t) (h1 : t ≤ l) (hl : 0 < l) : frIn (encF (fracI t l)) 0 1 = true ∧ 0 ≤ (fracI t l).1 ∧ (fracI t l).1 ≤ l ∧ 0 ≤ (fracI t l).2 ∧ (fracI t l).2 ≤ l := by
  obtain ⟨a, rfl⟩ : ∃ a : Nat, t = (a : Nat) := ⟨t.toNat, by omega⟩
  obtain ⟨b, rfl⟩ : ∃ b : Nat, l = (b : Nat) := ⟨l.toNat, by omega⟩
  unfold fracI
  rw [Int.toNat_natCast, Int.toNat_natCast]
  have hg : 0 < Nat.gcd a b := Nat.gcd_pos_of_pos_right _ (by omega)
  have c1 : Nat.gcd (a / Nat.gcd a b) (b / Nat.gcd a b) = 1 := Nat.gcd_div_gcd_div_gcd_of_pos_right (by omega)
  have le1 : a / Nat.gcd a b ≤ b / Nat.gcd a b := Nat.div_le_div_right (by omega)
  have pos : 1 ≤ b / Nat.gcd a b := (Nat.le_div_iff_mul_le hg).mpr (by rw [Nat.one_mul]; exact Nat.le_of_dvd (by omega) (Nat.gcd_dvd_right a b))
  have d1 := Nat.div_le_self a (Nat.gcd a b)
  have d2 := Nat.div_le_self b (Nat.gcd a b)
  unfold frac
  show frIn (encF (((a / Nat.gcd a b : Nat) : Int), ((b / Nat.gcd a b : Nat) : Int))) 0 1 = true ∧ 0 ≤ ((a / Nat.gcd a b : Nat) : Int) ∧ ((a / Nat.gcd a b : Nat) : Int) ≤ ((b : Nat) : Int) ∧ 0 ≤ ((b / Nat.gcd a b : Nat) : Int) ∧ ((b / Nat.gcd a b : Nat) : Int) ≤ ((b : Nat) : Int)
  generalize a / Nat.gcd a b = x at c1 le1 d1 ⊢
  generalize b / Nat.gcd a b = y at c1 le1 pos d2 ⊢
  refine ⟨?_, by omega, by omega, by omega, by omega⟩
  show (((decide ((1 : Int) ≤ ((y : Nat) : Int))) && decide (((Nat.gcd ((x : Nat) : Int).natAbs ((y : Nat) : Int).natAbs : Nat) : Int) = 1)) && (decide ((0 : Int) * ((y : Nat) : Int) ≤ ((x : Nat) : Int)) && decide (((x : Nat) : Int) ≤ (1 : Int) * ((y : Nat) : Int)))) = true
  rw [Int.natAbs_natCast, Int.natAbs_natCast, c1, decide_eq_true (show (1 : Int) ≤ ((y : Nat) : Int) by omega), decide_eq_true (show (((1 : Nat) : Int)) = 1 by rfl), decide_eq_true (show (0 : Int) * ((y : Nat) : Int) ≤ ((x : Nat) : Int) by omega), decide_eq_true (show ((x : Nat) : Int) ≤ (1 : Int) * ((y : Nat) : Int) by omega)]
  rfl
theorem pts_bulk : ∀ pts : List Fr2, PyData.bulkAll (pts.map encF) = 3 * pts.length
  | [] => rfl
  | p :: pts => by
    show (0 + 1 + (0 + 1 + 0)) + 1 + PyData.bulkAll (pts.map encF) = 3 * (pts.length + 1)
    rw [pts_bulk pts]
    omega
theorem pts_depth : ∀ pts : List Fr2, PyData.depthAll (pts.map encF) ≤ 1
  | [] => Nat.zero_le _
  | p :: pts => by
    show max (max 0 (max 0 0) + 1) (PyData.depthAll (pts.map encF)) ≤ 1
    exact Nat.max_le.mpr ⟨Nat.le_refl _, pts_depth pts⟩
theorem showy_pts {pts : List Fr2} (h : ∀ q ∈ pts, q.1.natAbs < 2 ^ 900 ∧ q.2.natAbs < 2 ^ 900) (hz : pts.length ≤ 1000) : Showy (.tuple (pts.map encF)) := by
  refine showy (PlAll.of fun d hd => ?_) ?_ ?_
  · obtain ⟨q, hq, rfl⟩ := List.mem_map.mp hd
    exact ⟨log_small (h q hq).1, log_small (h q hq).2, trivial⟩
  · show PyData.bulkAll (pts.map encF) ≤ _
    rw [pts_bulk]
    omega
  · show PyData.depthAll (pts.map encF) + 1 ≤ _
    have := pts_depth pts
    omega
end Mo
namespace Wk
open PySem PySem.Spec PyProof.Rows L2
section
variable {X : Cx} {F : Fm} {L : Ls} {δ : Dl} {n m k : Nat} {D0 : Ends} {rest : List Stmt} {x : Str} {pos q p : Pos}
/-- a, b, c = x, y, z (no tuple is made) -/
theorem r_par3 {R : List SV → Prop} {y u : Str} {px py pu pt pt2 : Pos} {kt k2 : Nat} {a b c : Expr} (i j l : Nat) (hc : X.calm = true) (hN : X.N.Nodup) (hij : i ≠ j) (hil : i ≠ l) (hjl : j ≠ l) (ha : Ar X F.C L δ [a, b, c] n m R)
    (g : ∀ svs, R svs → ∃ e1 e2 e3, svs = [e1, e2, e3] ∧ Bk X F ⟨L, ((δ.set i (some e1)).set j (some e2)).set l (some e3), m⟩ D0 rest)
    (hi : X.N[i]? = some x := by rfl) (hj : X.N[j]? = some y := by rfl) (hl : X.N[l]? = some u := by rfl) (hx : X.env.scope.names.lookup x = some .local := by rfl) (hy : X.env.scope.names.lookup y = some .local := by rfl) (hu : X.env.scope.names.lookup u = some .local := by rfl)
    (hw : swappedStores [.Tuple [.Name x px, .Name y py, .Name u pu] kt pt] (.Tuple [a, b, c] k2 pt2) X.env = pure (some [x, y, u]) := by rfl) (hs : swapsWithSole [.Tuple [.Name x px, .Name y py, .Name u pu] kt pt] (.Tuple [a, b, c] k2 pt2) pos.line X.env = pure false := by rfl) :
    Bk X F ⟨L, δ, n⟩ D0 (.Assign [.Tuple [.Name x px, .Name y py, .Name u pu] kt pt] (.Tuple [a, b, c] k2 pt2) pos :: rest) :=
  r_cons (fun c' => Bk X F c' D0 rest) (PS.imp (ps_par3 hc hN hi hj hl hij hil hjl hx hy hu ha hw hs) fun D σ H ⟨le, ii⟩ => ⟨ii.at_, fun vs H2 svs k1 h1 r1 s1 => by
    obtain ⟨e1, e2, e3, rfl, hb⟩ := g svs r1
    cases s1 with
    | cons s2 s1 =>
      cases s1 with
      | cons s3 s1 =>
        cases s1 with
        | cons s4 s1 =>
          cases s1
          have i2 := ii.go k1 h1
          exact ⟨_, _, _, rfl, le.nx _ _ ⟨_, hb, i2.an, i2.fr, ((i2.at_.sl.set s2).set s3).set s4, h1⟩⟩⟩) fun c' h => h
end
end Wk
namespace Mo
open PySem PySem.Spec PyProof.Rows L2 Wk
section
variable {P : Program} {w : World} {K : PySem.W.Frag} {mg : Str → Option Value} {base : Heap} {f : Addr} {fd : FuncData}
theorem okFracs_int {low : Int} {ts : List Int} (h0 : 0 < low) (h1 : low < 18446744073709551616) (hz : ts.length ≤ 1000) (h : ∀ t ∈ ts, 0 ≤ t ∧ t ≤ low) : okFracs [.int low, .tuple (ts.map PyData.int)] (.d (.tuple ((ts.map fun t => fracI t low).map encF))) := by
  obtain ⟨l, rfl⟩ : ∃ l : Nat, low = (l : Nat) := ⟨low.toNat, by omega⟩
  have e : ∃ us : List Nat, ts = us.map fun u => ((u : Nat) : Int) := by
    clear hz
    induction ts with
    | nil => exact ⟨[], rfl⟩
    | cons t ts ih =>
      obtain ⟨us, e⟩ := ih fun u hu => h u (List.mem_cons_of_mem _ hu)
      have := h t List.mem_cons_self
      exact ⟨t.toNat :: us, by rw [e, List.map_cons, show ((t.toNat : Nat) : Int) = t by omega]⟩
  obtain ⟨us, rfl⟩ := e
  refine ⟨l, us, by omega, by omega, by rw [List.length_map] at hz; exact hz, fun t ht => ?_, ?_, ?_⟩
  · have := h _ (List.mem_map.mpr ⟨t, ht, rfl⟩)
    omega
  · rw [List.map_map]
    rfl
  · simp only [List.map_map]
    rfl
/-- one tuple of draws -/
def Drawn (s : Nat) (u : Int) (ds : List PD) : Prop := ∃ ts : List Int, ds = ts.map PyData.int ∧ ts.length = s ∧ ∀ t ∈ ts, 0 ≤ t ∧ t ≤ u - 1
theorem drawn_of {u : Int} : ∀ {s : Nat} {es : List PD}, es.length = s → (∀ (j : Nat) (e : PD), es[j]? = some e → ∃ i : Int, e = .int i ∧ 0 ≤ i ∧ i < u) → Drawn s u es
  | 0, [], _, _ => ⟨[], rfl, rfl, fun t h => absurd h List.not_mem_nil⟩
  | s + 1, e :: es, hl, h => by
    obtain ⟨i, e1, h0, h1⟩ := h 0 e rfl
    obtain ⟨ts, e2, e3, e4⟩ := drawn_of (u := u) (Nat.succ.inj hl) fun j d hd => h (j + 1) d hd
    refine ⟨i :: ts, by rw [e1, e2]; rfl, by rw [List.length_cons, e3], fun t ht => ?_⟩
    rcases List.mem_cons.mp ht with rfl | ht
    · omega
    · exact e4 t ht
theorem pts_ok {low : Int} {ts : List Int} (hz : ts.length ≤ 1000) (h0 : 0 < low) (h1 : low < 18446744073709551616) (h : ∀ t ∈ ts, 0 ≤ t ∧ t ≤ low) :
    isPt (.tuple ((ts.map fun t => fracI t low).map encF)) (ts.length : Nat) = true ∧ (∀ q ∈ ts.map fun t => fracI t low, q.2.natAbs.log2 < 900000) ∧ Showy (.tuple ((ts.map fun t => fracI t low).map encF)) := by
  have big : (18446744073709551616 : Nat) < 2 ^ 900 := by decide +kernel
  refine ⟨?_, fun q hq => ?_, showy_pts (fun q hq => ?_) (by rw [List.length_map]; exact hz)⟩
  · show (decide ((((ts.map fun t => fracI t low).map encF).length : Int) = ((ts.length : Nat) : Int)) && ((ts.map fun t => fracI t low).map encF).all fun p => frIn p 0 1) = true
    rw [Bool.and_eq_true]
    refine ⟨decide_eq_true (by rw [List.length_map, List.length_map]), List.all_eq_true.mpr fun d hd => ?_⟩
    obtain ⟨q, hq, rfl⟩ := List.mem_map.mp hd
    obtain ⟨t, ht, rfl⟩ := List.mem_map.mp hq
    exact (frac_ok (h t ht).1 (h t ht).2 h0).1
  · obtain ⟨t, ht, rfl⟩ := List.mem_map.mp hq
    have g := frac_ok (h t ht).1 (h t ht).2 h0
    have : (fracI t low).2.natAbs < 2 ^ 900 := Nat.lt_of_le_of_lt (by omega : _ ≤ 18446744073709551616) big
    exact Nat.lt_trans (log_small this) (by decide)
  · obtain ⟨t, ht, rfl⟩ := List.mem_map.mp hq
    have g := frac_ok (h t ht).1 (h t ht).2 h0
    exact ⟨Nat.lt_of_le_of_lt (by omega : _ ≤ 18446744073709551616) big, Nat.lt_of_le_of_lt (by omega : _ ≤ 18446744073709551616) big⟩
theorem tops_showy {u : Int} {ts : List Int} (hz : ts.length ≤ 1000) (hu : u ≤ 100000000000000000000) (h : ∀ t ∈ ts, 0 ≤ t ∧ t ≤ u) : Showy (.tuple (ts.map PyData.int)) := by
  have big : (100000000000000000000 : Nat) < 2 ^ 900 := by decide +kernel
  refine showy_tup (fun t ht => ?_) hz
  have := h t ht
  exact Nat.lt_of_le_of_lt (by omega : _ ≤ 100000000000000000000) big
/-! _law_is_led_right -/
theorem sc33 : FnScope ["pot", "sides", "many", "one", "other", "low", "tops", "point", "far", "both", "size", "cell", "led", "side"] ["pot", "sides"] (defScope (topS 33)) := ⟨rfl, rfl, rfl, by decide +kernel, rfl, by decide +kernel, by decide +kernel⟩
def okLedR : List PD → Nat → (PD → Prop) → Prop := fun ds c R => ∃ s : Nat, (s = 1 ∨ s = 2) ∧ ds = [.int (s : Nat)] ∧ c = 8 ∧ R = fun d => d = .bool true
end
end Mo
namespace Mo
open PySem PySem.Spec PyProof.Rows L2 Wk
section
variable {P : Program} {w : World} {K : PySem.W.Frag} {mg : Str → Option Value} {base : Heap} {f : Addr} {fd : FuncData}
theorem range_len (s : Nat) : (rangeD 0 (((s : Nat) : Int)).toNat).length = s := by simp [rangeD]
def lows : List PD := [.int 1, .int 2, .int 7, .int 60, .int 961, .int (10 ^ (12 : Int).toNat), .int 30]
theorem law_led_right (z : Bt mg) (hTk : Knw P w K mg base CX0 1 "_law_take" ["pot", "upto"] (SpQ K okTake)) (hOf : Knw P w K mg base CX0 2 "_law_of" ["pot", "some"] (SpQ K okOf)) (hLed : Knw P w K mg base CX0 1 "_law_led" ["motion", "low", "tops"] (SpP K okLed))
    (hFr : Knw P w K mg base CX0 2 "_law_fractions" ["low", "tops"] (SpP K okFracs)) (hPu : Knw P w K mg base CX0 5 "point_under" ["sides", "motion", "point"] (SpP K okPu)) (hCu : Knw P w K mg base CX0 4 "cell_under" ["sides", "size", "motion", "cell"] (SpP K okCu))
    (hJ : Knw P w K mg base CX0 4 "joint_motion" ["sides", "one", "other"] (SpP K okJoint)) (hB : Knw P w K mg base CX0 4 "back_motion" ["sides", "one"] (SpP K okBack))
    (F : Fun K "_law_is_led_right" "_law_is_led_right" (topS 33) f fd) : Gd P w K mg base CX0 6 f fd ["pot", "sides"] (SpQ K okLedR) := by
  refine okQ F sc33 (fun ds c R ⟨_, _, e, _⟩ => by rw [e]; rfl) fun cdv A outer s H E p B ds c R n fm D0 ⟨S, hs, e1, e2, e3⟩ hz gu hr hC hw => ?_
  subst e1 e2 e3
  have hP : fm.C.P = some p := by rw [hC]
  have mn : 0 < many S ∧ many S ≤ 8 := by rcases hs with rfl | rfl <;> decide
  have sn : S ≤ 2 := by omega
  refine r_set (m := n) 2 (many_if hs (t_eqI (e_var 1) e_int)) ?_ sc33.nd
  refine r_tup (m := n + 1 + 1 + 1) (R := fun sv => ∃ i j : Int, ∃ d : PD, sv = .d (.tuple [.int i, .int j, d]) ∧ (0 ≤ i ∧ i < (many S : Nat)) ∧ (0 ≤ j ∧ j < (many S : Nat)) ∧ d ∈ lows) (ts := [.name 3, .name 4, .name 5]) rfl (g_tup rfl (gs_cons (g_name 3 sc33.nd) (gs_cons (g_name 4 sc33.nd) (gs_cons (g_name 5 sc33.nd) gs_nil))))
    (e_imp (e_tupR (ar_cons (e_callQ hTk gu hr (by decide) hP (e_var 0) (a_cons (e_var 2) a_nil) ⟨(many S : Nat), rfl, by omega, Nat.lt_of_le_of_lt (by omega : _ ≤ 8) (by decide +kernel), rfl, rfl⟩ (by omega))
    (ar_cons (e_callQ hTk gu hr (by decide) hP (e_var 0) (a_cons (e_var 2) a_nil) ⟨(many S : Nat), rfl, by omega, Nat.lt_of_le_of_lt (by omega : _ ≤ 8) (by decide +kernel), rfl, rfl⟩ (by omega))
    (ar_cons (e_callQ hOf gu hr (by decide) hP (e_var 0) (a_cons (e_lst (a_cons e_int (a_cons e_int (a_cons e_int (a_cons e_int (a_cons e_int (a_cons (e_pow (by decide +kernel) e_int e_int) (a_cons e_int a_nil)))))))) a_nil) ⟨lows, rfl, by simp [lows], Nat.le_of_ble_eq_true rfl, rfl, rfl⟩ (by omega)) ar_nil))) (fun svs h => ?_)) fun sv ⟨ds, e, h⟩ => ?_) (fun sv h => ?_)
  · obtain ⟨_, _, rfl, ⟨d1, rfl, _⟩, _, _, rfl, ⟨d2, rfl, _⟩, _, _, rfl, ⟨d3, rfl, _⟩, rfl⟩ := h
    exact ⟨[d1, d2, d3], rfl, Nat.le_of_ble_eq_true rfl⟩
  · subst e
    match ds, h with
    | [d1, d2, d3], h =>
      obtain ⟨_, _, h, ⟨_, rfl, i', rfl, i0, i1⟩, _, _, rfl, ⟨_, rfl, j', rfl, j0, j1⟩, _, _, rfl, ⟨d, rfl, hd⟩, rfl⟩ := h
      cases h
      exact ⟨i', j', _, rfl, ⟨i0, i1⟩, ⟨j0, j1⟩, hd⟩
  obtain ⟨i', j', d, e, ⟨i0, i1⟩, ⟨j0, j1⟩, hd⟩ := h
  refine ⟨_, _, e, rfl, ?_⟩
  obtain ⟨i, rfl⟩ : ∃ i : Nat, i' = (i : Nat) := ⟨i'.toNat, by omega⟩
  obtain ⟨j, rfl⟩ : ∃ j : Nat, j' = (j : Nat) := ⟨j'.toNat, by omega⟩
  have hi : i < many S := by omega
  have hj : j < many S := by omega
  obtain ⟨low, rfl, l0, l1⟩ : ∃ low : Int, d = .int low ∧ 0 < low ∧ low ≤ 1000000000000 := by
    simp only [lows, List.mem_cons, List.not_mem_nil, or_false] at hd
    rcases hd with rfl | rfl | rfl | rfl | rfl | rfl | rfl <;> exact ⟨_, rfl, by decide, by decide⟩
  clear hd e
  refine r_setR 6 (R := fun sv => ∃ ds, sv = .d (.tuple ds) ∧ Drawn S (low + 1) ds) (m := n + 1 + 1 + 1 + (rangeD 0 (((S : Nat) : Int)).toNat).length * 1)
    (e_tupleR z.tuple (e_imp (e_lcNR (i := 13) 1 (fun _ _ e => ∃ t : Int, e = .int t ∧ 0 ≤ t ∧ t < low + 1) rfl sc33.nd (i_range z.range (e_var 1) ⟨by omega, by omega⟩) (blkOk_by (own := [("side", 13)]) (N := ["pot", "sides", "many", "one", "other", "low", "tops", "point", "far", "both", "size", "cell", "led", "side"]) (sc := defScope (topS 33)) (by decide +kernel)) (fun _ _ _ _ _ => g_name 13 sc33.nd)
      (fun s' H' Cc cl fp D acc k d hd => ?_) (by rw [range_len]; omega)) fun sv ⟨es, q1, q2, q3⟩ => ⟨es, q1, drawn_of (q2.trans (range_len S)) fun k e he => ?_⟩)) (fun sv ⟨ds, q, hD⟩ => ?_) sc33.nd
  · have hk : k < S := by
      have := (List.getElem?_eq_some_iff.mp hd).1
      rwa [range_len] at this
    rw [show ∀ a : Nat, a + (k + 1) * 1 = a + k * 1 + 1 from fun a => by omega]
    exact e_callQ hTk gu hr (by decide) hP (e_var 0) (a_cons (e_add (e_var 5) e_int) a_nil) ⟨low + 1, rfl, by omega, Nat.lt_of_le_of_lt (by omega : _ ≤ 10000000000000) (by decide +kernel), rfl, rfl⟩ (by omega)
  · have hk : k < (rangeD 0 (((S : Nat) : Int)).toNat).length := by
      rw [← q2]
      exact (List.getElem?_eq_some_iff.mp he).1
    exact q3 k _ e (List.getElem?_eq_getElem hk) he
  subst q
  obtain ⟨ts, rfl, tl, tb⟩ := hD
  have tb : ∀ t ∈ ts, 0 ≤ t ∧ t ≤ low := fun t ht => by
    have := tb t ht
    omega
  rw [range_len]
  have tz : ts.length ≤ 1000 := by omega
  have ll : low < 18446744073709551616 := by omega
  refine r_par 7 8 rfl sc33.nd (by decide) (ar_cons (e_callP hFr gu hr (by decide) (a_cons (e_var 5) (a_cons (e_var 6) a_nil)) (okFracs_int l0 ll tz tb)) (ar_cons (e_callP hLed gu hr (by decide) (a_cons (e_var 3) (a_cons (e_var 5) (a_cons (e_var 6) a_nil))) ⟨i, low, ts, by omega, by omega, rfl, rfl⟩) ar_nil)) (fun svs h => ?_)
  obtain ⟨_, _, rfl, h1, _, _, rfl, h2, rfl⟩ := h
  subst h1 h2
  refine ⟨_, _, rfl, ?_⟩
  have le1 : led i low ts = ledT S i low ts := led_eq hs hi low ts tl
  have fl : (ledT S i low ts).length = S := ledT_len hs hi low ts
  have fb : ∀ t ∈ ledT S i low ts, 0 ≤ t ∧ t ≤ low := led_in hs hi tl tb
  have le2 : led j low (ledT S i low ts) = ledT S j low (ledT S i low ts) := led_eq hs hj low _ fl
  have gb : ∀ t ∈ ledT S j low (ledT S i low ts), 0 ≤ t ∧ t ≤ low := led_in hs hj fl fb
  have gl : (ledT S j low (ledT S i low ts)).length = S := ledT_len hs hj low _
  have jl := jm_lt hs hi hj
  have p1 := pts_ok tz l0 ll tb
  have p2 := pts_ok (by omega) l0 ll fb
  have p3 := pts_ok (by omega) l0 ll gb
  rw [tl] at p1
  have pu1 := pt_led hs hi tl tb l0
  have pu2 := pt_led hs jl tl tb l0
  rw [led_joint hs hi hj] at pu2
  rw [le1]
  refine r_ifF (t_neS (e_repr z gu hr p2.2.2 (e_callP hPu gu hr (by decide) (a_cons (e_var 1) (a_cons (e_var 3) (a_cons (e_var 7) a_nil))) ⟨S, i, _, hs, hi, by rw [List.length_map]; exact tl, p1.1, p1.2.1, rfl, by rw [pu1]⟩))
    (e_repr z gu hr p2.2.2 (e_callP hFr gu hr (by decide) (a_cons (e_var 5) (a_cons (e_var 8) a_nil)) (okFracs_int l0 ll (by omega) fb)))) (by rw [decide_eq_true rfl]; rfl) ?_
  refine r_set 9 (e_callP hPu gu hr (by decide) (a_cons (e_var 1) (a_cons (e_callP hJ gu hr (by decide) (a_cons (e_var 1) (a_cons (e_var 3) (a_cons (e_var 4) a_nil))) ⟨S, i, j, hs, hi, hj, rfl, rfl⟩) (a_cons (e_var 7) a_nil))) ⟨S, jm S i j, _, hs, jl, by rw [List.length_map]; exact tl, p1.1, p1.2.1, rfl, rfl⟩) ?_ sc33.nd
  rw [pu2]
  refine r_ifF (t_neS (e_repr z gu hr p3.2.2 (e_var 9))
    (e_repr z gu hr p3.2.2 (e_callP hFr gu hr (by decide) (a_cons (e_var 5) (a_cons (e_callP hLed gu hr (by decide) (a_cons (e_var 4) (a_cons (e_var 5) (a_cons (e_var 8) a_nil))) ⟨j, low, _, by omega, by omega, rfl, by rw [le2]⟩) a_nil)) (okFracs_int l0 ll (by omega) gb)))) (by rw [decide_eq_true rfl]; rfl) ?_
  refine r_setR 10 (e_callQ hOf gu hr (by decide) hP (e_var 0) (a_cons (e_lst (a_cons e_int (a_cons e_int (a_cons e_int (a_cons e_int (a_cons e_int (a_cons e_int (a_cons (e_pow (by decide +kernel) e_int e_int) a_nil)))))))) a_nil) ⟨_, rfl, by simp, Nat.le_of_ble_eq_true rfl, rfl, rfl⟩ (by omega)) (fun sv ⟨d, q, hd⟩ => ?_) sc33.nd
  subst q
  obtain ⟨u, rfl, u0, u1⟩ : ∃ u : Int, d = .int u ∧ 0 < u ∧ u ≤ 100000000000000000000 := by
    simp only [List.mem_cons, List.not_mem_nil, or_false] at hd
    rcases hd with rfl | rfl | rfl | rfl | rfl | rfl | rfl <;> exact ⟨_, rfl, by decide, by decide⟩
  clear hd
  refine r_setR 11 (R := fun sv => ∃ ds, sv = .d (.tuple ds) ∧ Drawn S u ds) (m := n + 1 + 1 + 1 + S * 1 + 1 + (rangeD 0 (((S : Nat) : Int)).toNat).length * 1)
    (e_tupleR z.tuple (e_imp (e_lcNR (i := 13) 1 (fun _ _ e => ∃ t : Int, e = .int t ∧ 0 ≤ t ∧ t < u) rfl sc33.nd (i_range z.range (e_var 1) ⟨by omega, by omega⟩) (blkOk_by (own := [("side", 13)]) (N := ["pot", "sides", "many", "one", "other", "low", "tops", "point", "far", "both", "size", "cell", "led", "side"]) (sc := defScope (topS 33)) (by decide +kernel)) (fun _ _ _ _ _ => g_name 13 sc33.nd)
      (fun s' H' Cc cl fp D acc k d hd => ?_) (by rw [range_len]; omega)) fun sv ⟨es, q1, q2, q3⟩ => ⟨es, q1, drawn_of (q2.trans (range_len S)) fun k e he => ?_⟩)) (fun sv ⟨ds, q, hD⟩ => ?_) sc33.nd
  · have hk : k < S := by
      have := (List.getElem?_eq_some_iff.mp hd).1
      rwa [range_len] at this
    rw [show ∀ a : Nat, a + (k + 1) * 1 = a + k * 1 + 1 from fun a => by omega]
    exact e_callQ hTk gu hr (by decide) hP (e_var 0) (a_cons (e_var 10) a_nil) ⟨u, rfl, by omega, Nat.lt_of_le_of_lt (by omega : _ ≤ 100000000000000000000) (by decide +kernel), rfl, rfl⟩ (by omega)
  · have hk : k < (rangeD 0 (((S : Nat) : Int)).toNat).length := by
      rw [← q2]
      exact (List.getElem?_eq_some_iff.mp he).1
    exact q3 k _ e (List.getElem?_eq_getElem hk) he
  subst q
  obtain ⟨cs, rfl, cl, cb⟩ := hD
  rw [range_len]
  have bf := bm_fits hs hi
  have c1 : ceU S i u cs = ledT S i (u - 1) cs := ce_led S i u cs
  have c2 : led i (u - 1) cs = ledT S i (u - 1) cs := led_eq hs hi (u - 1) cs cl
  have db : ∀ t ∈ ledT S i (u - 1) cs, 0 ≤ t ∧ t ≤ u - 1 := led_in hs hi cl cb
  have dl : (ledT S i (u - 1) cs).length = S := ledT_len hs hi (u - 1) cs
  have c3 : ceU S (bm S i) u (ledT S i (u - 1) cs) = cs := by
    rw [ce_led, ← led_joint hs hi bf.1, bf.2, led_zero hs _ _ cl]
  refine r_set 12 (e_callP hCu gu hr (by decide) (a_cons (e_var 1) (a_cons (e_var 10) (a_cons (e_var 3) (a_cons (e_var 11) a_nil)))) ⟨S, i, u, cs, hs, hi, cl, by omega, cb, rfl, rfl⟩) ?_ sc33.nd
  rw [c1]
  refine r_ifF (t_neS (e_repr z gu hr (tops_showy (u := u - 1) (by omega) (by omega) db) (e_var 12))
    (e_repr z gu hr (tops_showy (u := u - 1) (by omega) (by omega) db) (e_callP hLed gu hr (by decide) (a_cons (e_var 3) (a_cons (e_sub (e_var 10) e_int) (a_cons (e_var 11) a_nil))) ⟨i, u - 1, cs, by omega, by omega, rfl, by rw [c2]⟩))) (by rw [decide_eq_true rfl]; rfl) ?_
  refine r_ret hw (e_eqS (e_repr z gu hr (tops_showy (u := u - 1) (by omega) (by omega) cb) (e_callP hCu gu hr (by decide) (a_cons (e_var 1) (a_cons (e_var 10) (a_cons (e_callP hB gu hr (by decide) (a_cons (e_var 1) (a_cons (e_var 3) a_nil)) ⟨S, i, hs, hi, rfl, rfl⟩) (a_cons (e_var 12) a_nil)))) ⟨S, bm S i, u, _, hs, bf.1, dl, by omega, db, rfl, by rw [c3]⟩))
    (e_repr z gu hr (tops_showy (u := u - 1) (by omega) (by omega) cb) (e_var 11))) fun sv q => ⟨by omega, _, q.symm, by rw [decide_eq_true rfl]⟩
end
end Mo
namespace Mo
open PySem PySem.Spec PyProof.Rows L2 Wk
section
variable {P : Program} {w : World} {K : PySem.W.Frag} {mg : Str → Option Value} {base : Heap} {f : Addr} {fd : FuncData}
theorem sc34 : FnScope ["pot", "sides", "lap"] ["pot"] (defScope (topS 34)) := ⟨rfl, rfl, rfl, by decide +kernel, rfl, by decide +kernel, by decide +kernel⟩
def okRight : List PD → Nat → (PD → Prop) → Prop := fun ds c R => ds = [] ∧ c = 100 ∧ R = fun d => d = .bool true
theorem law_right (z : Bt mg) (h1 : Knw P w K mg base CX0 5 "_law_are_pairs_right" ["sides"] (SpP K okPairs)) (h2 : Knw P w K mg base CX0 6 "_law_is_led_right" ["pot", "sides"] (SpQ K okLedR))
    (F : Fun K "_law_right" "_law_right" (topS 34) f fd) : Gd P w K mg base CX0 7 f fd ["pot"] (SpQ K okRight) := by
  refine okQ F sc34 (fun ds c R ⟨e, _, _⟩ => by rw [e]; rfl) fun cdv A outer s H E p B ds c R n fm D0 ⟨e1, e2, e3⟩ hz gu hr hC hw => ?_
  subst e1 e2 e3
  have hP : fm.C.P = some p := by rw [hC]
  refine r_ifF (m := n) (u := !([true, true].all id)) (t_not (t_val (e_all (bs := [true, true]) rfl z.all (e_eq (e_lcM (i := 1) (l := [(1 : Nat), 2]) (g := fun s => .int ((s : Nat) : Int)) (fun _ => .bool true) rfl sc34.nd (i_tup (e_tup (a_cons e_int (a_cons e_int a_nil)))) (blkOk_by (own := [("sides", 1)]) (N := ["pot", "sides", "lap"]) (sc := defScope (topS 34)) (by decide +kernel)) (fun _ _ _ _ _ => g_name 1 sc34.nd)
      (fun s' H' Cc cl fp D acc S hS => ?_) (Nat.le_of_ble_eq_true rfl)) rfl)))) rfl ?_
  · have hs : S = 1 ∨ S = 2 := by simpa using hS
    exact e_callP h1 gu hr (by decide) (a_cons (e_var 1) a_nil) ⟨S, hs, rfl, rfl⟩
  refine r_ret (m := n + 7 * 8) hw (e_allT z rfl (e_imp (e_lcNR (i := 2) (ds := rangeD 0 7) 8 (fun _ _ e => e = .bool true) rfl sc34.nd (i_range (i := 7) z.range e_int (by decide)) (blkOk_by (own := [("lap", 2)]) (N := ["pot", "sides", "lap"]) (sc := defScope (topS 34)) (by decide +kernel)) (fun _ _ _ _ _ => g_name 2 sc34.nd)
      (fun s' H' Cc cl fp D acc k d hd => ?_) (Nat.le_of_ble_eq_true rfl)) fun sv ⟨es, q1, q2, q3⟩ => ⟨es, q1, fun d hd => ?_⟩)) fun sv q => ⟨by omega, _, q.symm, rfl⟩
  · have hk : k < 7 := by
      have := (List.getElem?_eq_some_iff.mp hd).1
      simpa [rangeD] using this
    have ed : d = .int (k : Nat) := by
      simp only [rangeD, List.getElem?_map, List.getElem?_range hk] at hd
      have := (Option.some.inj hd).symm
      rw [this]
      show PyData.int (0 + ((k : Nat) : Int)) = _
      rw [Int.zero_add]
    subst ed
    rw [show ∀ a : Nat, a + (k + 1) * 8 = a + k * 8 + 8 from fun a => by omega]
    refine e_callQ h2 gu hr (by decide) hP (e_var 0) (a_cons (e_add e_int (e_intB z.int (e_gt (e_var 2) e_int))) a_nil) ⟨if k > 1 then 2 else 1, ?_, ?_, rfl, rfl⟩ (by omega)
    · split
      · exact .inr rfl
      · exact .inl rfl
    · by_cases h : k > 1
      · rw [if_pos h, decide_eq_true (show (1 : Int) < ((k : Nat) : Int) by omega)]
        rfl
      · rw [if_neg h, decide_eq_false (show ¬ (1 : Int) < ((k : Nat) : Int) by omega)]
        rfl
  · obtain ⟨k, hk, rfl⟩ := List.mem_iff_getElem.mp hd
    exact q3 k _ _ (List.getElem?_eq_getElem (by rw [← q2]; exact hk)) (List.getElem?_eq_getElem hk)
/-! law -/
theorem sc35 : FnScope ["script", "place"] ["script"] (defScope (topS 35)) := ⟨rfl, rfl, rfl, by decide +kernel, rfl, by decide +kernel, by decide +kernel⟩
def okLaw : List PD → SV → Prop := fun ds sv => ∃ ns : List Int, ds = [.list (ns.map PyData.int)] ∧ sv = .d (.bool true)
theorem the_law (z : Bt mg) (h1 : Knw P w K mg base CX0 1 "_law_pot" ["script", "place"] (SpPot K)) (h2 : Knw P w K mg base CX0 1 "_law_cells" ["script", "most"] (SpP K okCells)) (h3 : Knw P w K mg base CX0 7 "_law_right" ["pot"] (SpQ K okRight))
    (F : Fun K "law" "law" (topS 35) f fd) : Gd P w K mg base CX0 8 f fd ["script"] (SpP K okLaw) := by
  refine okP F sc35 (fun ds sv ⟨_, e, _⟩ => by rw [e]; rfl) fun cdv A outer s H E B ds sv fm D0 ⟨ns, e1, e2⟩ gu hr hC hw hn => ?_
  subst e1 e2
  have hb := cellsN_le (m := 2) (l := ((ns.length : Nat) : Int)) (by decide) (by omega)
  refine r_retD (m := 0) hw (e_allT z rfl (e_imp (e_lcNR (i := 1) (ds := rangeD 0 (cellsN 2 (ns.length : Nat)).toNat) 0 (fun _ _ e => e = .bool true) rfl sc35.nd (i_list (e_callP h2 gu hr (by decide) (a_cons (e_var 0) (a_cons e_int a_nil)) ⟨ns, 2, rfl, by decide, by decide, rfl⟩)) (blkOk_by (own := [("place", 1)]) (N := ["script", "place"]) (sc := defScope (topS 35)) (by decide +kernel)) (fun _ _ _ _ _ => g_name 1 sc35.nd)
      (fun s' H' Cc cl fp D acc k d hd => ?_) (by simp only [rangeD, List.length_map, List.length_range]; omega)) fun sv ⟨es, q1, q2, q3⟩ => ⟨es, q1, fun d hd => ?_⟩)) rfl
  · have hk : k < (cellsN 2 (ns.length : Nat)).toNat := by
      have := (List.getElem?_eq_some_iff.mp hd).1
      simpa [rangeD] using this
    have ed : d = .int (k : Nat) := by
      simp only [rangeD, List.getElem?_map, List.getElem?_range hk] at hd
      have := (Option.some.inj hd).symm
      rw [this]
      show PyData.int (0 + ((k : Nat) : Int)) = _
      rw [Int.zero_add]
    subst ed
    have hk2 : k < 100 := by omega
    exact e_callFresh h3 h1 gu hr (by decide) (by decide) (a_cons (e_var 0) (a_cons (e_var 1) a_nil)) ⟨by omega, by omega⟩ ⟨rfl, rfl, rfl⟩ (by decide)
  · obtain ⟨k, hk, rfl⟩ := List.mem_iff_getElem.mp hd
    exact q3 k _ _ (List.getElem?_eq_getElem (by rw [← q2]; exact hk)) (List.getElem?_eq_getElem hk)
end
end Mo
namespace Mo
open PySem PySem.Spec PyProof.Rows L2 Wk
theorem fin02 {P : Program} {w : World} {K : PySem.W.Frag} {h : Heap} {mg : Str → Option Value} {fa : Addr} {aT : Nat → Addr} (X : K.In h) (G : h.Ns mainGlobals mg) (hfa : mg "law" = some (.ref fa)) (z : Bt mg)
    (zg : mg "gcd" = some (.builtin "math.gcd")) (g1 : mg "LINE_MOTIONS" = some (.ref (aT 1))) (g2 : mg "PLANE_MOTIONS" = some (.ref (aT 2))) (hT : Ts K aT)
    (d2 : Std K "is_whole" (topS 2)) (d3 : Std K "is_whole_in" (topS 3)) (d4 : Std K "is_fraction" (topS 4)) (d5 : Std K "is_fraction_in" (topS 5)) (d6 : Std K "is_point" (topS 6)) (d7 : Std K "is_cell" (topS 7))
    (d17 : Std K "motions_for" (topS 17)) (d18 : Std K "check_motion" (topS 18)) (d19 : Std K "joint_motion" (topS 19)) (d20 : Std K "back_motion" (topS 20)) (d21 : Std K "point_under" (topS 21)) (d22 : Std K "cell_under" (topS 22))
    (d24 : Std K "_law_pot" (topS 24)) (d25 : Std K "_law_take" (topS 25)) (d26 : Std K "_law_of" (topS 26)) (d27 : Std K "_law_cells" (topS 27)) (d28 : Std K "_law_led" (topS 28)) (d29 : Std K "_law_fraction" (topS 29)) (d30 : Std K "_law_fractions" (topS 30))
    (d31 : Std K "_law_probed" (topS 31)) (d32 : Std K "_law_are_pairs_right" (topS 32)) (d33 : Std K "_law_is_led_right" (topS 33)) (d34 : Std K "_law_right" (topS 34)) (d35 : Std K "law" (topS 35)) :
    ∃ fd : FuncData, (∀ (s : Shared) (u : Value), BindsTo s fd ⟨[u], []⟩ [("script", u)]) ∧ ∀ under : Heap, K.In under → under.Ns mainGlobals mg → Gd P w K mg under CX0 8 fa fd ["script"] (SpP K okLaw) := by
  obtain ⟨f, fd, a, F⟩ := d35.ex
  have e := hfa.symm.trans (PySem.W.mg_of X G a)
  cases e
  have bl := F.binds (ps := ["script"]) fun _ _ _ _ _ _ us hl => match us, hl with | [_], _ => rfl
  obtain ⟨oc, od, kV, doc, pm, an, cdv, ct, osl, efd, lk, hcd⟩ := F.ex
  refine ⟨fd, fun s u => ?_, fun under X2 G2 => ?_⟩
  · subst efd
    exact .of_eq rfl
  have k2 : Knw P w K mg under CX0 1 "is_whole" ["value"] (SpP K okWhole) := d2.know X G (fun _ _ _ _ _ _ us hl => match us, hl with | [_], _ => rfl) fun F => is_whole z F
  have k3 : Knw P w K mg under CX0 2 "is_whole_in" ["value", "least", "most"] (SpP K okWholeIn) := d3.know X G (fun _ _ _ _ _ _ us hl => match us, hl with | [_, _, _], _ => rfl) fun F => is_whole_in z k2 F
  have k4 : Knw P w K mg under CX0 2 "is_fraction" ["value"] (SpP K okFr) := d4.know X G (fun _ _ _ _ _ _ us hl => match us, hl with | [_], _ => rfl) fun F => is_fraction z zg k2 F
  have k5 : Knw P w K mg under CX0 3 "is_fraction_in" ["value", "least", "most"] (SpP K okFrIn) := d5.know X G (fun _ _ _ _ _ _ us hl => match us, hl with | [_, _, _], _ => rfl) fun F => is_fraction_in k4 F
  have k6 : Knw P w K mg under CX0 4 "is_point" ["value", "sides"] (SpP K okPt) := d6.know X G (fun _ _ _ _ _ _ us hl => match us, hl with | [_, _], _ => rfl) fun F => is_point z k5 F
  have k7 : Knw P w K mg under CX0 3 "is_cell" ["value", "sides", "size"] (SpP K okCe) := d7.know X G (fun _ _ _ _ _ _ us hl => match us, hl with | [_, _, _], _ => rfl) fun F => is_cell z k3 F
  have k17 : Knw P w K mg under CX0 3 "motions_for" ["sides"] (SpP K (okFor aT)) := d17.know X G (fun _ _ _ _ _ _ us hl => match us, hl with | [_], _ => rfl) fun F => motions_for g1 g2 k3 F
  have k18 : Knw P w K mg under CX0 3 "check_motion" ["motions", "value"] (SpP K okCheck) := d18.know X G (fun _ _ _ _ _ _ us hl => match us, hl with | [_, _], _ => rfl) fun F => check_motion z k3 F
  have k19 : Knw P w K mg under CX0 4 "joint_motion" ["sides", "one", "other"] (SpP K okJoint) := d19.know X G (fun _ _ _ _ _ _ us hl => match us, hl with | [_, _, _], _ => rfl) fun F => joint_motion hT z k17 k18 F
  have k20 : Knw P w K mg under CX0 4 "back_motion" ["sides", "one"] (SpP K okBack) := d20.know X G (fun _ _ _ _ _ _ us hl => match us, hl with | [_, _], _ => rfl) fun F => back_motion hT z k17 k18 F
  have k21 : Knw P w K mg under CX0 5 "point_under" ["sides", "motion", "point"] (SpP K okPu) := d21.know X G (fun _ _ _ _ _ _ us hl => match us, hl with | [_, _, _], _ => rfl) fun F => point_under hT z k17 k18 k6 F
  have k22 : Knw P w K mg under CX0 4 "cell_under" ["sides", "size", "motion", "cell"] (SpP K okCu) := d22.know X G (fun _ _ _ _ _ _ us hl => match us, hl with | [_, _, _, _], _ => rfl) fun F => cell_under hT z k2 k17 k18 k7 F
  have k24 : Knw P w K mg under CX0 1 "_law_pot" ["script", "place"] (SpPot K) := d24.know X G (fun _ _ _ _ _ _ us hl => match us, hl with | [_, _], _ => rfl) fun F => law_pot z F
  have k25 : Knw P w K mg under CX0 1 "_law_take" ["pot", "upto"] (SpQ K okTake) := d25.know X G (fun _ _ _ _ _ _ us hl => match us, hl with | [_, _], _ => rfl) fun F => law_take z F
  have k26 : Knw P w K mg under CX0 2 "_law_of" ["pot", "some"] (SpQ K okOf) := d26.know X G (fun _ _ _ _ _ _ us hl => match us, hl with | [_, _], _ => rfl) fun F => law_of z k25 F
  have k27 : Knw P w K mg under CX0 1 "_law_cells" ["script", "most"] (SpP K okCells) := d27.know X G (fun _ _ _ _ _ _ us hl => match us, hl with | [_, _], _ => rfl) fun F => law_cells z F
  have k28 : Knw P w K mg under CX0 1 "_law_led" ["motion", "low", "tops"] (SpP K okLed) := d28.know X G (fun _ _ _ _ _ _ us hl => match us, hl with | [_, _, _], _ => rfl) fun F => law_led z F
  have k29 : Knw P w K mg under CX0 1 "_law_fraction" ["top", "low"] (SpP K okFrac) := d29.know X G (fun _ _ _ _ _ _ us hl => match us, hl with | [_, _], _ => rfl) fun F => law_fraction z F
  have k30 : Knw P w K mg under CX0 2 "_law_fractions" ["low", "tops"] (SpP K okFracs) := d30.know X G (fun _ _ _ _ _ _ us hl => match us, hl with | [_, _], _ => rfl) fun F => law_fractions z k29 F
  have k31 : Knw P w K mg under CX0 2 "_law_probed" ["sides", "one", "other"] (SpP K okProbed) := d31.know X G (fun _ _ _ _ _ _ us hl => match us, hl with | [_, _, _], _ => rfl) fun F => law_probed z k28 F
  have k32 : Knw P w K mg under CX0 5 "_law_are_pairs_right" ["sides"] (SpP K okPairs) := d32.know X G (fun _ _ _ _ _ _ us hl => match us, hl with | [_], _ => rfl) fun F => law_pairs (aT := aT) z k31 k19 k20 F
  have k33 : Knw P w K mg under CX0 6 "_law_is_led_right" ["pot", "sides"] (SpQ K okLedR) := d33.know X G (fun _ _ _ _ _ _ us hl => match us, hl with | [_, _], _ => rfl) fun F => law_led_right z k25 k26 k28 k30 k21 k22 k19 k20 F
  have k34 : Knw P w K mg under CX0 7 "_law_right" ["pot"] (SpQ K okRight) := d34.know X G (fun _ _ _ _ _ _ us hl => match us, hl with | [_], _ => rfl) fun F => law_right z k32 k33 F
  exact the_law z k24 k27 k34 F
theorem fin02b {P : Program} {w : World} {K : PySem.W.Frag} {h : Heap} {mg : Str → Option Value} {fa a1 a2 : Addr} (X : K.In h) (G : h.Ns mainGlobals mg) (hfa : mg "law" = some (.ref fa))
    (t1 : PySem.W.nsIn K mainGlobals "LINE_MOTIONS" = some (some (.ref a1))) (t2 : PySem.W.nsIn K mainGlobals "PLANE_MOTIONS" = some (some (.ref a2))) (r1 : rdV K 4 (.ref a1) = some (.tuple ((tbl 1).map encM))) (r2 : rdV K 4 (.ref a2) = some (.tuple ((tbl 2).map encM)))
    (tg : PySem.W.nsIn K mainGlobals "gcd" = some (some (.builtin "math.gcd"))) (h1 : NoN K "len") (h2 : NoN K "abs") (h3 : NoN K "int") (h4 : NoN K "sum") (h5 : NoN K "tuple") (h6 : NoN K "list") (h7 : NoN K "range") (h8 : NoN K "enumerate") (h9 : NoN K "all") (h10 : NoN K "isinstance") (h11 : NoN K "repr") (h12 : NoN K "max") (h13 : NoN K "min") (h14 : NoN K "str") (h15 : NoN K "bool") (h16 : NoN K "dict")
    (d2 : Std K "is_whole" (topS 2)) (d3 : Std K "is_whole_in" (topS 3)) (d4 : Std K "is_fraction" (topS 4)) (d5 : Std K "is_fraction_in" (topS 5)) (d6 : Std K "is_point" (topS 6)) (d7 : Std K "is_cell" (topS 7)) (d17 : Std K "motions_for" (topS 17)) (d18 : Std K "check_motion" (topS 18)) (d19 : Std K "joint_motion" (topS 19)) (d20 : Std K "back_motion" (topS 20)) (d21 : Std K "point_under" (topS 21)) (d22 : Std K "cell_under" (topS 22)) (d24 : Std K "_law_pot" (topS 24)) (d25 : Std K "_law_take" (topS 25)) (d26 : Std K "_law_of" (topS 26)) (d27 : Std K "_law_cells" (topS 27)) (d28 : Std K "_law_led" (topS 28)) (d29 : Std K "_law_fraction" (topS 29)) (d30 : Std K "_law_fractions" (topS 30)) (d31 : Std K "_law_probed" (topS 31)) (d32 : Std K "_law_are_pairs_right" (topS 32)) (d33 : Std K "_law_is_led_right" (topS 33)) (d34 : Std K "_law_right" (topS 34)) (d35 : Std K "law" (topS 35)) :
    ∃ fd : FuncData, (∀ (s : Shared) (u : Value), BindsTo s fd ⟨[u], []⟩ [("script", u)]) ∧ ∀ under : Heap, K.In under → under.Ns mainGlobals mg → Gd P w K mg under CX0 8 fa fd ["script"] (SpP K okLaw) :=
  fin02 (aT := fun s => if s = 1 then a1 else a2) X G hfa (bt_of X G h1 h2 h3 h4 h5 h6 h7 h8 h9 h10 h11 h12 h13 h14 h15 h16) (PySem.W.mg_of X G tg) (PySem.W.mg_of X G t1) (PySem.W.mg_of X G t2) (fun s hs => by
    rcases hs with rfl | rfl
    · exact kt_of r1
    · exact kt_of r2) d2 d3 d4 d5 d6 d7 d17 d18 d19 d20 d21 d22 d24 d25 d26 d27 d28 d29 d30 d31 d32 d33 d34 d35
end Mo
open PySem PySem.W PySem.Calls PyProof.Rows
set_option maxHeartbeats 0 in
theorem PySem.Challenge.cw_selfdrawn_k02_whole_motions_one_behind_a_holds : PySem.Challenge.rw_selfdrawn_k02_whole_motions_one_behind_a.Holds := by
  w_on; o_law; k_head; (case hw => w_witness2)
  k_fill
  refine Wk.row_end (l := PySem.Challenge.rw_selfdrawn_k02_whole_motions_one_behind_a) (n := 63) (k := 8) (y := "script") (ok := Mo.okLaw) rfl (by decide) rfl ⟨rfl, by decide, by decide⟩ (fun w h Y => PySem.W.kIn_of Y) ?F (fun is => ⟨is, rfl, rfl⟩)
  case F =>
    intro w mg fa h KX G hmg
    refine' Mo.fin02b KX G hmg ?t1 ?t2 ?r1 ?r2 ?tg ?h1 ?h2 ?h3 ?h4 ?h5 ?h6 ?h7 ?h8 ?h9 ?h10 ?h11 ?h12 ?h13 ?h14 ?h15 ?h16 ?d2 ?d3 ?d4 ?d5 ?d6 ?d7 ?d17 ?d18 ?d19 ?d20 ?d21 ?d22 ?d24 ?d25 ?d26 ?d27 ?d28 ?d29 ?d30 ?d31 ?d32 ?d33 ?d34 ?d35
    (case t1 => k_is); (case t2 => k_is); (case tg => k_is); (case r1 => kernel_rfl); (case r2 => kernel_rfl)
    (case h1 => (unfold Wk.NoN; k_is)); (case h2 => (unfold Wk.NoN; k_is)); (case h3 => (unfold Wk.NoN; k_is)); (case h4 => (unfold Wk.NoN; k_is)); (case h5 => (unfold Wk.NoN; k_is)); (case h6 => (unfold Wk.NoN; k_is)); (case h7 => (unfold Wk.NoN; k_is)); (case h8 => (unfold Wk.NoN; k_is)); (case h9 => (unfold Wk.NoN; k_is)); (case h10 => (unfold Wk.NoN; k_is)); (case h11 => (unfold Wk.NoN; k_is)); (case h12 => (unfold Wk.NoN; k_is)); (case h13 => (unfold Wk.NoN; k_is)); (case h14 => (unfold Wk.NoN; k_is)); (case h15 => (unfold Wk.NoN; k_is)); (case h16 => (unfold Wk.NoN; k_is))
    (case d2 => (refine' Wk.Std.mk' ?a ?l ?c ?k; (case a => k_is); (case l => k_is); (case c => k_is); (case k => k_is))); (case d3 => (refine' Wk.Std.mk' ?a ?l ?c ?k; (case a => k_is); (case l => k_is); (case c => k_is); (case k => k_is))); (case d4 => (refine' Wk.Std.mk' ?a ?l ?c ?k; (case a => k_is); (case l => k_is); (case c => k_is); (case k => k_is))); (case d5 => (refine' Wk.Std.mk' ?a ?l ?c ?k; (case a => k_is); (case l => k_is); (case c => k_is); (case k => k_is))); (case d6 => (refine' Wk.Std.mk' ?a ?l ?c ?k; (case a => k_is); (case l => k_is); (case c => k_is); (case k => k_is))); (case d7 => (refine' Wk.Std.mk' ?a ?l ?c ?k; (case a => k_is); (case l => k_is); (case c => k_is); (case k => k_is))); (case d17 => (refine' Wk.Std.mk' ?a ?l ?c ?k; (case a => k_is); (case l => k_is); (case c => k_is); (case k => k_is))); (case d18 => (refine' Wk.Std.mk' ?a ?l ?c ?k; (case a => k_is); (case l => k_is); (case c => k_is); (case k => k_is))); (case d19 => (refine' Wk.Std.mk' ?a ?l ?c ?k; (case a => k_is); (case l => k_is); (case c => k_is); (case k => k_is))); (case d20 => (refine' Wk.Std.mk' ?a ?l ?c ?k; (case a => k_is); (case l => k_is); (case c => k_is); (case k => k_is))); (case d21 => (refine' Wk.Std.mk' ?a ?l ?c ?k; (case a => k_is); (case l => k_is); (case c => k_is); (case k => k_is))); (case d22 => (refine' Wk.Std.mk' ?a ?l ?c ?k; (case a => k_is); (case l => k_is); (case c => k_is); (case k => k_is))); (case d24 => (refine' Wk.Std.mk' ?a ?l ?c ?k; (case a => k_is); (case l => k_is); (case c => k_is); (case k => k_is))); (case d25 => (refine' Wk.Std.mk' ?a ?l ?c ?k; (case a => k_is); (case l => k_is); (case c => k_is); (case k => k_is))); (case d26 => (refine' Wk.Std.mk' ?a ?l ?c ?k; (case a => k_is); (case l => k_is); (case c => k_is); (case k => k_is))); (case d27 => (refine' Wk.Std.mk' ?a ?l ?c ?k; (case a => k_is); (case l => k_is); (case c => k_is); (case k => k_is))); (case d28 => (refine' Wk.Std.mk' ?a ?l ?c ?k; (case a => k_is); (case l => k_is); (case c => k_is); (case k => k_is))); (case d29 => (refine' Wk.Std.mk' ?a ?l ?c ?k; (case a => k_is); (case l => k_is); (case c => k_is); (case k => k_is))); (case d30 => (refine' Wk.Std.mk' ?a ?l ?c ?k; (case a => k_is); (case l => k_is); (case c => k_is); (case k => k_is))); (case d31 => (refine' Wk.Std.mk' ?a ?l ?c ?k; (case a => k_is); (case l => k_is); (case c => k_is); (case k => k_is))); (case d32 => (refine' Wk.Std.mk' ?a ?l ?c ?k; (case a => k_is); (case l => k_is); (case c => k_is); (case k => k_is))); (case d33 => (refine' Wk.Std.mk' ?a ?l ?c ?k; (case a => k_is); (case l => k_is); (case c => k_is); (case k => k_is))); (case d34 => (refine' Wk.Std.mk' ?a ?l ?c ?k; (case a => k_is); (case l => k_is); (case c => k_is); (case k => k_is))); (case d35 => (refine' Wk.Std.mk' ?a ?l ?c ?k; (case a => k_is); (case l => k_is); (case c => k_is); (case k => k_is)))
