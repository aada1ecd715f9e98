import PyProof.Rows.All
import HandS.ForMost
import HandS.ForExc
import HandS.Flow
import HandS.TupLe
import HandS.Deep
import HandS.TupAny
import HandS.TupMul
import HandS.Style
import HandS.ExcCtx
import HandS.ExcInit
import HandS.Zip
import HandS.IsInst
import HandS.Conv
import HandS.SortInts
import HandS.TupSets
import HandS.SetFor
import HandS.Lambda
import HandS.EndTab
import HandS.GenList
import HandS.AnyAll
import PyProof.GenQ
import HandS.Dict
import HandS.Codes
import HandS.HeadWalk
import HandS.HeadHook4
import HandS.Head2
import HandS.ExcIs
import HandS.ExcField
import HandS.HotCalls
import PyProof.Rows.NestShow
import HandS.SetBool
import PyProof.Rows.SortShellAny
import PyProof.CallFns
import PySem.Challenge.RW_cubewebs_k43_nearest_places
import HandS.Words
import PyProof.ReprLen
set_option Elab.async false
set_option linter.all false
set_option maxRecDepth 100000
/-! Mi0: values as trees, a store of lists that change, worlds and how they grow. -/
namespace Mi
open PySem PySem.Spec PyProof.Rows L2

/-- a value: data as trees; a list that changes stands in the store -/
inductive D where
  | non | bl (b : Bool) | int (i : Int) | str (s : Str)
  | tup (xs : List D) | lst (xs : List D) | scr (xs : List D) | loc (l : Nat)
  | fn (n : Nat) | cls (n : Nat) | ty (s : String) | dct0

inductive Ob where
  | lst (xs : List D)
  | dct (kvs : List (Int × D))

abbrev Store := List (Option Ob)
/-- where the store's lists stand; lists that are being filled: nobody has them yet -/
structure Adr where
  at_ : Nat → Addr
  rs : Addr → Prop
abbrev Ev := List (Option D)

/-- the ground: the written part, where the defs and classes stand, the tables of code objects -/
structure Gx where
  K : PySem.W.Frag
  fa : Nat → Option Addr
  ca : Nat → Addr
  tabs : List Addr
  xds : List (Addr × List (Str × V)) := []

def Al (ad : Adr) (M : Store) (a : Addr) : Prop := ∃ l o, M[l]? = some (some o) ∧ ad.at_ l = a

section
variable (G : Gx) (ad : Adr) (H : Hp) (M : Store)
def SqF (a : Addr) (xs : List V) : Prop :=
  (Rd H a (.lst xs) ∧ ¬ Al ad M a ∧ ¬ ad.rs a) ∨
    ∃ (o : Obj) (its : Array Value) (n : Nat), G.K.lookup a = some o ∧ o.cls = .type "list" ∧ o.dict = none ∧ o.data = .seq its n ∧ its.size ≤ sizeLine ∧ Vals xs its.toList
mutual
def Rep : D → V → Prop
  | .non, v => v = .non
  | .bl b, v => v = .bl b
  | .int i, v => v = .int i
  | .str s, v => v = .str s
  | .tup xs, v => ∃ a vs, v = .ref a ∧ SqT G.K H a vs ∧ Reps xs vs
  | .lst xs, v => ∃ a vs, v = .ref a ∧ (H a = some (.lst vs) ∧ ¬ Al ad M a ∧ ¬ ad.rs a) ∧ Reps xs vs
  | .scr xs, v => ∃ a vs, v = .ref a ∧ SqF G ad H M a vs ∧ Reps xs vs
  | .loc l, v => v = .ref (ad.at_ l) ∧ l < M.length
  | .fn n, v => ∃ a, G.fa n = some a ∧ v = .ref a
  | .cls n, v => v = .ref (G.ca n)
  | .ty s, v => v = .ty s
  | .dct0, v => ∃ a, v = .ref a ∧ H a = some (.dK []) ∧ ¬ Al ad M a
def Reps : List D → List V → Prop
  | [], vs => vs = []
  | d :: ds, vs => ∃ v r, vs = v :: r ∧ Rep d v ∧ Reps ds r
end
def RepK : List (Int × D) → List (Key × V) → Prop
  | [], vs => vs = []
  | (k, d) :: ds, vs => ∃ v r, vs = (Sum.inl k, v) :: r ∧ Rep G ad H M d v ∧ RepK ds r
def ObRep : Ob → Addr → Prop
  | .lst xs, a => ∃ vs, H a = some (.lst vs) ∧ Reps G ad H M xs vs
  | .dct kvs, a => ∃ vs, H a = some (.dK vs) ∧ RepK G ad H M kvs vs
mutual
def pureD : D → Bool
  | .tup xs => pureDs xs
  | .lst xs => pureDs xs
  | .scr xs => pureDs xs
  | .loc _ => false
  | .fn _ => false
  | _ => true
def pureDs : List D → Bool
  | [] => true
  | d :: ds => pureD d && pureDs ds
end
def pureO : Ob → Bool
  | .lst xs => pureDs xs
  | .dct xs => pureDs (xs.map (·.2))
structure RelM : Prop where
  pur : ∀ (l : Nat) (o : Ob), M[l]? = some (some o) → pureO o = true
  ok : ∀ l o, M[l]? = some (some o) → ObRep G ad H M o (ad.at_ l)
  inj : ∀ l l' o o', M[l]? = some (some o) → M[l']? = some (some o') → ad.at_ l = ad.at_ l' → l = l'
  tab : ∀ P ∈ G.tabs, ∃ ps : Array Value, H P = some (.tbl ps) ∧ TriplesOk ps.toList
  xd : ∀ p ∈ G.xds, H p.1 = some (.xd p.2)
  rsv : ∀ a, ad.rs a → (∃ vs, H a = some (.lst vs)) ∧ ¬ Al ad M a
def RelE (env : Ev) (σ : List (Option V)) : Prop :=
  env.length = σ.length ∧ ∀ (i : Nat) (d : D), env[i]? = some (some d) → ∃ v : V, σ[i]? = some (some v) ∧ Rep G ad H M d v
end

def isTbl : HO → Bool
  | .tbl _ => true
  | _ => false

/-- the world has grown -/
structure Ext0 (G : Gx) (ad : Adr) (H : Hp) (M : Store) (ad' : Adr) (H' : Hp) (M' : Store) : Prop where
  rsu : ∀ a, ad'.rs a → ad.rs a ∨ H a = none
  len : M.length ≤ M'.length
  adr : ∀ l, l < M.length → ad'.at_ l = ad.at_ l
  frame : ∀ a o, H a = some o → ¬ Al ad M a → isTbl o = false → H' a = some o
  dead : ∀ a, Al ad' M' a → Al ad M a ∨ H a = none
  tbl : ∀ a ps, H a = some (.tbl ps) → ∃ ps', H' a = some (.tbl ps')
  al : ∀ a, Al ad M a → H a ≠ none → H' a ≠ none
/-- .. the lists that are being filled are the same -/
structure Ext (G : Gx) (ad : Adr) (H : Hp) (M : Store) (ad' : Adr) (H' : Hp) (M' : Store) : Prop extends Ext0 G ad H M ad' H' M' where
  rs : ad'.rs = ad.rs

section
variable {G : Gx} {ad ad' ad'' : Adr} {H H' H'' : Hp} {M M' M'' : Store}

theorem Ext0.refl : Ext0 G ad H M ad H M := ⟨fun _ h => .inl h, Nat.le_refl _, fun _ _ => rfl, fun _ _ h _ _ => h, fun _ h => .inl h, fun _ _ h => ⟨_, h⟩, fun _ _ h => h⟩

theorem Ext.refl : Ext G ad H M ad H M := ⟨Ext0.refl, rfl⟩

theorem Ext0.there (e : Ext0 G ad H M ad' H' M') {a : Addr} (h : H' a = none) : H a = none := by
  cases q : H a with
  | none => rfl
  | some o =>
    by_cases al : Al ad M a
    · exact absurd h (e.al a al (by rw [q]; simp))
    · cases o with
      | tbl ps =>
        obtain ⟨ps', e'⟩ := e.tbl a ps q
        rw [h] at e'; cases e'
      | _ =>
        have := e.frame a _ q al rfl
        rw [h] at this; cases this

theorem Ext0.trans (e : Ext0 G ad H M ad' H' M') (f : Ext0 G ad' H' M' ad'' H'' M'') : Ext0 G ad H M ad'' H'' M'' where
  rsu := fun a h => by
    rcases f.rsu a h with q | q
    · exact e.rsu a q
    · exact .inr (e.there q)
  len := Nat.le_trans e.len f.len
  adr := fun l h => (f.adr l (Nat.lt_of_lt_of_le h e.len)).trans (e.adr l h)
  frame := fun a o h al t => f.frame a o (e.frame a o h al t) (fun x => by
    rcases e.dead a x with q | q
    · exact al q
    · rw [h] at q; cases q) t
  dead := fun a x => by
    rcases f.dead a x with q | q
    · exact e.dead a q
    · exact .inr (e.there q)
  tbl := fun a ps h => by
    obtain ⟨p1, h1⟩ := e.tbl a ps h
    exact f.tbl a p1 h1
  al := fun a _ h z => h (e.there (f.there z))

theorem Ext.trans (e : Ext G ad H M ad' H' M') (f : Ext G ad' H' M' ad'' H'' M'') : Ext G ad H M ad'' H'' M'' := ⟨e.toExt0.trans f.toExt0, f.rs.trans e.rs⟩

theorem SqT.ext (e : Ext0 G ad H M ad' H' M') (hm : RelM G ad H M) {a : Addr} {vs : List V} (h : SqT G.K H a vs) : SqT G.K H' a vs := by
  have na : ∀ o, H a = some o → (∀ xs, o ≠ .lst xs) → (∀ xs, o ≠ .dK xs) → ¬ Al ad M a := fun o ho n1 n2 ⟨l, ob, hl, hal⟩ => by
    have := hm.ok l ob hl
    rw [hal] at this
    cases ob with
    | lst xs => obtain ⟨vs', q, _⟩ := this; rw [ho] at q; cases q; exact n1 _ rfl
    | dct xs => obtain ⟨vs', q, _⟩ := this; rw [ho] at q; cases q; exact n2 _ rfl
  rcases h with (h | ⟨o, h⟩) | h
  · exact .inl (.inl (e.frame a _ h (na _ h (fun _ z => by cases z) (fun _ z => by cases z)) rfl))
  · exact .inl (.inr ⟨o, e.frame a _ h (na _ h (fun _ z => by cases z) (fun _ z => by cases z)) rfl⟩)
  · exact .inr h

theorem SqF.ext (e : Ext0 G ad H M ad' H' M') {a : Addr} {vs : List V} (h : SqF G ad H M a vs) : SqF G ad' H' M' a vs := by
  rcases h with ⟨h, na, nr⟩ | h
  · refine .inl ⟨?_, fun al => ?_, fun z => ?_⟩
    · rcases h with h | ⟨o, h⟩
      · exact .inl (e.frame a _ h na rfl)
      · exact .inr ⟨o, e.frame a _ h na rfl⟩
    · rcases e.dead a al with q | q
      · exact na q
      · rcases h with h | ⟨o, h⟩ <;> (rw [h] at q; cases q)
    · rcases e.rsu a z with q | q
      · exact nr q
      · rcases h with h | ⟨o, h⟩ <;> (rw [h] at q; cases q)
  · exact .inr h

mutual
theorem Rep.ext (e : Ext0 G ad H M ad' H' M') (hm : RelM G ad H M) : ∀ (d : D) (v : V), Rep G ad H M d v → Rep G ad' H' M' d v
  | .non, _, h => by simpa [Rep] using h
  | .bl _, _, h => by simpa [Rep] using h
  | .int _, _, h => by simpa [Rep] using h
  | .str _, _, h => by simpa [Rep] using h
  | .fn _, _, h => by simpa [Rep] using h
  | .cls _, _, h => by simpa [Rep] using h
  | .ty _, _, h => by simpa [Rep] using h
  | .loc l, _, h => by
    simp only [Rep] at h ⊢
    exact ⟨by rw [e.adr l h.2]; exact h.1, Nat.lt_of_lt_of_le h.2 e.len⟩
  | .dct0, _, h => by
    simp only [Rep] at h ⊢
    obtain ⟨a, e1, e2, na⟩ := h
    refine ⟨a, e1, e.frame a _ e2 na rfl, fun al => ?_⟩
    rcases e.dead a al with q | q
    · exact na q
    · rw [e2] at q; cases q
  | .tup xs, _, h => by
    simp only [Rep] at h ⊢
    obtain ⟨a, vs, e1, e2, e3⟩ := h
    exact ⟨a, vs, e1, SqT.ext e hm e2, Reps.ext e hm xs vs e3⟩
  | .lst xs, _, h => by
    simp only [Rep] at h ⊢
    obtain ⟨a, vs, e1, ⟨e2, na, nr⟩, e3⟩ := h
    refine ⟨a, vs, e1, ⟨e.frame a _ e2 na rfl, fun al => ?_, fun z => ?_⟩, Reps.ext e hm xs vs e3⟩
    · rcases e.dead a al with q | q
      · exact na q
      · rw [e2] at q; cases q
    · rcases e.rsu a z with q | q
      · exact nr q
      · rw [e2] at q; cases q
  | .scr xs, _, h => by
    simp only [Rep] at h ⊢
    obtain ⟨a, vs, e1, e2, e3⟩ := h
    exact ⟨a, vs, e1, SqF.ext e e2, Reps.ext e hm xs vs e3⟩
theorem Reps.ext (e : Ext0 G ad H M ad' H' M') (hm : RelM G ad H M) : ∀ (ds : List D) (vs : List V), Reps G ad H M ds vs → Reps G ad' H' M' ds vs
  | [], _, h => by simpa [Reps] using h
  | d :: ds, _, h => by
    simp only [Reps] at h ⊢
    obtain ⟨v, r, e1, e2, e3⟩ := h
    exact ⟨v, r, e1, Rep.ext e hm d v e2, Reps.ext e hm ds r e3⟩
end
theorem RelE.ext (e : Ext0 G ad H M ad' H' M') (hm : RelM G ad H M) {env : Ev} {σ : List (Option V)} (h : RelE G ad H M env σ) : RelE G ad' H' M' env σ :=
  ⟨h.1, fun i d q => let ⟨v, h1, h2⟩ := h.2 i d q; ⟨v, h1, Rep.ext e hm d v h2⟩⟩

theorem Reps.length : ∀ (ds : List D) (vs : List V), Reps G ad H M ds vs → vs.length = ds.length
  | [], _, h => by simp only [Reps] at h; rw [h]; rfl
  | d :: ds, _, h => by
    simp only [Reps] at h
    obtain ⟨v, r, e1, e2, e3⟩ := h
    rw [e1, List.length_cons, List.length_cons, Reps.length ds r e3]
theorem Reps.get : ∀ {ds : List D} {vs : List V} {i : Nat} {d : D}, Reps G ad H M ds vs → ds[i]? = some d → ∃ v, vs[i]? = some v ∧ Rep G ad H M d v
  | [], _, _, _, _, q => by simp at q
  | d :: ds, _, 0, x, h, q => by
    simp only [Reps] at h
    obtain ⟨v, r, rfl, e2, e3⟩ := h
    simp only [List.getElem?_cons_zero, Option.some.injEq] at q
    subst q
    exact ⟨v, rfl, e2⟩
  | d :: ds, _, i + 1, x, h, q => by
    simp only [Reps] at h
    obtain ⟨v, r, rfl, e2, e3⟩ := h
    exact Reps.get (i := i) e3 (by simpa using q)
theorem Reps.append : ∀ {ds es : List D} {vs ws : List V}, Reps G ad H M ds vs → Reps G ad H M es ws → Reps G ad H M (ds ++ es) (vs ++ ws)
  | [], _, _, _, h, q => by simp only [Reps] at h; subst h; exact q
  | d :: ds, _, _, _, h, q => by
    simp only [Reps] at h
    obtain ⟨v, r, rfl, e2, e3⟩ := h
    show Reps G ad H M (d :: (ds ++ _)) _
    simp only [Reps]
    exact ⟨v, _, rfl, e2, Reps.append e3 q⟩
theorem Reps.take : ∀ {ds : List D} {vs : List V} (n : Nat), Reps G ad H M ds vs → Reps G ad H M (ds.take n) (vs.take n)
  | _, _, 0, _ => by simp [Reps]
  | [], _, n + 1, h => by simp only [Reps] at h; subst h; simp [Reps]
  | d :: ds, _, n + 1, h => by
    simp only [Reps] at h
    obtain ⟨v, r, rfl, e2, e3⟩ := h
    simp only [List.take_succ_cons, Reps]
    exact ⟨v, _, rfl, e2, Reps.take n e3⟩
theorem Reps.drop : ∀ {ds : List D} {vs : List V} (n : Nat), Reps G ad H M ds vs → Reps G ad H M (ds.drop n) (vs.drop n)
  | _, _, 0, h => by simpa using h
  | [], _, n + 1, h => by simp only [Reps] at h; subst h; simp [Reps]
  | d :: ds, _, n + 1, h => by
    simp only [Reps] at h
    obtain ⟨v, r, rfl, e2, e3⟩ := h
    simpa using Reps.drop n e3
theorem Reps.set : ∀ {ds : List D} {vs : List V} (n : Nat) {d : D} {v : V}, Reps G ad H M ds vs → Rep G ad H M d v → Reps G ad H M (ds.set n d) (vs.set n v)
  | [], _, n, _, _, h, _ => by simp only [Reps] at h; subst h; simp [Reps]
  | x :: ds, _, 0, _, _, h, q => by
    simp only [Reps] at h
    obtain ⟨v, r, rfl, e2, e3⟩ := h
    simp only [List.set_cons_zero, Reps]
    exact ⟨_, _, rfl, q, e3⟩
  | x :: ds, _, n + 1, _, _, h, q => by
    simp only [Reps] at h
    obtain ⟨v, r, rfl, e2, e3⟩ := h
    simp only [List.set_cons_succ, Reps]
    exact ⟨_, _, rfl, e2, Reps.set n e3 q⟩
theorem Reps.eraseIdx : ∀ {ds : List D} {vs : List V} (n : Nat), Reps G ad H M ds vs → Reps G ad H M (ds.eraseIdx n) (vs.eraseIdx n)
  | [], _, n, h => by simp only [Reps] at h; subst h; simp [Reps]
  | x :: ds, _, 0, h => by
    simp only [Reps] at h
    obtain ⟨v, r, rfl, e2, e3⟩ := h
    simpa using e3
  | x :: ds, _, n + 1, h => by
    simp only [Reps] at h
    obtain ⟨v, r, rfl, e2, e3⟩ := h
    simp only [List.eraseIdx_cons_succ, Reps]
    exact ⟨_, _, rfl, e2, Reps.eraseIdx n e3⟩
theorem Reps.reverse : ∀ {ds : List D} {vs : List V}, Reps G ad H M ds vs → Reps G ad H M ds.reverse vs.reverse
  | [], _, h => by simp only [Reps] at h; subst h; simp [Reps]
  | x :: ds, _, h => by
    simp only [Reps] at h
    obtain ⟨v, r, rfl, e2, e3⟩ := h
    rw [List.reverse_cons, List.reverse_cons]
    refine Reps.append (Reps.reverse e3) ?_
    simp only [Reps]
    exact ⟨_, _, rfl, e2, rfl⟩

/-- a new object that the store doesn't have -/
theorem Ext.laid {p : Addr} {o : HO} (hp : H p = none) (hm : RelM G ad H M) : Ext G ad H M ad (upd H p o) M where
  rs := rfl
  rsu := fun _ h => .inl h
  len := Nat.le_refl _
  adr := fun _ _ => rfl
  frame := fun a u h _ _ => by
    rw [upd_ne (fun z => by rw [z, hp] at h; cases h)]; exact h
  dead := fun _ h => .inl h
  tbl := fun a ps h => ⟨ps, by rw [upd_ne (fun z => by rw [z, hp] at h; cases h)]; exact h⟩
  al := fun a _ h => by
    by_cases q : a = p
    · subst q; rw [upd_same]; simp
    · rw [upd_ne q]; exact h
theorem RepK.ext (e : Ext0 G ad H M ad' H' M') (hm : RelM G ad H M) : ∀ (ds : List (Int × D)) (vs : List (Key × V)), RepK G ad H M ds vs → RepK G ad' H' M' ds vs
  | [], _, h => by simpa [RepK] using h
  | (k, d) :: ds, _, h => by
    simp only [RepK] at h ⊢
    obtain ⟨v, r, e1, e2, e3⟩ := h
    exact ⟨v, r, e1, Rep.ext e hm d v e2, RepK.ext e hm ds r e3⟩
theorem ObRep.there {o : Ob} {a : Addr} (h : ObRep G ad H M o a) : H a ≠ none := by
  cases o with
  | lst xs => obtain ⟨vs, q, _⟩ := h; rw [q]; simp
  | dct xs => obtain ⟨vs, q, _⟩ := h; rw [q]; simp
theorem ObRep.notbl {o : Ob} {a : Addr} (h : ObRep G ad H M o a) : ∀ ps, H a ≠ some (.tbl ps) := fun ps z => by
  cases o with
  | lst xs => obtain ⟨vs, q, _⟩ := h; rw [q] at z; cases z
  | dct xs => obtain ⟨vs, q, _⟩ := h; rw [q] at z; cases z
theorem RelM.laid {p : Addr} {o : HO} (hp : H p = none) (hm : RelM G ad H M) : RelM G ad (upd H p o) M where
  pur := hm.pur
  ok := fun l ob h => by
    have e := Ext.laid (o := o) hp hm
    have q := hm.ok l ob h
    have ne : ad.at_ l ≠ p := fun z => q.there (by rw [z]; exact hp)
    cases ob with
    | lst xs =>
      obtain ⟨vs, q1, q2⟩ := q
      exact ⟨vs, by rw [upd_ne ne]; exact q1, Reps.ext e.toExt0 hm _ _ q2⟩
    | dct xs =>
      obtain ⟨vs, q1, q2⟩ := q
      exact ⟨vs, by rw [upd_ne ne]; exact q1, RepK.ext e.toExt0 hm _ _ q2⟩
  inj := hm.inj
  tab := fun P hP => by
    obtain ⟨ps, h1, h2⟩ := hm.tab P hP
    exact ⟨ps, by rw [upd_ne (fun z => by rw [z, hp] at h1; cases h1)]; exact h1, h2⟩
  xd := fun r hr => (upd_ne (fun z => by have y := hm.xd r hr; rw [z, hp] at y; cases y)).trans (hm.xd r hr)
  rsv := fun a ha => by
    obtain ⟨⟨vs, h1⟩, h2⟩ := hm.rsv a ha
    exact ⟨⟨vs, by rw [upd_ne (fun z => by rw [z, hp] at h1; cases h1)]; exact h1⟩, h2⟩
theorem notRs_new {p : Addr} (hp : H p = none) (hm : RelM G ad H M) : ¬ ad.rs p := fun h => by
  obtain ⟨⟨vs, h1⟩, _⟩ := hm.rsv p h
  rw [hp] at h1; cases h1
theorem notAl_new {p : Addr} (hp : H p = none) (hm : RelM G ad H M) : ¬ Al ad M p := fun ⟨l, o, h, e⟩ => by
  have := (hm.ok l o h).there
  rw [e] at this
  exact this hp
/-- a new tuple, a new list of the store's outside -/
theorem rep_tup {p : Addr} {ds : List D} {vs : List V} (hp : H p = none) (hm : RelM G ad H M) (h : Reps G ad H M ds vs) : Rep G ad (upd H p (.tup vs)) M (.tup ds) (.ref p) := by
  simp only [Rep]
  exact ⟨p, vs, rfl, .inl (.inl upd_same), Reps.ext (Ext.laid hp hm).toExt0 hm _ _ h⟩
theorem rep_lst {p : Addr} {ds : List D} {vs : List V} (hp : H p = none) (hm : RelM G ad H M) (h : Reps G ad H M ds vs) : Rep G ad (upd H p (.lst vs)) M (.lst ds) (.ref p) := by
  simp only [Rep]
  exact ⟨p, vs, rfl, ⟨upd_same, notAl_new hp hm, notRs_new hp hm⟩, Reps.ext (Ext.laid hp hm).toExt0 hm _ _ h⟩
/-- a new place of the store -/
def adNew (ad : Adr) (n : Nat) (p : Addr) : Adr := ⟨fun l => if l = n then p else ad.at_ l, ad.rs⟩
theorem getElem?_new {α : Type} {M : List α} {x o : α} {l : Nat} (h : (M ++ [x])[l]? = some o) : (l < M.length ∧ M[l]? = some o) ∨ (l = M.length ∧ o = x) := by
  by_cases hl : l < M.length
  · rw [List.getElem?_append_left hl] at h; exact .inl ⟨hl, h⟩
  · rw [List.getElem?_append_right (by omega)] at h
    have : l - M.length = 0 := by
      cases q : l - M.length with
      | zero => rfl
      | succ k => rw [q] at h; simp at h
    rw [this] at h
    simp at h
    exact .inr ⟨by omega, h.symm⟩
theorem Ext.alloc {p : Addr} {o : HO} {ob : Ob} (hp : H p = none) (hm : RelM G ad H M) : Ext G ad H M (adNew ad M.length p) (upd H p o) (M ++ [some ob]) where
  rs := rfl
  rsu := fun _ h => .inl h
  len := by simp
  adr := fun l hl => by unfold adNew; simp only; rw [if_neg (by omega)]
  frame := fun a u h _ _ => by rw [upd_ne (fun z => by rw [z, hp] at h; cases h)]; exact h
  dead := fun a ⟨l, u, h, e⟩ => by
    rcases getElem?_new h with ⟨hl, h⟩ | ⟨hl, _⟩
    · refine .inl ⟨l, u, h, ?_⟩
      rw [← e]; unfold adNew; simp only; rw [if_neg (by omega)]
    · refine .inr ?_
      rw [← e]; unfold adNew; simp only; rw [if_pos hl]; exact hp
  tbl := fun a ps h => ⟨ps, by rw [upd_ne (fun z => by rw [z, hp] at h; cases h)]; exact h⟩
  al := fun a _ h => by
    by_cases q : a = p
    · subst q; rw [upd_same]; simp
    · rw [upd_ne q]; exact h
theorem RelM.alloc {p : Addr} {o : HO} {ob : Ob} (hp : H p = none) (hm : RelM G ad H M) (hpu : pureO ob = true) (hob : ObRep G (adNew ad M.length p) (upd H p o) (M ++ [some ob]) ob p) : RelM G (adNew ad M.length p) (upd H p o) (M ++ [some ob]) where
  pur := fun l u h => by
    rcases getElem?_new h with ⟨hl, h⟩ | ⟨hl, e⟩
    · exact hm.pur l u h
    · simp only [Option.some.injEq] at e; subst e; exact hpu
  ok := fun l u h => by
    rcases getElem?_new h with ⟨hl, h⟩ | ⟨hl, e⟩
    · have e := Ext.alloc (o := o) (ob := ob) hp hm
      have q := hm.ok l u h
      have ne : ad.at_ l ≠ p := fun z => q.there (by rw [z]; exact hp)
      rw [e.adr l hl]
      cases u with
      | lst xs =>
        obtain ⟨vs, q1, q2⟩ := q
        exact ⟨vs, by rw [upd_ne ne]; exact q1, Reps.ext e.toExt0 hm _ _ q2⟩
      | dct xs =>
        obtain ⟨vs, q1, q2⟩ := q
        exact ⟨vs, by rw [upd_ne ne]; exact q1, RepK.ext e.toExt0 hm _ _ q2⟩
    · simp only [Option.some.injEq] at e
      subst e
      have z : (adNew ad M.length p).at_ l = p := by unfold adNew; simp only; rw [if_pos hl]
      rw [z]
      exact hob
  inj := fun l l' u u' h h' e => by
    have key : ∀ k v, M[k]? = some (some v) → ad.at_ k ≠ p := fun k v hk z => (hm.ok k v hk).there (by rw [z]; exact hp)
    rcases getElem?_new h with ⟨hl, h⟩ | ⟨hl, _⟩ <;> rcases getElem?_new h' with ⟨hl', h'⟩ | ⟨hl', _⟩
    · unfold adNew at e; simp only at e
      rw [if_neg (by omega), if_neg (by omega)] at e
      exact hm.inj _ _ _ _ h h' e
    · unfold adNew at e; simp only at e
      rw [if_neg (by omega), if_pos hl'] at e
      exact absurd e (key _ _ h)
    · unfold adNew at e; simp only at e
      rw [if_pos hl, if_neg (by omega)] at e
      exact absurd e.symm (key _ _ h')
    · omega
  tab := fun P hP => by
    obtain ⟨ps, h1, h2⟩ := hm.tab P hP
    exact ⟨ps, by rw [upd_ne (fun z => by rw [z, hp] at h1; cases h1)]; exact h1, h2⟩
  xd := fun r hr => (upd_ne (fun z => by have y := hm.xd r hr; rw [z, hp] at y; cases y)).trans (hm.xd r hr)
  rsv := fun a ha => by
    obtain ⟨⟨vs, h1⟩, h2⟩ := hm.rsv a ha
    refine ⟨⟨vs, by rw [upd_ne (fun z => by rw [z, hp] at h1; cases h1)]; exact h1⟩, fun al => ?_⟩
    rcases (Ext.alloc (o := o) (ob := ob) hp hm).dead a al with q | q
    · exact h2 q
    · rw [h1] at q; cases q
/-- a list of the store is written -/
theorem Ext.write {l : Nat} {ob ob' : Ob} {o : HO} (hl : M[l]? = some (some ob)) (hm : RelM G ad H M) (ho : isTbl o = false) : Ext G ad H M ad (upd H (ad.at_ l) o) (M.set l (some ob')) where
  rs := rfl
  rsu := fun _ h => .inl h
  len := by simp
  adr := fun _ _ => rfl
  frame := fun a u h na _ => by rw [upd_ne (fun z => na ⟨l, ob, hl, z.symm⟩)]; exact h
  dead := fun a ⟨k, u, h, e⟩ => by
    by_cases q : k = l
    · subst q; exact .inl ⟨k, ob, hl, e⟩
    · rw [List.getElem?_set_ne (Ne.symm q)] at h; exact .inl ⟨k, u, h, e⟩
  tbl := fun a ps h => ⟨ps, by rw [upd_ne (fun z => (hm.ok l ob hl).notbl ps (by rw [← z]; exact h))]; exact h⟩
  al := fun a _ h => by
    by_cases q : a = ad.at_ l
    · rw [q, upd_same]; simp
    · rw [upd_ne q]; exact h
theorem RelM.write {l : Nat} {ob ob' : Ob} {o : HO} (hl : M[l]? = some (some ob)) (hm : RelM G ad H M) (ho : isTbl o = false) (hpu : pureO ob' = true) (hob : ObRep G ad (upd H (ad.at_ l) o) (M.set l (some ob')) ob' (ad.at_ l)) : RelM G ad (upd H (ad.at_ l) o) (M.set l (some ob')) where
  pur := fun k u h => by
    by_cases q : k = l
    · subst q
      have hk : k < M.length := by
        rcases Nat.lt_or_ge k M.length with z | z
        · exact z
        · rw [List.getElem?_eq_none z] at hl; cases hl
      rw [List.getElem?_set_self hk] at h
      simp only [Option.some.injEq] at h
      subst h
      exact hpu
    · rw [List.getElem?_set_ne (Ne.symm q)] at h
      exact hm.pur k u h
  ok := fun k u h => by
    have e := Ext.write (ob' := ob') (o := o) hl hm ho
    by_cases q : k = l
    · subst q
      have hk : k < M.length := by
        rcases Nat.lt_or_ge k M.length with z | z
        · exact z
        · rw [List.getElem?_eq_none z] at hl; cases hl
      rw [List.getElem?_set_self hk] at h
      simp only [Option.some.injEq] at h
      subst h
      exact hob
    · rw [List.getElem?_set_ne (Ne.symm q)] at h
      have qq := hm.ok k u h
      have ne : ad.at_ k ≠ ad.at_ l := fun z => q (hm.inj _ _ _ _ h hl z)
      cases u with
      | lst xs =>
        obtain ⟨vs, q1, q2⟩ := qq
        exact ⟨vs, by rw [upd_ne ne]; exact q1, Reps.ext e.toExt0 hm _ _ q2⟩
      | dct xs =>
        obtain ⟨vs, q1, q2⟩ := qq
        exact ⟨vs, by rw [upd_ne ne]; exact q1, RepK.ext e.toExt0 hm _ _ q2⟩
  inj := fun k k' u u' h h' e => by
    have back : ∀ (j : Nat) (v : Ob), (M.set l (some ob'))[j]? = some (some v) → ∃ v', M[j]? = some (some v') := fun j v hj => by
      by_cases q : j = l
      · subst q; exact ⟨ob, hl⟩
      · rw [List.getElem?_set_ne (Ne.symm q)] at hj; exact ⟨v, hj⟩
    obtain ⟨w1, h1⟩ := back k u h
    obtain ⟨w2, h2⟩ := back k' u' h'
    exact hm.inj _ _ _ _ h1 h2 e
  tab := fun P hP => by
    obtain ⟨ps, h1, h2⟩ := hm.tab P hP
    exact ⟨ps, by rw [upd_ne (fun z => (hm.ok l ob hl).notbl ps (by rw [← z]; exact h1))]; exact h1, h2⟩
  xd := fun r hr => (upd_ne (fun z => by
    have y := hm.xd r hr
    rw [z] at y
    have q := hm.ok l ob hl
    cases ob with
    | lst xs => obtain ⟨_, q1, _⟩ := q; rw [q1] at y; cases y
    | dct xs => obtain ⟨_, q1, _⟩ := q; rw [q1] at y; cases y)).trans (hm.xd r hr)
  rsv := fun a ha => by
    obtain ⟨⟨vs, h1⟩, h2⟩ := hm.rsv a ha
    refine ⟨⟨vs, by rw [upd_ne (fun z => h2 ⟨l, ob, hl, z.symm⟩)]; exact h1⟩, fun al => ?_⟩
    rcases (Ext.write (ob' := ob') (o := o) hl hm ho).dead a al with q | q
    · exact h2 q
    · rw [h1] at q; cases q
/-- a place of the store is left: what stands there changes no more -/
theorem Ext.drop {l : Nat} : Ext G ad H M ad H (M.set l none) where
  rs := rfl
  rsu := fun _ h => .inl h
  len := by simp
  adr := fun _ _ => rfl
  frame := fun a u h _ _ => h
  dead := fun a ⟨k, u, h, e⟩ => by
    by_cases q : k = l
    · subst q
      by_cases hk : k < M.length
      · rw [List.getElem?_set_self hk] at h; cases h
      · rw [List.getElem?_eq_none (by simpa using hk)] at h; cases h
    · rw [List.getElem?_set_ne (Ne.symm q)] at h; exact .inl ⟨k, u, h, e⟩
  tbl := fun a ps h => ⟨ps, h⟩
  al := fun a _ h => h
theorem drop_back {l k : Nat} {u : Ob} (h : (M.set l none)[k]? = some (some u)) : k ≠ l ∧ M[k]? = some (some u) := by
  by_cases q : k = l
  · subst q
    by_cases hk : k < M.length
    · rw [List.getElem?_set_self hk] at h; cases h
    · rw [List.getElem?_eq_none (by simpa using hk)] at h; cases h
  · rw [List.getElem?_set_ne (Ne.symm q)] at h; exact ⟨q, h⟩
theorem RelM.drop {l : Nat} (hm : RelM G ad H M) : RelM G ad H (M.set l none) where
  pur := fun k u h => hm.pur k u (drop_back h).2
  ok := fun k u h => by
    obtain ⟨_, h⟩ := drop_back h
    have qq := hm.ok k u h
    cases u with
    | lst xs =>
      obtain ⟨vs, q1, q2⟩ := qq
      exact ⟨vs, q1, Reps.ext Ext.drop.toExt0 hm _ _ q2⟩
    | dct xs =>
      obtain ⟨vs, q1, q2⟩ := qq
      exact ⟨vs, q1, RepK.ext Ext.drop.toExt0 hm _ _ q2⟩
  inj := fun k k' u u' h h' e => hm.inj _ _ _ _ (drop_back h).2 (drop_back h').2 e
  tab := hm.tab
  xd := hm.xd
  rsv := fun a ha => ⟨(hm.rsv a ha).1, fun al => by
    rcases (Ext.drop (G := G) (ad := ad) (H := H) (M := M) (l := l)).dead a al with q | q
    · exact (hm.rsv a ha).2 q
    · obtain ⟨vs, h1⟩ := (hm.rsv a ha).1
      rw [h1] at q; cases q⟩
end
end Mi


set_option Elab.async false
set_option linter.all false
set_option maxRecDepth 100000
/-! Mi1: results, what is wanted behind them, readings of a result; operators by values. -/
namespace Mi
open PySem PySem.Spec PyProof.Rows L2

inductive Res (α : Type) where
  | ok (a : α) (M : Store)
  | exc (c : Nat) (fs : List (Str × D)) (M : Store)
  | stuck

def Res.bind {α β : Type} (r : Res α) (f : α → Store → Res β) : Res β :=
  match r with
  | .ok a M => f a M
  | .exc c fs M => .exc c fs M
  | .stuck => .stuck
def Res.map {α β : Type} (f : α → β) (r : Res α) : Res β := r.bind fun a M => .ok (f a) M
/-- a value that may be missing: then nothing is told -/
def Res.of {α : Type} (o : Option α) (M : Store) : Res α := match o with
  | some a => .ok a M
  | none => .stuck

/-- an exception of the class c with these fields -/
def ExR (G : Gx) (ad : Adr) (H : Hp) (M : Store) (c : Nat) (fs : List (Str × D)) (cls : Value) (d : Option Addr) : Prop :=
  cls = .ref (G.ca c) ∧ ((fs = [] ∧ d = none) ∨ fs ≠ [] ∧ ∃ (dd : Addr) (vs : List (Str × V)), d = some dd ∧ H dd = some (.xd vs) ∧ vs.map (·.1) = fs.map (·.1) ∧ Reps G ad H M (fs.map (·.2)) (vs.map (·.2)))

abbrev WX0 := Value → Option Addr → Hp → Prop

/-- what is wanted behind a result -/
def PostR {α β : Type} (G : Gx) (W : WX0) (rel : Adr → Hp → Store → α → β → Prop) (ad : Adr) (H : Hp) (M : Store) (r : Res α) (Q : β → Hp → Prop) : Prop :=
  match r with
  | .ok d M' => ∀ ad' H' v, Ext G ad H M ad' H' M' → RelM G ad' H' M' → rel ad' H' M' d v → Q v H'
  | .exc c fs M' => ∀ ad' H' cls dd, Ext G ad H M ad' H' M' → RelM G ad' H' M' → ExR G ad' H' M' c fs cls dd → W cls dd H'
  | .stuck => False

section
variable {G : Gx} {W : WX0} {ad ad' : Adr} {H H' : Hp} {M M' : Store}

theorem PostR.mono {α β : Type} {rel : Adr → Hp → Store → α → β → Prop} {r : Res α} {Q : β → Hp → Prop} (h : PostR G W rel ad H M r Q) (e : Ext G ad H M ad' H' M') : PostR G W rel ad' H' M' r Q := by
  cases r with
  | ok d M2 => exact fun ad2 H2 v e2 m2 r2 => h ad2 H2 v (e.trans e2) m2 r2
  | exc c fs M2 => exact fun ad2 H2 cls dd e2 m2 r2 => h ad2 H2 cls dd (e.trans e2) m2 r2
  | stuck => exact h

theorem PostR.bind {α β γ δ : Type} {rel : Adr → Hp → Store → α → β → Prop} {rel2 : Adr → Hp → Store → γ → δ → Prop} {r : Res α} {k : α → Store → Res γ} {Q : δ → Hp → Prop}
    (h : PostR G W rel2 ad H M (r.bind k) Q) :
    PostR G W rel ad H M r fun v H' => ∃ d M' ad', Ext G ad H M ad' H' M' ∧ RelM G ad' H' M' ∧ rel ad' H' M' d v ∧ PostR G W rel2 ad' H' M' (k d M') Q := by
  cases r with
  | ok d M2 => exact fun ad2 H2 v e2 m2 r2 => ⟨d, M2, ad2, e2, m2, r2, PostR.mono h e2⟩
  | exc c fs M2 => exact h
  | stuck => exact h

theorem PostR.ret {α β : Type} {rel : Adr → Hp → Store → α → β → Prop} {d : α} {v : β} {Q : β → Hp → Prop} (h : PostR G W rel ad H M (.ok d M) Q) (m : RelM G ad H M) (q : rel ad H M d v) : Q v H :=
  h ad H v Ext.refl m q
end

def relV (G : Gx) : Adr → Hp → Store → D → V → Prop := fun ad H M d v => Rep G ad H M d v
def relB : Adr → Hp → Store → Bool → Bool → Prop := fun _ _ _ a b => a = b
def relVs (G : Gx) : Adr → Hp → Store → List D → List V → Prop := fun ad H M d v => Reps G ad H M d v

/-- the readings of results -/
def tE (G : Gx) (W : WX) (f : Ev → Store → Res D) : TE := fun σ H Q => ∃ env M ad, RelE G ad H M env σ ∧ RelM G ad H M ∧ PostR G (fun c d H' => W c d σ H') (relV G) ad H M (f env M) Q
def tT (G : Gx) (W : WX) (f : Ev → Store → Res Bool) : TT := fun σ H Q => ∃ env M ad, RelE G ad H M env σ ∧ RelM G ad H M ∧ PostR G (fun c d H' => W c d σ H') relB ad H M (f env M) Q
def tA (G : Gx) (W : WX) (f : Ev → Store → Res (List D)) : TA := fun σ H Q => ∃ env M ad, RelE G ad H M env σ ∧ RelM G ad H M ∧ PostR G (fun c d H' => W c d σ H') (relVs G) ad H M (f env M) Q

theorem PE.weak {X : Cx} {e : Expr} {t t' : TE} (h : PE X e t) (w : ∀ σ H Q, t' σ H Q → t σ H Q) : PE X e t' := ⟨fun pins s σ H Q I q => h.run pins s σ H Q I (w σ H Q q)⟩
theorem PT.weak {X : Cx} {e : Expr} {t t' : TT} (h : PT X e t) (w : ∀ σ H Q, t' σ H Q → t σ H Q) : PT X e t' := ⟨fun pins s σ H Q I q => h.run pins s σ H Q I (w σ H Q q)⟩
theorem PW.weak {X : Cx} {e : Expr} {t t' : TT} (h : PW X e t) (w : ∀ σ H Q, t' σ H Q → t σ H Q) : PW X e t' := ⟨fun wh pins s σ H Q I q => h.run wh pins s σ H Q I (w σ H Q q)⟩
theorem PA.weak {X : Cx} {es : List Expr} {t t' : TA} (h : PA X es t) (w : ∀ σ H Q, t' σ H Q → t σ H Q) : PA X es t' := ⟨fun pos pins s σ H Q I q => h.run pos pins s σ H Q I (w σ H Q q)⟩

section
variable {G : Gx} {W : WX} {X : Cx}
/-- one result, then another -/
theorem tE_bind {β : Type} {γ : Type} {rel2 : Adr → Hp → Store → β → γ → Prop} {f : Ev → Store → Res D} {k : D → Store → Res β} {env : Ev} {M : Store} {ad : Adr} {σ : L2.St} {H : Hp} {Q : γ → Hp → Prop}
    (re : RelE G ad H M env σ) (rm : RelM G ad H M) (h : PostR G (fun c d H' => W c d σ H') rel2 ad H M ((f env M).bind k) Q) :
    tE G W f σ H fun v H' => ∃ d M' ad', Ext G ad H M ad' H' M' ∧ RelM G ad' H' M' ∧ Rep G ad' H' M' d v ∧ PostR G (fun c d H' => W c d σ H') rel2 ad' H' M' (k d M') Q :=
  ⟨env, M, ad, re, rm, PostR.bind (rel := relV G) h⟩
theorem tT_bind {β : Type} {γ : Type} {rel2 : Adr → Hp → Store → β → γ → Prop} {f : Ev → Store → Res Bool} {k : Bool → Store → Res β} {env : Ev} {M : Store} {ad : Adr} {σ : L2.St} {H : Hp} {Q : γ → Hp → Prop}
    (re : RelE G ad H M env σ) (rm : RelM G ad H M) (h : PostR G (fun c d H' => W c d σ H') rel2 ad H M ((f env M).bind k) Q) :
    tT G W f σ H fun v H' => ∃ M' ad', Ext G ad H M ad' H' M' ∧ RelM G ad' H' M' ∧ PostR G (fun c d H' => W c d σ H') rel2 ad' H' M' (k v M') Q := by
  refine ⟨env, M, ad, re, rm, ?_⟩
  have q := PostR.bind (rel := relB) h
  cases hf : f env M with
  | ok d M2 =>
    rw [hf] at q
    intro ad2 H2 v e2 m2 r2
    obtain ⟨d', M', ad', a, b, c, d⟩ := q ad2 H2 v e2 m2 r2
    cases c
    exact ⟨M', ad', a, b, d⟩
  | exc c fs M2 => rw [hf] at q; exact q
  | stuck => rw [hf] at q; exact q
theorem tA_bind {β : Type} {γ : Type} {rel2 : Adr → Hp → Store → β → γ → Prop} {f : Ev → Store → Res (List D)} {k : List D → Store → Res β} {env : Ev} {M : Store} {ad : Adr} {σ : L2.St} {H : Hp} {Q : γ → Hp → Prop}
    (re : RelE G ad H M env σ) (rm : RelM G ad H M) (h : PostR G (fun c d H' => W c d σ H') rel2 ad H M ((f env M).bind k) Q) :
    tA G W f σ H fun vs H' => ∃ ds M' ad', Ext G ad H M ad' H' M' ∧ RelM G ad' H' M' ∧ Reps G ad' H' M' ds vs ∧ PostR G (fun c d H' => W c d σ H') rel2 ad' H' M' (k ds M') Q :=
  ⟨env, M, ad, re, rm, PostR.bind (rel := relVs G) h⟩

/-! ### names, constants -/
def evVar (i : Nat) : Ev → Store → Res D := fun env M => match env[i]? with
  | some (some d) => .ok d M
  | _ => .stuck
theorem se_var {i : Nat} {x : Str} {pos : Pos} (hN : X.N[i]? = some x) (hv : Vis X.env.scope x) (hd : (x == ("__debug__" : Str)) = false) (hcd : (x == ("__classdict__" : Str)) = false) : PE X (.Name x pos) (tE G W (evVar i)) := by
  refine PE.weak (pe_var hN hv hd hcd) fun σ H Q ⟨env, M, ad, re, rm, h⟩ => ?_
  unfold evVar at h
  split at h
  · rename_i d hd
    obtain ⟨v, h1, h2⟩ := re.2 i d hd
    exact ⟨v, h1, PostR.ret h rm h2⟩
  · exact h.elim
def evC (d : D) : Ev → Store → Res D := fun _ M => .ok d M
theorem se_const {e : Expr} {d : D} {v : V} (h : PE X e (tC v)) (r : ∀ ad H M, Rep G ad H M d v) : PE X e (tE G W (evC d)) :=
  PE.weak h fun σ H Q ⟨env, M, ad, re, rm, q⟩ => PostR.ret q rm (r ad H M)

/-! ### two operands by values -/
/-- what a two-place operation is on trees -/
abbrev Op2 := D → D → Store → Res D
def Sem2 (G : Gx) (g : Op2) (r : R2) : Prop := ∀ (W : WX0) (ad : Adr) (H : Hp) (M : Store) (a b : D) (x y : V) (Q : VK), RelM G ad H M → Rep G ad H M a x → Rep G ad H M b y → PostR G W (relV G) ad H M (g a b M) Q → r x y H Q
def ev2 (g : Op2) (f1 f2 : Ev → Store → Res D) : Ev → Store → Res D := fun env M => (f1 env M).bind fun a M1 => (f2 env M1).bind fun b M2 => g a b M2
theorem PostR.imp {α β : Type} {W : WX0} {rel : Adr → Hp → Store → α → β → Prop} {ad : Adr} {H : Hp} {M : Store} {r : Res α} {Q Q' : β → Hp → Prop} (h : PostR G W rel ad H M r Q) (i : ∀ v H', Q v H' → Q' v H') : PostR G W rel ad H M r Q' := by
  cases r with
  | ok d M2 => exact fun ad2 H2 v e2 m2 r2 => i v H2 (h ad2 H2 v e2 m2 r2)
  | exc c fs M2 => exact h
  | stuck => exact h
theorem tE.imp {f : Ev → Store → Res D} {σ : L2.St} {H : Hp} {Q Q' : VK} (h : tE G W f σ H Q) (i : ∀ v H', Q v H' → Q' v H') : tE G W f σ H Q' :=
  let ⟨env, M, ad, a, b, c⟩ := h; ⟨env, M, ad, a, b, c.imp i⟩
theorem tT.imp {f : Ev → Store → Res Bool} {σ : L2.St} {H : Hp} {Q Q' : Bool → Hp → Prop} (h : tT G W f σ H Q) (i : ∀ v H', Q v H' → Q' v H') : tT G W f σ H Q' :=
  let ⟨env, M, ad, a, b, c⟩ := h; ⟨env, M, ad, a, b, c.imp i⟩
theorem tA.imp {f : Ev → Store → Res (List D)} {σ : L2.St} {H : Hp} {Q Q' : List V → Hp → Prop} (h : tA G W f σ H Q) (i : ∀ v H', Q v H' → Q' v H') : tA G W f σ H Q' :=
  let ⟨env, M, ad, a, b, c⟩ := h; ⟨env, M, ad, a, b, c.imp i⟩
theorem tE_two {g : Op2} {r : R2} {f1 f2 : Ev → Store → Res D} (hs : Sem2 G g r) {σ : L2.St} {H : Hp} {Q : VK} (h : tE G W (ev2 g f1 f2) σ H Q) : tOp r (tE G W f1) (tE G W f2) σ H Q := by
  obtain ⟨env, M, ad, re, rm, q⟩ := h
  refine tE.imp (tE_bind re rm q) fun x H1 ⟨a, M1, ad1, e1, m1, r1, q1⟩ => ?_
  refine tE.imp (tE_bind (re.ext e1.toExt0 rm) m1 q1) fun y H2 ⟨b, M2, ad2, e2, m2, r2, q2⟩ => ?_
  exact hs _ ad2 H2 M2 a b x y Q m2 (Rep.ext e2.toExt0 m1 a x r1) r2 q2
theorem se_bin {op : Operator} {a b : Expr} {pos : Pos} {g : Op2} {r : R2} {f1 f2 : Ev → Store → Res D} (ho : OpR X (binaryOp op) r) (hs : Sem2 G g r) (ha : PE X a (tE G W f1)) (hb : PE X b (tE G W f2)) : PE X (.BinOp a op b pos) (tE G W (ev2 g f1 f2)) :=
  PE.weak (pe_op ho ha hb) fun _ _ _ h => tE_two hs h
theorem se_cmp {op : CmpOp} {a b : Expr} {pos : Pos} {g : Op2} {r : R2} {f1 f2 : Ev → Store → Res D} (ho : OpR X (compareOp op) r) (hs : Sem2 G g r) (ha : PE X a (tE G W f1)) (hb : PE X b (tE G W f2)) (hm : behindInMarks op b = false) : PE X (.Compare a [op] [b] pos) (tE G W (ev2 g f1 f2)) :=
  PE.weak (pe_cmpR ho ha hb hm) fun _ _ _ h => tE_two hs h
theorem Sem2.or {g : Op2} {r r' : R2} (h : ∀ (W : WX0) (ad : Adr) (H : Hp) (M : Store) (a b : D) (x y : V) (Q : VK), RelM G ad H M → Rep G ad H M a x → Rep G ad H M b y → PostR G W (relV G) ad H M (g a b M) Q → r x y H Q ∨ r' x y H Q) : Sem2 G g (fun x y H Q => r x y H Q ∨ r' x y H Q) := h

/-! ### truth -/
/-- a value's truth -/
def trD (M : Store) : D → Option Bool
  | .non => some false
  | .bl b => some b
  | .int i => some (i != 0)
  | .str s => if s.length ≤ sizeLine then some ((s.length : Int) != 0) else none
  | .tup xs => some (!xs.isEmpty)
  | .lst xs => some (!xs.isEmpty)
  | .scr xs => some (!xs.isEmpty)
  | .dct0 => some false
  | .loc l => match M[l]? with
    | some (some (.lst xs)) => some (!xs.isEmpty)
    | some (some (.dct xs)) => some (!xs.isEmpty)
    | _ => none
  | _ => none
theorem isEmpty_len {α β : Type} {xs : List α} {ys : List β} (h : xs.length = ys.length) : xs.isEmpty = ys.isEmpty := by
  cases xs <;> cases ys <;> simp at h ⊢
theorem SqF.sq {ad : Adr} {H : Hp} {M : Store} {a : Addr} {vs : List V} (h : SqF G ad H M a vs) : SqL G.K H a vs := by
  rcases h with ⟨h, _⟩ | h
  · exact .inl h
  · exact .inr h
theorem RepK.length {ad : Adr} {H : Hp} {M : Store} : ∀ (ds : List (Int × D)) (vs : List (Key × V)), RepK G ad H M ds vs → vs.length = ds.length
  | [], _, h => by simp only [RepK] at h; rw [h]; rfl
  | (k, d) :: ds, _, h => by
    simp only [RepK] at h
    obtain ⟨v, r, e1, e2, e3⟩ := h
    rw [e1, List.length_cons, List.length_cons, RepK.length ds r e3]
theorem trD_ok {ad : Adr} {H : Hp} {M : Store} {d : D} {v : V} {k : Bool} (rm : RelM G ad H M) (r : Rep G ad H M d v) (h : trD M d = some k) : TruV G.K v H k := by
  cases d with
  | non => simp only [Rep] at r; subst r; simp only [trD, Option.some.injEq] at h; exact h.symm
  | bl b => simp only [Rep] at r; subst r; simp only [trD, Option.some.injEq] at h; exact h.symm
  | int i => simp only [Rep] at r; subst r; simp only [trD, Option.some.injEq] at h; exact h.symm
  | str s =>
    simp only [Rep] at r; subst r; simp only [trD] at h
    split at h
    · rename_i hl
      simp only [Option.some.injEq] at h
      exact ⟨hl, h.symm⟩
    · cases h
  | tup xs =>
    simp only [Rep] at r
    obtain ⟨a, vs, rfl, r1, r2⟩ := r
    simp only [trD, Option.some.injEq] at h
    exact .inr (.inl ⟨vs, r1, by rw [← h, isEmpty_len (Reps.length _ _ r2)]⟩)
  | lst xs =>
    simp only [Rep] at r
    obtain ⟨a, vs, rfl, r1, r2⟩ := r
    simp only [trD, Option.some.injEq] at h
    exact .inl ⟨vs, SqL.of r1.1, by rw [← h, isEmpty_len (Reps.length _ _ r2)]⟩
  | scr xs =>
    simp only [Rep] at r
    obtain ⟨a, vs, rfl, r1, r2⟩ := r
    simp only [trD, Option.some.injEq] at h
    exact .inl ⟨vs, r1.sq, by rw [← h, isEmpty_len (Reps.length _ _ r2)]⟩
  | loc l =>
    simp only [Rep] at r
    obtain ⟨rfl, _⟩ := r
    simp only [trD] at h
    split at h
    · rename_i xs hx
      obtain ⟨vs, q1, q2⟩ := rm.ok l _ hx
      simp only [Option.some.injEq] at h
      exact .inl ⟨vs, SqL.of q1, by rw [← h, isEmpty_len (Reps.length _ _ q2)]⟩
    · rename_i xs hx
      obtain ⟨vs, q1, q2⟩ := rm.ok l _ hx
      simp only [Option.some.injEq] at h
      exact .inr (.inr ⟨vs, q1, by rw [← h, isEmpty_len (RepK.length _ _ q2)]⟩)
    · cases h
  | dct0 =>
    simp only [Rep] at r
    obtain ⟨a, rfl, e2, _⟩ := r
    simp only [trD, Option.some.injEq] at h
    exact .inr (.inr ⟨[], e2, by rw [← h]; rfl⟩)
  | fn n => simp [trD] at h
  | cls n => simp [trD] at h
  | ty n => simp [trD] at h
/-- the truth of a result -/
def evTr (f : Ev → Store → Res D) : Ev → Store → Res Bool := fun env M => (f env M).bind fun d M1 => Res.of (trD M1 d) M1
theorem of_post {α β : Type} {W : WX0} {rel : Adr → Hp → Store → α → β → Prop} {ad : Adr} {H : Hp} {M : Store} {o : Option α} {Q : β → Hp → Prop} (h : PostR G W rel ad H M (Res.of o M) Q) : ∃ a, o = some a ∧ PostR G W rel ad H M (.ok a M) Q := by
  cases o with
  | none => exact h.elim
  | some a => exact ⟨a, rfl, h⟩
theorem st_tr {a : Expr} {f : Ev → Store → Res D} (hK : X.K = G.K) (ha : PE X a (tE G W f)) (he : ∀ whole, isTrue a X.env whole = (do let v ← whole; standAt a.pos; holding [v] (truthy v))) : PT X a (tT G W (evTr f)) :=
  PT.weak (pt_truth ha he) fun σ H Q ⟨env, M, ad, re, rm, q⟩ => by
    refine tE.imp (tE_bind re rm q) fun x H1 ⟨d, M1, ad1, e1, m1, r1, q1⟩ => ?_
    obtain ⟨k, hk, q2⟩ := of_post q1
    exact ⟨k, by rw [hK]; exact trD_ok m1 r1 hk, PostR.ret q2 m1 rfl⟩

/-! ### and, or, not, if -/
def evAnd (f1 f2 : Ev → Store → Res Bool) : Ev → Store → Res Bool := fun env M => (f1 env M).bind fun a M1 => if a = true then f2 env M1 else .ok false M1
def evOr (f1 f2 : Ev → Store → Res Bool) : Ev → Store → Res Bool := fun env M => (f1 env M).bind fun a M1 => if a = true then .ok true M1 else f2 env M1
def evNot (f1 : Ev → Store → Res Bool) : Ev → Store → Res Bool := fun env M => (f1 env M).bind fun a M1 => .ok (!a) M1
variable {a b c : Expr} {rest : List Expr} {pos : Pos} {f1 f2 : Ev → Store → Res Bool}
theorem sw_and1 (ha : PT X a (tT G W f1)) : PW X (.BoolOp .And [a] pos) (tT G W f1) := pw_and1 ha
theorem sw_or1 (ha : PT X a (tT G W f1)) : PW X (.BoolOp .Or [a] pos) (tT G W f1) := pw_or1 ha
theorem sw_and (ha : PT X a (tT G W f1)) (hb : PW X (.BoolOp .And (b :: rest) pos) (tT G W f2)) : PW X (.BoolOp .And (a :: b :: rest) pos) (tT G W (evAnd f1 f2)) :=
  PW.weak (pw_and ha hb) fun σ H Q ⟨env, M, ad, re, rm, q⟩ => by
    refine tT.imp (tT_bind re rm q) fun x H1 ⟨M1, ad1, e1, m1, q1⟩ => ?_
    cases x with
    | false => rw [if_neg (by simp)] at q1 ⊢; exact PostR.ret q1 m1 rfl
    | true => rw [if_pos rfl] at q1 ⊢; exact ⟨env, M1, ad1, re.ext e1.toExt0 rm, m1, q1⟩
theorem sw_or (ha : PT X a (tT G W f1)) (hb : PW X (.BoolOp .Or (b :: rest) pos) (tT G W f2)) : PW X (.BoolOp .Or (a :: b :: rest) pos) (tT G W (evOr f1 f2)) :=
  PW.weak (pw_or ha hb) fun σ H Q ⟨env, M, ad, re, rm, q⟩ => by
    refine tT.imp (tT_bind re rm q) fun x H1 ⟨M1, ad1, e1, m1, q1⟩ => ?_
    cases x with
    | true => rw [if_pos rfl] at q1 ⊢; exact PostR.ret q1 m1 rfl
    | false => rw [if_neg (by simp)] at q1 ⊢; exact ⟨env, M1, ad1, re.ext e1.toExt0 rm, m1, q1⟩
theorem st_not (ha : PT X a (tT G W f1)) : PT X (.UnaryOp .Not a pos) (tT G W (evNot f1)) :=
  PT.weak (pt_not ha) fun σ H Q ⟨env, M, ad, re, rm, q⟩ => by
    refine tT.imp (tT_bind re rm q) fun x H1 ⟨M1, ad1, e1, m1, q1⟩ => ?_
    exact PostR.ret q1 m1 rfl
/-- as values -/
def evAndV (g1 g2 : Ev → Store → Res D) : Ev → Store → Res D := fun env M => (g1 env M).bind fun a M1 => (Res.of (trD M1 a) M1).bind fun k M2 => if k = true then g2 env M2 else .ok a M2
def evOrV (g1 g2 : Ev → Store → Res D) : Ev → Store → Res D := fun env M => (g1 env M).bind fun a M1 => (Res.of (trD M1 a) M1).bind fun k M2 => if k = true then .ok a M2 else g2 env M2
def evNotV (g1 : Ev → Store → Res D) : Ev → Store → Res D := fun env M => (g1 env M).bind fun a M1 => (Res.of (trD M1 a) M1).bind fun k M2 => .ok (.bl (!k)) M2
theorem of_bind {α β γ : Type} {W : WX0} {rel : Adr → Hp → Store → γ → β → Prop} {ad : Adr} {H : Hp} {M M0 : Store} {o : Option α} {k : α → Store → Res γ} {Q : β → Hp → Prop} (h : PostR G W rel ad H M ((Res.of o M0).bind k) Q) : ∃ a, o = some a ∧ PostR G W rel ad H M (k a M0) Q := by
  cases o with
  | none => exact h.elim
  | some a => exact ⟨a, rfl, h⟩
variable {g1 g2 g3 : Ev → Store → Res D}
theorem se_one {op} (h : PE X a (tE G W g1)) : PE X (.BoolOp op [a] pos) (tE G W g1) := pe_one h
theorem se_and (hK : X.K = G.K) (ha : PE X a (tE G W g1)) (hb : PE X (.BoolOp .And (b :: rest) pos) (tE G W g2)) : PE X (.BoolOp .And (a :: b :: rest) pos) (tE G W (evAndV g1 g2)) :=
  PE.weak (pe_andT ha hb) fun σ H Q ⟨env, M, ad, re, rm, q⟩ => by
    refine tE.imp (tE_bind re rm q) fun x H1 ⟨d, M1, ad1, e1, m1, r1, q1⟩ => ?_
    obtain ⟨k, hk, q2⟩ := of_bind q1
    refine ⟨k, by rw [hK]; exact trD_ok m1 r1 hk, ?_⟩
    cases k with
    | false => rw [if_neg (by simp)] at q2 ⊢; exact PostR.ret q2 m1 r1
    | true => rw [if_pos rfl] at q2 ⊢; exact ⟨env, M1, ad1, re.ext e1.toExt0 rm, m1, q2⟩
theorem se_or (hK : X.K = G.K) (ha : PE X a (tE G W g1)) (hb : PE X (.BoolOp .Or (b :: rest) pos) (tE G W g2)) : PE X (.BoolOp .Or (a :: b :: rest) pos) (tE G W (evOrV g1 g2)) :=
  PE.weak (pe_orT ha hb) fun σ H Q ⟨env, M, ad, re, rm, q⟩ => by
    refine tE.imp (tE_bind re rm q) fun x H1 ⟨d, M1, ad1, e1, m1, r1, q1⟩ => ?_
    obtain ⟨k, hk, q2⟩ := of_bind q1
    refine ⟨k, by rw [hK]; exact trD_ok m1 r1 hk, ?_⟩
    cases k with
    | true => rw [if_pos rfl] at q2 ⊢; exact PostR.ret q2 m1 r1
    | false => rw [if_neg (by simp)] at q2 ⊢; exact ⟨env, M1, ad1, re.ext e1.toExt0 rm, m1, q2⟩
theorem rep_bl {ad : Adr} {H : Hp} {M : Store} {b : Bool} : Rep G ad H M (.bl b) (.bl b) := by simp [Rep]
theorem rep_int {ad : Adr} {H : Hp} {M : Store} {b : Int} : Rep G ad H M (.int b) (.int b) := by simp [Rep]
theorem rep_str {ad : Adr} {H : Hp} {M : Store} {b : Str} : Rep G ad H M (.str b) (.str b) := by simp [Rep]
theorem rep_non {ad : Adr} {H : Hp} {M : Store} : Rep G ad H M .non .non := by simp [Rep]
theorem se_not (hK : X.K = G.K) (ha : PE X a (tE G W g1)) : PE X (.UnaryOp .Not a pos) (tE G W (evNotV g1)) :=
  PE.weak (pe_notT ha) fun σ H Q ⟨env, M, ad, re, rm, q⟩ => by
    refine tE.imp (tE_bind re rm q) fun x H1 ⟨d, M1, ad1, e1, m1, r1, q1⟩ => ?_
    obtain ⟨k, hk, q2⟩ := of_bind q1
    exact ⟨k, by rw [hK]; exact trD_ok m1 r1 hk, PostR.ret q2 m1 rep_bl⟩
def evIf (f1 : Ev → Store → Res Bool) (g1 g2 : Ev → Store → Res D) : Ev → Store → Res D := fun env M => (f1 env M).bind fun k M1 => if k = true then g1 env M1 else g2 env M1
theorem se_if (hc : PT X c (tT G W f1)) (ha : PE X a (tE G W g1)) (hb : PE X b (tE G W g2)) : PE X (.IfExp c a b pos) (tE G W (evIf f1 g1 g2)) :=
  PE.weak (pe_ifExp hc ha hb) fun σ H Q ⟨env, M, ad, re, rm, q⟩ => by
    refine tT.imp (tT_bind re rm q) fun x H1 ⟨M1, ad1, e1, m1, q1⟩ => ?_
    cases x with
    | true => rw [if_pos rfl] at q1 ⊢; exact ⟨env, M1, ad1, re.ext e1.toExt0 rm, m1, q1⟩
    | false => rw [if_neg (by simp)] at q1 ⊢; exact ⟨env, M1, ad1, re.ext e1.toExt0 rm, m1, q1⟩

/-! ### argument lists, displays -/
def evNil : Ev → Store → Res (List D) := fun _ M => .ok [] M
def evCons (g : Ev → Store → Res D) (gs : Ev → Store → Res (List D)) : Ev → Store → Res (List D) := fun env M => (g env M).bind fun d M1 => (gs env M1).bind fun ds M2 => .ok (d :: ds) M2
variable {gs : Ev → Store → Res (List D)} {es : List Expr} {e : Expr}
theorem sa_nil : PA X [] (tA G W evNil) := PA.weak pa_nil fun σ H Q ⟨env, M, ad, re, rm, q⟩ => PostR.ret q rm (by simp [relVs, Reps])
theorem sa_cons (ha : PE X e (tE G W g1)) (hr : PA X es (tA G W gs)) (hs : starEach (e :: es) X.env = (false, eval e X.env) :: starEach es X.env) : PA X (e :: es) (tA G W (evCons g1 gs)) :=
  PA.weak (pa_cons ha hr hs) fun σ H Q ⟨env, M, ad, re, rm, q⟩ => by
    refine tE.imp (tE_bind re rm q) fun x H1 ⟨d, M1, ad1, e1, m1, r1, q1⟩ => ?_
    refine tA.imp (tA_bind (re.ext e1.toExt0 rm) m1 q1) fun ys H2 ⟨ds, M2, ad2, e2, m2, r2, q2⟩ => ?_
    exact PostR.ret q2 m2 (by simp only [relVs, Reps]; exact ⟨x, ys, rfl, Rep.ext e2.toExt0 m1 _ _ r1, r2⟩)
/-- a written tuple, a written list that never changes -/
def evTup (gs : Ev → Store → Res (List D)) : Ev → Store → Res D := fun env M => (gs env M).bind fun ds M1 => if ds.length ≤ sizeLine then .ok (.tup ds) M1 else .stuck
def evLst (gs : Ev → Store → Res (List D)) : Ev → Store → Res D := fun env M => (gs env M).bind fun ds M1 => if ds.length ≤ sizeLine then .ok (.lst ds) M1 else .stuck
theorem post_if {α β : Type} {W : WX0} {rel : Adr → Hp → Store → α → β → Prop} {ad : Adr} {H : Hp} {M : Store} {p : Prop} [Decidable p] {r : Res α} {Q : β → Hp → Prop} (h : PostR G W rel ad H M (if p then r else .stuck) Q) : p ∧ PostR G W rel ad H M r Q := by
  by_cases hp : p
  · rw [if_pos hp] at h; exact ⟨hp, h⟩
  · rw [if_neg hp] at h; exact h.elim
/-- the end of a rule that lays a new tuple -/
theorem end_tup {W : WX0} {ad : Adr} {H : Hp} {M : Store} {ds : List D} {vs : List V} {Q : VK} (rm : RelM G ad H M) (r : Reps G ad H M ds vs) (q : PostR G W (relV G) ad H M (.ok (.tup ds) M) Q) : ∀ p, H p = none → Q (.ref p) (upd H p (.tup vs)) :=
  fun p hp => q ad _ _ (Ext.laid hp rm) (RelM.laid hp rm) (rep_tup hp rm r)
theorem end_lst {W : WX0} {ad : Adr} {H : Hp} {M : Store} {ds : List D} {vs : List V} {Q : VK} (rm : RelM G ad H M) (r : Reps G ad H M ds vs) (q : PostR G W (relV G) ad H M (.ok (.lst ds) M) Q) : ∀ p, H p = none → Q (.ref p) (upd H p (.lst vs)) :=
  fun p hp => q ad _ _ (Ext.laid hp rm) (RelM.laid hp rm) (rep_lst hp rm r)
theorem se_tup {x1} (h : PA X es (tA G W gs)) : PE X (.Tuple es x1 pos) (tE G W (evTup gs)) :=
  PE.weak (pe_tup h) fun σ H Q ⟨env, M, ad, re, rm, q⟩ => by
    refine tA.imp (tA_bind re rm q) fun ys H2 ⟨ds, M2, ad2, e2, m2, r2, q2⟩ => ?_
    obtain ⟨hl, q3⟩ := post_if q2
    exact ⟨by rw [Reps.length _ _ r2]; exact hl, end_tup m2 r2 q3⟩
theorem se_lst (h : PA X es (tA G W gs)) : PE X (.List es pos) (tE G W (evLst gs)) :=
  PE.weak (pe_lst h) fun σ H Q ⟨env, M, ad, re, rm, q⟩ => by
    refine tA.imp (tA_bind re rm q) fun ys H2 ⟨ds, M2, ad2, e2, m2, r2, q2⟩ => ?_
    obtain ⟨hl, q3⟩ := post_if q2
    exact ⟨by rw [Reps.length _ _ r2]; exact hl, end_lst m2 r2 q3⟩
/-- a written list that stands in the store -/
def evNew (gs : Ev → Store → Res (List D)) : Ev → Store → Res D := fun env M => (gs env M).bind fun ds M1 => if ds.length ≤ sizeLine ∧ pureDs ds = true then .ok (.loc M1.length) (M1 ++ [some (.lst ds)]) else .stuck
theorem end_new {W : WX0} {ad : Adr} {H : Hp} {M : Store} {ds : List D} {vs : List V} {Q : VK} (hp : pureDs ds = true) (rm : RelM G ad H M) (r : Reps G ad H M ds vs) (q : PostR G W (relV G) ad H M (.ok (.loc M.length) (M ++ [some (.lst ds)])) Q) : ∀ p, H p = none → Q (.ref p) (upd H p (.lst vs)) :=
  fun p hn => q (adNew ad M.length p) _ _ (Ext.alloc hn rm) (RelM.alloc hn rm hp ⟨vs, upd_same, Reps.ext (Ext.alloc hn rm).toExt0 rm _ _ r⟩) (by
    simp only [relV, Rep]
    exact ⟨by unfold adNew; simp, by simp⟩)
theorem se_new (h : PA X es (tA G W gs)) : PE X (.List es pos) (tE G W (evNew gs)) :=
  PE.weak (pe_lst h) fun σ H Q ⟨env, M, ad, re, rm, q⟩ => by
    refine tA.imp (tA_bind re rm q) fun ys H2 ⟨ds, M2, ad2, e2, m2, r2, q2⟩ => ?_
    obtain ⟨⟨hl, hp⟩, q3⟩ := post_if q2
    exact ⟨by rw [Reps.length _ _ r2]; exact hl, end_new hp m2 r2 q3⟩
end
end Mi

set_option Elab.async false
set_option linter.all false
set_option maxRecDepth 100000
/-! Mi2: operators on trees. -/
namespace Mi
open PySem PySem.Spec PyProof.Rows L2
section
variable {G : Gx} {X : Cx}

/-- a list's items, wherever it stands -/
def listOf (M : Store) : D → Option (List D)
  | .lst xs => some xs
  | .loc l => match M[l]? with
    | some (some (.lst xs)) => some xs
    | _ => none
  | _ => none
theorem listOf_ok {ad : Adr} {H : Hp} {M : Store} {d : D} {v : V} {xs : List D} (rm : RelM G ad H M) (r : Rep G ad H M d v) (h : listOf M d = some xs) : ∃ a vs, v = .ref a ∧ H a = some (.lst vs) ∧ Reps G ad H M xs vs := by
  cases d with
  | lst ys =>
    simp only [listOf, Option.some.injEq] at h; subst h
    simp only [Rep] at r
    obtain ⟨a, vs, e, ⟨e2, _, _⟩, e3⟩ := r
    exact ⟨a, vs, e, e2, e3⟩
  | loc l =>
    simp only [listOf] at h
    simp only [Rep] at r
    split at h
    · rename_i ys hx
      simp only [Option.some.injEq] at h; subst h
      obtain ⟨vs, q1, q2⟩ := rm.ok l _ hx
      exact ⟨ad.at_ l, vs, r.1, q1, q2⟩
    · cases h
  | _ => simp [listOf] at h
/-- a list or a tuple, read: the items -/
def seqOf (M : Store) : D → Option (List D)
  | .tup xs => some xs
  | .scr xs => some xs
  | d => listOf M d
theorem seqOf_ok {ad : Adr} {H : Hp} {M : Store} {d : D} {v : V} {xs : List D} (rm : RelM G ad H M) (r : Rep G ad H M d v) (h : seqOf M d = some xs) : ∃ a vs, v = .ref a ∧ (SqL G.K H a vs ∨ SqT G.K H a vs) ∧ Reps G ad H M xs vs := by
  have gen : listOf M d = some xs → ∃ a vs, v = .ref a ∧ (SqL G.K H a vs ∨ SqT G.K H a vs) ∧ Reps G ad H M xs vs := fun q => by
    obtain ⟨a, vs, e1, e2, e3⟩ := listOf_ok rm r q
    exact ⟨a, vs, e1, .inl (SqL.of e2), e3⟩
  cases d with
  | tup ys =>
    simp only [seqOf, Option.some.injEq] at h; subst h
    simp only [Rep] at r
    obtain ⟨a, vs, e, e2, e3⟩ := r
    exact ⟨a, vs, e, .inr e2, e3⟩
  | scr ys =>
    simp only [seqOf, Option.some.injEq] at h; subst h
    simp only [Rep] at r
    obtain ⟨a, vs, e, e2, e3⟩ := r
    exact ⟨a, vs, e, .inl e2.sq, e3⟩
  | _ => exact gen h

/-! ### data for == and in -/
mutual
def toPy : D → Option PyData
  | .non => some .none
  | .bl b => some (.bool b)
  | .int i => some (.int i)
  | .str s => some (.str s)
  | .tup xs => (toPys xs).map .tuple
  | .lst xs => (toPys xs).map .list
  | .scr xs => (toPys xs).map .list
  | _ => none
def toPys : List D → Option (List PyData)
  | [] => some []
  | d :: ds => (toPy d).bind fun p => (toPys ds).map fun ps => p :: ps
end
mutual
theorem toPy_ok {ad : Adr} {H : Hp} {M : Store} : ∀ (d : D) (v : V) (p : PyData), Rep G ad H M d v → toPy d = some p → Dp G.K H v p
  | .non, _, _, r, h => by simp only [Rep] at r; simp only [toPy, Option.some.injEq] at h; subst r; subst h; exact .non
  | .bl b, _, _, r, h => by simp only [Rep] at r; simp only [toPy, Option.some.injEq] at h; subst r; subst h; exact .bl b
  | .int b, _, _, r, h => by simp only [Rep] at r; simp only [toPy, Option.some.injEq] at h; subst r; subst h; exact .int b
  | .str b, _, _, r, h => by simp only [Rep] at r; simp only [toPy, Option.some.injEq] at h; subst r; subst h; exact .str b
  | .tup xs, _, _, r, h => by
    simp only [Rep] at r
    simp only [toPy, Option.map_eq_some_iff] at h
    obtain ⟨a, vs, rfl, r1, r2⟩ := r
    obtain ⟨ps, h1, rfl⟩ := h
    exact .tup r1 (toPys_ok xs vs ps r2 h1)
  | .lst xs, _, _, r, h => by
    simp only [Rep] at r
    simp only [toPy, Option.map_eq_some_iff] at h
    obtain ⟨a, vs, rfl, r1, r2⟩ := r
    obtain ⟨ps, h1, rfl⟩ := h
    exact .lst (SqL.of r1.1) (toPys_ok xs vs ps r2 h1)
  | .scr xs, _, _, r, h => by
    simp only [Rep] at r
    simp only [toPy, Option.map_eq_some_iff] at h
    obtain ⟨a, vs, rfl, r1, r2⟩ := r
    obtain ⟨ps, h1, rfl⟩ := h
    exact .lst r1.sq (toPys_ok xs vs ps r2 h1)
  | .loc _, _, _, _, h => by simp [toPy] at h
  | .fn _, _, _, _, h => by simp [toPy] at h
  | .cls _, _, _, _, h => by simp [toPy] at h
  | .ty _, _, _, _, h => by simp [toPy] at h
  | .dct0, _, _, _, h => by simp [toPy] at h
theorem toPys_ok {ad : Adr} {H : Hp} {M : Store} : ∀ (ds : List D) (vs : List V) (ps : List PyData), Reps G ad H M ds vs → toPys ds = some ps → DpAll G.K H vs ps
  | [], _, _, r, h => by simp only [Reps] at r; simp only [toPys, Option.some.injEq] at h; subst r; subst h; exact .nil
  | d :: ds, _, _, r, h => by
    simp only [Reps] at r
    obtain ⟨v, w, rfl, r1, r2⟩ := r
    simp only [toPys, Option.bind_eq_some_iff, Option.map_eq_some_iff] at h
    obtain ⟨p, h1, qs, h2, rfl⟩ := h
    exact .cons (toPy_ok d v p r1 h1) (toPys_ok ds w qs r2 h2)
end
/-- .. where a list may stand in the store -/
def toPyM (M : Store) (d : D) : Option PyData := match d with
  | .loc _ => (listOf M d).bind fun xs => (toPys xs).map .list
  | _ => toPy d
theorem toPyM_ok {ad : Adr} {H : Hp} {M : Store} {d : D} {v : V} {p : PyData} (rm : RelM G ad H M) (r : Rep G ad H M d v) (h : toPyM M d = some p) : Dp G.K H v p := by
  cases d with
  | loc l =>
    simp only [toPyM, Option.bind_eq_some_iff, Option.map_eq_some_iff] at h
    obtain ⟨xs, h1, ps, h2, rfl⟩ := h
    obtain ⟨a, vs, rfl, e2, e3⟩ := listOf_ok rm r h1
    exact .lst (SqL.of e2) (toPys_ok xs vs ps e3 h2)
  | _ => exact toPy_ok _ _ _ r h

/-! ### == and != -/
def eqDs (M : Store) (a b : D) : Option Bool := (toPyM M a).bind fun p => (toPyM M b).bind fun q => if SeqAt.shaped p = true ∧ SeqAt.shaped q = true then some (PyData.eqv p q) else none
def opEq : Op2 := fun a b M => (Res.of (eqDs M a b) M).bind fun k M => .ok (.bl k) M
def opNe : Op2 := fun a b M => (Res.of (eqDs M a b) M).bind fun k M => .ok (.bl (!k)) M
theorem eqDs_ok {ad : Adr} {H : Hp} {M : Store} {a b : D} {x y : V} {k : Bool} (rm : RelM G ad H M) (ra : Rep G ad H M a x) (rb : Rep G ad H M b y) (h : eqDs M a b = some k) :
    ∃ d e, Dp G.K H x d ∧ Dp G.K H y e ∧ SeqAt.shaped d = true ∧ SeqAt.shaped e = true ∧ PyData.eqv d e = k := by
  simp only [eqDs, Option.bind_eq_some_iff] at h
  obtain ⟨p, h1, q, h2, h3⟩ := h
  split at h3
  · rename_i hs
    simp only [Option.some.injEq] at h3
    exact ⟨p, q, toPyM_ok rm ra h1, toPyM_ok rm rb h2, hs.1, hs.2, h3⟩
  · cases h3
theorem sem_eq : Sem2 G opEq (rEqD G.K) := fun W ad H M a b x y Q rm ra rb q => by
  obtain ⟨k, h1, h2⟩ := of_bind q
  obtain ⟨d, e, a1, a2, a3, a4, a5⟩ := eqDs_ok rm ra rb h1
  exact ⟨d, e, a1, a2, a3, a4, by rw [a5]; exact PostR.ret h2 rm rep_bl⟩
theorem sem_ne : Sem2 G opNe (rNeD G.K) := fun W ad H M a b x y Q rm ra rb q => by
  obtain ⟨k, h1, h2⟩ := of_bind q
  obtain ⟨d, e, a1, a2, a3, a4, a5⟩ := eqDs_ok rm ra rb h1
  exact ⟨d, e, a1, a2, a3, a4, by rw [a5]; exact PostR.ret h2 rm rep_bl⟩

/-! ### arithmetic -/
def lenOk (n : Nat) : Bool := decide (n ≤ sizeLine)
def opAdd : Op2 := fun a b M => match a, b with
  | .int i, .int j => .ok (.int (i + j)) M
  | .str i, .str j => if i.length + j.length ≤ sizeLine then .ok (.str (i ++ j)) M else .stuck
  | .tup xs, .tup ys => if xs.length + ys.length ≤ sizeLine then .ok (.tup (xs ++ ys)) M else .stuck
  | a, b => (Res.of (listOf M a) M).bind fun xs M => (Res.of (listOf M b) M).bind fun ys M => if xs.length + ys.length ≤ sizeLine then .ok (.lst (xs ++ ys)) M else .stuck
def rAddStr : R2 := fun x y H Q => ∃ i j, x = .str i ∧ y = .str j ∧ i.length + j.length ≤ sizeLine ∧ Q (.str (i ++ j)) H
def rAdd (K : PySem.W.Frag) : R2 := fun x y H Q => (rI0 (fun i j => .int (i + j)) x y H Q ∨ rAddStr x y H Q) ∨ (rCatA K x y H Q ∨ rCat x y H Q)
theorem op_addA : OpR X (binaryOp .Add) (rAdd X.K) := (op_add.or op_add_str).or (op_catA.or op_cat)
theorem sem_add : Sem2 G opAdd (rAdd G.K) := fun W ad H M a b x y Q rm ra rb q => by
  unfold opAdd at q
  split at q
  · simp only [Rep] at ra rb; subst ra; subst rb
    exact .inl (.inl ⟨_, _, rfl, rfl, PostR.ret q rm rep_int⟩)
  · simp only [Rep] at ra rb; subst ra; subst rb
    obtain ⟨hl, q⟩ := post_if q
    exact .inl (.inr ⟨_, _, rfl, rfl, hl, PostR.ret q rm rep_str⟩)
  · simp only [Rep] at ra rb
    rename_i xs ys
    obtain ⟨p, vs, rfl, r1, r2⟩ := ra
    obtain ⟨p', vs', rfl, r1', r2'⟩ := rb
    obtain ⟨hl, q⟩ := post_if q
    refine .inr (.inl ⟨p, p', vs, vs', rfl, rfl, r1, r1', by rw [Reps.length _ _ r2, Reps.length _ _ r2']; exact hl, fun e => ?_, fun _ e => ?_, fun _ _ => end_tup rm (Reps.append r2 r2') q⟩)
    · subst e
      have z : xs = [] := by cases xs with
        | nil => rfl
        | cons _ _ => have := Reps.length _ _ r2; simp at this
      subst z
      exact PostR.ret q rm (by simp only [relV, Rep, List.nil_append]; exact ⟨p', vs', rfl, r1', r2'⟩)
    · subst e
      have z : ys = [] := by cases ys with
        | nil => rfl
        | cons _ _ => have := Reps.length _ _ r2'; simp at this
      subst z
      exact PostR.ret q rm (by simp only [relV, Rep, List.append_nil]; exact ⟨p, vs, rfl, r1, r2⟩)
  · obtain ⟨xs, h1, q⟩ := of_bind q
    obtain ⟨ys, h2, q⟩ := of_bind q
    obtain ⟨hl, q⟩ := post_if q
    obtain ⟨p, vs, rfl, r1, r2⟩ := listOf_ok rm ra h1
    obtain ⟨p', vs', rfl, r1', r2'⟩ := listOf_ok rm rb h2
    exact .inr (.inr ⟨p, p', vs, vs', rfl, rfl, r1, r1', by rw [Reps.length _ _ r2, Reps.length _ _ r2']; exact hl, end_lst rm (Reps.append r2 r2') q⟩)

/-- two ints under a condition -/
def opII (C : Int → Int → Prop) [∀ i j, Decidable (C i j)] (f : Int → Int → Int) : Op2 := fun a b M => match a, b with
  | .int i, .int j => if C i j then .ok (.int (f i j)) M else .stuck
  | _, _ => .stuck
theorem sem_II {C : Int → Int → Prop} [∀ i j, Decidable (C i j)] {f : Int → Int → Int} : Sem2 G (opII C f) (rI C fun i j => .int (f i j)) := fun W ad H M a b x y Q rm ra rb q => by
  unfold opII at q
  split at q
  · simp only [Rep] at ra rb; subst ra; subst rb
    obtain ⟨hc, q⟩ := post_if q
    exact ⟨_, _, rfl, rfl, hc, PostR.ret q rm rep_int⟩
  · exact q.elim
def CT (_ _ : Int) : Prop := True
instance : ∀ i j, Decidable (CT i j) := fun _ _ => .isTrue trivial
theorem rI_of {f : Value → Value → Sem Value} {g : Int → Int → V} (h : OpR X f (rI0 g)) : OpR X f (rI CT g) := fun pins s σ H x y v u Q I rx ry ⟨i, j, e1, e2, _, q⟩ => h pins s σ H x y v u Q I rx ry ⟨i, j, e1, e2, q⟩
def CMulB (i j : Int) : Prop := (-(2 ^ 64) < i ∧ i < 2 ^ 64) ∨ (-(2 ^ 64) < j ∧ j < 2 ^ 64)
instance : ∀ i j, Decidable (CMulB i j) := fun i j => by unfold CMulB; exact inferInstance
def CPos (_ j : Int) : Prop := 0 < j
instance : ∀ i j, Decidable (CPos i j) := fun i j => by unfold CPos; exact inferInstance
def CDivB (_ j : Int) : Prop := 0 < j ∧ j < 1073741824
instance : ∀ i j, Decidable (CDivB i j) := fun i j => by unfold CDivB; exact inferInstance
def CPowB (i j : Int) : Prop := 0 ≤ j ∧ j ≤ 1000000 ∧ i.natAbs < 2 ^ 64
instance : ∀ i j, Decidable (CPowB i j) := fun i j => by unfold CPowB; exact inferInstance
def CNn (_ j : Int) : Prop := 0 ≤ j
instance : ∀ i j, Decidable (CNn i j) := fun i j => by unfold CNn; exact inferInstance
def opSub : Op2 := opII CT (· - ·)
def opFdiv : Op2 := opII CDivB (· / ·)
def opMod : Op2 := opII CPos (· % ·)
def opPow : Op2 := opII CPowB fun i j => i ^ j.toNat
def opAnd : Op2 := opII CT Builtin.bitAnd
def opOr : Op2 := opII CT Builtin.bitOr
def opXor : Op2 := opII CT Builtin.bitXor
def opShl : Op2 := opII CPowB fun i j => i * 2 ^ j.toNat
def opShr : Op2 := opII CNn fun i j => i / 2 ^ j.toNat
/-- a * b: ints; a list or a tuple some times -/
def opMul : Op2 := fun a b M => match a, b with
  | .int i, .int j => if CMulB i j then .ok (.int (i * j)) M else .stuck
  | .tup xs, .int k => if xs ≠ [] ∧ 2 ≤ k ∧ k ≤ 1000 ∧ xs.length ≤ 1000 then .ok (.tup (List.replicate k.toNat xs).flatten) M else .stuck
  | a, .int k => (Res.of (listOf M a) M).bind fun xs M => if -(2 ^ 63) ≤ k ∧ k < 2 ^ 63 ∧ xs.length * k.toNat ≤ sizeLine then .ok (.lst (List.replicate k.toNat xs).flatten) M else .stuck
  | _, _ => .stuck
def rMul (K : PySem.W.Frag) : R2 := fun x y H Q => rI CMul (fun i j => .int (i * j)) x y H Q ∨ (rRepT K x y H Q ∨ rRep x y H Q)
theorem op_mulA : OpR X (binaryOp .Mult) (rMul X.K) := op_mul.or (op_repT.or op_rep)
theorem Reps.rep {ad : Adr} {H : Hp} {M : Store} {xs : List D} {vs : List V} (h : Reps G ad H M xs vs) : ∀ n : Nat, Reps G ad H M (List.replicate n xs).flatten (List.replicate n vs).flatten
  | 0 => by simp [Reps]
  | n + 1 => by
    rw [List.replicate_succ, List.replicate_succ, List.flatten_cons, List.flatten_cons]
    exact Reps.append h (Reps.rep h n)
theorem sem_mul : Sem2 G opMul (rMul G.K) := fun W ad H M a b x y Q rm ra rb q => by
  unfold opMul at q
  split at q
  · simp only [Rep] at ra rb; subst ra; subst rb
    obtain ⟨hl, q⟩ := post_if q
    exact .inl ⟨_, _, rfl, rfl, hl, PostR.ret q rm rep_int⟩
  · rename_i xs k
    simp only [Rep] at ra rb; subst rb
    obtain ⟨p, vs, rfl, r1, r2⟩ := ra
    obtain ⟨⟨h1, h2, h3, h4⟩, q⟩ := post_if q
    refine .inr (.inl ⟨p, k, vs, rfl, rfl, r1, fun e => ?_, h2, h3, by rw [Reps.length _ _ r2]; exact h4, end_tup rm (Reps.rep r2 _) q⟩)
    subst e
    cases xs with
    | nil => exact h1 rfl
    | cons _ _ => have := Reps.length _ _ r2; simp at this
  · rename_i k _ _
    simp only [Rep] at rb; subst rb
    obtain ⟨xs, h1, q⟩ := of_bind q
    obtain ⟨⟨h2, h3, h4⟩, q⟩ := post_if q
    obtain ⟨p, vs, rfl, r1, r2⟩ := listOf_ok rm ra h1
    exact .inr (.inr ⟨p, k, vs, rfl, rfl, r1, h2, h3, by rw [Reps.length _ _ r2]; exact h4, end_lst rm (Reps.rep r2 _) q⟩)
  · exact q.elim

/-! ### order -/
def intsOf : List D → Option (List Int)
  | [] => some []
  | .int i :: ds => (intsOf ds).map fun is => i :: is
  | _ => none
theorem intsOf_ok {ad : Adr} {H : Hp} {M : Store} : ∀ {ds : List D} {vs : List V} {is : List Int}, Reps G ad H M ds vs → intsOf ds = some is → vs = is.map V.int
  | [], _, _, r, h => by simp only [Reps] at r; simp only [intsOf, Option.some.injEq] at h; subst r; subst h; rfl
  | d :: ds, _, _, r, h => by
    simp only [Reps] at r
    obtain ⟨v, w, rfl, r1, r2⟩ := r
    cases d with
    | int i =>
      simp only [intsOf, Option.map_eq_some_iff] at h
      obtain ⟨js, h1, rfl⟩ := h
      simp only [Rep] at r1
      rw [r1, intsOf_ok r2 h1]; rfl
    | _ => simp [intsOf] at h
def leT (ns ms : List Int) : Bool := _root_.Ob.lexAt (fun j => decide (ns.getD j 0 = ms.getD j 0)) (fun j => decide (ns.getD j 0 ≤ ms.getD j 0)) (decide (ns.length ≤ ms.length)) 0 (min ns.length ms.length)
/-- two ints, or two tuples of ints -/
def opOrd (f : Int → Int → Bool) (t : List Int → List Int → Option Bool) : Op2 := fun a b M => match a, b with
  | .int i, .int j => .ok (.bl (f i j)) M
  | .tup xs, .tup ys => (Res.of (intsOf xs) M).bind fun is M => (Res.of (intsOf ys) M).bind fun js M => (Res.of (t is js) M).bind fun k M => .ok (.bl k) M
  | _, _ => .stuck
def rOrd (K : PySem.W.Frag) (f : Int → Int → Bool) (t : List Int → List Int → Option Bool) : R2 := fun x y H Q => rI0 (fun i j => .bl (f i j)) x y H Q ∨
  ∃ (a b : Addr) (ns ms : List Int) (k : Bool), x = .ref a ∧ y = .ref b ∧ SqT K H a (ns.map V.int) ∧ SqT K H b (ms.map V.int) ∧ t ns ms = some k ∧ Q (.bl k) H
theorem sem_ord {f : Int → Int → Bool} {t : List Int → List Int → Option Bool} : Sem2 G (opOrd f t) (rOrd G.K f t) := fun W ad H M a b x y Q rm ra rb q => by
  unfold opOrd at q
  split at q
  · simp only [Rep] at ra rb; subst ra; subst rb
    exact .inl ⟨_, _, rfl, rfl, PostR.ret q rm rep_bl⟩
  · simp only [Rep] at ra rb
    obtain ⟨p, vs, rfl, r1, r2⟩ := ra
    obtain ⟨p', vs', rfl, r1', r2'⟩ := rb
    obtain ⟨is, h1, q⟩ := of_bind q
    obtain ⟨js, h2, q⟩ := of_bind q
    obtain ⟨k, h3, q⟩ := of_bind q
    refine .inr ⟨p, p', is, js, k, rfl, rfl, ?_, ?_, h3, PostR.ret q rm rep_bl⟩
    · rw [← intsOf_ok r2 h1]; exact r1
    · rw [← intsOf_ok r2' h2]; exact r1'
  · exact q.elim
def opLt : Op2 := opOrd (fun i j => decide (i < j)) fun a b => some (HT.lexLt a b)
def opLe : Op2 := opOrd (fun i j => decide (i ≤ j)) fun a b => some (leT a b)
def opGt : Op2 := opOrd (fun i j => decide (j < i)) fun _ _ => none
def opGe : Op2 := opOrd (fun i j => decide (j ≤ i)) fun _ _ => none
theorem op_ltA (hu : X.A.units < cLine) : OpR X (compareOp .Lt) (rOrd X.K (fun i j => decide (i < j)) fun a b => some (HT.lexLt a b)) :=
  fun pins s σ H x y v u Q I rx ry h => by
    rcases h with h | ⟨a, b, ns, ms, k, e1, e2, e3, e4, e5, q⟩
    · exact op_lt pins s σ H x y v u Q I rx ry h
    · simp only [Option.some.injEq] at e5
      exact op_ltT hu pins s σ H x y v u Q I rx ry ⟨a, b, ns, ms, e1, e2, e3, e4, by rw [e5]; exact q⟩
theorem op_leA (hu : X.A.units < cLine) : OpR X (compareOp .LtE) (rOrd X.K (fun i j => decide (i ≤ j)) fun a b => some (leT a b)) :=
  fun pins s σ H x y v u Q I rx ry h => by
    rcases h with h | ⟨a, b, ns, ms, k, e1, e2, e3, e4, e5, q⟩
    · exact op_le pins s σ H x y v u Q I rx ry h
    · simp only [Option.some.injEq] at e5
      exact op_leT hu pins s σ H x y v u Q I rx ry ⟨a, b, ns, ms, e1, e2, e3, e4, by unfold leT at e5; rw [e5]; exact q⟩
theorem op_gtA : OpR X (compareOp .Gt) (rOrd X.K (fun i j => decide (j < i)) fun _ _ => none) :=
  fun pins s σ H x y v u Q I rx ry h => by
    rcases h with h | ⟨a, b, ns, ms, k, e1, e2, e3, e4, e5, q⟩
    · exact op_gt pins s σ H x y v u Q I rx ry h
    · cases e5
theorem op_geA : OpR X (compareOp .GtE) (rOrd X.K (fun i j => decide (j ≤ i)) fun _ _ => none) :=
  fun pins s σ H x y v u Q I rx ry h => by
    rcases h with h | ⟨a, b, ns, ms, k, e1, e2, e3, e4, e5, q⟩
    · exact op_ge pins s σ H x y v u Q I rx ry h
    · cases e5

/-! ### is, in -/
def isN : D → Bool
  | .non => true
  | _ => false
def opIs (neg : Bool) : Op2 := fun a b M => match a, b with
  | a, .non => .ok (.bl (xor neg (isN a))) M
  | .bl i, .bl j => .ok (.bl (xor neg (decide (i = j)))) M
  | _, _ => .stuck
def rIs (neg : Bool) : R2 := fun x y H Q => (y = .non ∧ Q (.bl (xor neg (decide (x = .non)))) H) ∨ ∃ a b, x = .bl a ∧ y = .bl b ∧ Q (.bl (xor neg (decide (a = b)))) H
theorem op_isA : OpR X (compareOp .Is) (rIs false) := fun pins s σ H x y v u Q I rx ry h => by
  rcases h with ⟨e, q⟩ | ⟨a, b, e1, e2, q⟩
  · exact op_isN pins s σ H x y v u Q I rx ry ⟨e, by simpa using q⟩
  · exact op_isBl pins s σ H x y v u Q I rx ry ⟨a, b, e1, e2, by simpa using q⟩
theorem op_isNotA : OpR X (compareOp .IsNot) (rIs true) := fun pins s σ H x y v u Q I rx ry h => by
  rcases h with ⟨e, q⟩ | ⟨a, b, e1, e2, q⟩
  · exact op_notN pins s σ H x y v u Q I rx ry ⟨e, by simpa using q⟩
  · exact op_notBl pins s σ H x y v u Q I rx ry ⟨a, b, e1, e2, by simpa using q⟩
theorem rep_non_iff {ad : Adr} {H : Hp} {M : Store} {d : D} {v : V} (r : Rep G ad H M d v) : decide (v = .non) = isN d := by
  cases d with
  | non => simp only [Rep] at r; subst r; rfl
  | bl b => simp only [Rep] at r; subst r; rfl
  | int b => simp only [Rep] at r; subst r; rfl
  | str b => simp only [Rep] at r; subst r; rfl
  | fn b => simp only [Rep] at r; obtain ⟨a, _, rfl⟩ := r; rfl
  | cls b => simp only [Rep] at r; subst r; rfl
  | ty b => simp only [Rep] at r; subst r; rfl
  | loc b => simp only [Rep] at r; obtain ⟨rfl, _⟩ := r; rfl
  | tup b => simp only [Rep] at r; obtain ⟨a, vs, rfl, _⟩ := r; rfl
  | lst b => simp only [Rep] at r; obtain ⟨a, vs, rfl, _⟩ := r; rfl
  | scr b => simp only [Rep] at r; obtain ⟨a, vs, rfl, _⟩ := r; rfl
  | dct0 => simp only [Rep] at r; obtain ⟨a, rfl, _⟩ := r; rfl
theorem sem_is {neg : Bool} : Sem2 G (opIs neg) (rIs neg) := fun W ad H M a b x y Q rm ra rb q => by
  unfold opIs at q
  split at q
  · simp only [Rep] at rb; subst rb
    exact .inl ⟨rfl, by rw [rep_non_iff ra]; exact PostR.ret q rm rep_bl⟩
  · simp only [Rep] at ra rb; subst ra; subst rb
    exact .inr ⟨_, _, rfl, rfl, PostR.ret q rm rep_bl⟩
  · exact q.elim
/-- x in a list or a tuple of data -/
def inDs (M : Store) (a b : D) : Option Bool := (toPyM M a).bind fun p => (toPyM M b).bind fun q => match q with
  | .list qs => if SeqAt.shaped p = true ∧ SeqAt.shaped (.list qs) = true then some (qs.any fun z => PyData.eqv z p) else none
  | .tuple qs => if SeqAt.shaped p = true ∧ SeqAt.shaped (.tuple qs) = true then some (qs.any fun z => PyData.eqv z p) else none
  | _ => none
def opIn (neg : Bool) : Op2 := fun a b M => (Res.of (inDs M a b) M).bind fun k M => .ok (.bl (xor neg k)) M
def rInA (K : PySem.W.Frag) (neg : Bool) : R2 := fun x y H Q => ∃ d qs, Dp K H x d ∧ SeqAt.shaped d = true ∧ ((Dp K H y (.list qs) ∧ SeqAt.shaped (.list qs) = true) ∨ (Dp K H y (.tuple qs) ∧ SeqAt.shaped (.tuple qs) = true)) ∧ Q (.bl (xor neg (qs.any fun z => PyData.eqv z d))) H
theorem op_inA (hu : X.A.units + 65 < cLine) : OpR X (compareOp .In) (rInA X.K false) := fun pins s σ H x y v u Q I rx ry h => by
  obtain ⟨d, qs, h1, h2, h3, q⟩ := h
  have q' : Q (.bl (qs.any fun z => PyData.eqv z d)) H := by simpa using q
  rcases h3 with ⟨h3, h4⟩ | ⟨h3, h4⟩
  · exact op_inD hu pins s σ H x y v u Q I rx ry ⟨d, qs, h1, h3, h2, h4, q'⟩
  · obtain ⟨as, r1⟩ := Dp.reads I d x v h1 rx
    obtain ⟨bs, r2⟩ := Dp.reads I (.tuple qs) y u h3 ry
    exact SeqAt.in_tuple_reads r2 r1 (SeqAt.canLay_of_shaped h4) (SeqAt.canLay_of_shaped h2) (room_in_shaped h2 hu) ⟨.bl _, H, I, rfl, q'⟩
theorem op_notInA (hu : X.A.units + 65 < cLine) : OpR X (compareOp .NotIn) (rInA X.K true) := fun pins s σ H x y v u Q I rx ry h => by
  obtain ⟨d, qs, h1, h2, h3, q⟩ := h
  have q' : Q (.bl (!qs.any fun z => PyData.eqv z d)) H := by simpa using q
  rcases h3 with ⟨h3, h4⟩ | ⟨h3, h4⟩
  · exact op_notInD hu pins s σ H x y v u Q I rx ry ⟨d, qs, h1, h3, h2, h4, q'⟩
  · obtain ⟨as, r1⟩ := Dp.reads I d x v h1 rx
    obtain ⟨bs, r2⟩ := Dp.reads I (.tuple qs) y u h3 ry
    exact SeqAt.notIn_tuple_reads r2 r1 (SeqAt.canLay_of_shaped h4) (SeqAt.canLay_of_shaped h2) (room_in_shaped h2 hu) ⟨.bl _, H, I, rfl, q'⟩
theorem sem_in {neg : Bool} : Sem2 G (opIn neg) (rInA G.K neg) := fun W ad H M a b x y Q rm ra rb q => by
  obtain ⟨k, h1, q⟩ := of_bind q
  simp only [inDs, Option.bind_eq_some_iff] at h1
  obtain ⟨p, h2, p2, h3, h4⟩ := h1
  have d1 := toPyM_ok rm ra h2
  have d2 := toPyM_ok rm rb h3
  split at h4
  · rename_i qs
    split at h4
    · rename_i hs
      simp only [Option.some.injEq] at h4
      exact ⟨p, qs, d1, hs.1, .inl ⟨d2, hs.2⟩, by rw [h4]; exact PostR.ret q rm rep_bl⟩
    · cases h4
  · rename_i qs
    split at h4
    · rename_i hs
      simp only [Option.some.injEq] at h4
      exact ⟨p, qs, d1, hs.1, .inr ⟨d2, hs.2⟩, by rw [h4]; exact PostR.ret q rm rep_bl⟩
    · cases h4
  · cases h4

/-! ### a[i], slices -/
def opIx : Op2 := fun a b M => match b with
  | .int i => match a with
    | .str z => if z.length ≤ sizeLine then (Res.of (atI z.cps.toList i) M).bind fun c M => .ok (.str ⟨#[c]⟩) M else .stuck
    | a => (Res.of (seqOf M a) M).bind fun xs M => (Res.of (atI xs i) M).bind fun d M => .ok d M
  | _ => .stuck
theorem Reps.atI {ad : Adr} {H : Hp} {M : Store} {xs : List D} {vs : List V} {i : Int} {d : D} (r : Reps G ad H M xs vs) (h : atI xs i = some d) : ∃ v, L2.atI vs i = some v ∧ Rep G ad H M d v := by
  unfold L2.atI at h ⊢
  rw [Reps.length _ _ r]
  simp only [Option.bind_eq_some_iff] at h ⊢
  obtain ⟨j, h1, h2⟩ := h
  obtain ⟨v, q1, q2⟩ := Reps.get r h2
  exact ⟨v, ⟨j, h1, q1⟩, q2⟩
theorem sem_ix : Sem2 G opIx (rIx G.K) := fun W ad H M a b x y Q rm ra rb q => by
  unfold opIx at q
  split at q
  · rename_i i
    simp only [Rep] at rb; subst rb
    split at q
    · rename_i z
      simp only [Rep] at ra; subst ra
      obtain ⟨hl, q⟩ := post_if q
      obtain ⟨c, h1, q⟩ := of_bind q
      exact .inr (.inr ⟨z, i, c, rfl, rfl, hl, h1, PostR.ret q rm rep_str⟩)
    · obtain ⟨xs, h1, q⟩ := of_bind q
      obtain ⟨d, h2, q⟩ := of_bind q
      obtain ⟨p, vs, rfl, r1, r2⟩ := seqOf_ok rm ra h1
      obtain ⟨v, h3, h4⟩ := r2.atI h2
      rcases r1 with r1 | r1
      · exact .inl ⟨p, vs, i, v, rfl, rfl, r1, h3, PostR.ret q rm h4⟩
      · exact .inr (.inl ⟨p, vs, i, v, rfl, rfl, r1, h3, PostR.ret q rm h4⟩)
  · exact q.elim
theorem se_ix {W : WX} {a b : Expr} {pos : Pos} {f1 f2 : Ev → Store → Res D} (hK : X.K = G.K) (ha : PE X a (tE G W f1)) (hb : PE X b (tE G W f2)) (hs : PlainIx b) : PE X (.Subscript a b pos) (tE G W (ev2 opIx f1 f2)) :=
  PE.weak (pe_ix ix_seq ha hb hs) fun σ H Q h => by rw [hK]; exact tE_two sem_ix h
end
end Mi

set_option Elab.async false
set_option linter.all false
set_option maxRecDepth 100000
/-! Mi3: slices, calls of defs, statements without loops. -/
namespace Mi
open PySem PySem.Spec PyProof.Rows L2
section
variable {G : Gx} {X : Cx} {W : WX}

/-! ### slices -/
def tO (G : Gx) (W : WX) (f : Ev → Store → Res (Option Int)) : TO := fun σ H Q => ∃ env M ad, RelE G ad H M env σ ∧ RelM G ad H M ∧ PostR G (fun c d H' => W c d σ H') (fun _ _ _ a b => a = b) ad H M (f env M) Q
theorem PO.weak {e : Option Expr} {t t' : TO} (h : PO X e t) (w : ∀ σ H Q, t' σ H Q → t σ H Q) : PO X e t' := ⟨fun pins s σ H Q I q => h.run pins s σ H Q I (w σ H Q q)⟩
def evNoPart : Ev → Store → Res (Option Int) := fun _ M => .ok none M
def evPartI (f : Ev → Store → Res D) : Ev → Store → Res (Option Int) := fun env M => (f env M).bind fun d M => match d with
  | .int i => .ok (some i) M
  | _ => .stuck
theorem so_none : PO X none (tO G W evNoPart) := PO.weak po_none fun σ H Q ⟨env, M, ad, re, rm, q⟩ => PostR.ret q rm rfl
theorem so_some {e : Expr} {f : Ev → Store → Res D} (h : PE X e (tE G W f)) : PO X (some e) (tO G W (evPartI f)) := PO.weak (po_some h) fun σ H Q ⟨env, M, ad, re, rm, q⟩ => by
  refine tE.imp (tE_bind re rm q) fun x H1 ⟨d, M1, ad1, e1, m1, r1, q1⟩ => ?_
  split at q1
  · simp only [Rep] at r1; subst r1
    exact ⟨_, rfl, PostR.ret q1 m1 rfl⟩
  · exact q1.elim
def cutD (xs : List D) (lo hi : Option Int) : List D := (xs.drop (HT.sIx xs.length 0 lo)).take (HT.sIx xs.length xs.length hi - HT.sIx xs.length 0 lo)
theorem Reps.cut {ad : Adr} {H : Hp} {M : Store} {xs : List D} {vs : List V} (lo hi : Option Int) (r : Reps G ad H M xs vs) : Reps G ad H M (cutD xs lo hi) (cutV vs lo hi) := by
  unfold cutD cutV
  rw [Reps.length _ _ r]
  exact Reps.take _ (Reps.drop _ r)
def opSl (a : D) (lo hi : Option Int) (M : Store) : Res D := match a with
  | .tup xs => .ok (.tup (cutD xs lo hi)) M
  | .scr xs => .ok (.lst (cutD xs lo hi)) M
  | a => (Res.of (listOf M a) M).bind fun xs M => .ok (.lst (cutD xs lo hi)) M
def evSl (f : Ev → Store → Res D) (flo fhi : Ev → Store → Res (Option Int)) : Ev → Store → Res D := fun env M => (f env M).bind fun a M => (flo env M).bind fun lo M => (fhi env M).bind fun hi M => opSl a lo hi M
theorem tO_bind {β γ : Type} {rel2 : Adr → Hp → Store → β → γ → Prop} {f : Ev → Store → Res (Option Int)} {k : Option Int → Store → Res β} {env : Ev} {M : Store} {ad : Adr} {σ : L2.St} {H : Hp} {Q : γ → Hp → Prop}
    (re : RelE G ad H M env σ) (rm : RelM G ad H M) (h : PostR G (fun c d H' => W c d σ H') rel2 ad H M ((f env M).bind k) Q) :
    tO G W f σ H fun v H' => ∃ M' ad', Ext G ad H M ad' H' M' ∧ RelM G ad' H' M' ∧ PostR G (fun c d H' => W c d σ H') rel2 ad' H' M' (k v M') Q := by
  refine ⟨env, M, ad, re, rm, ?_⟩
  refine PostR.imp (PostR.bind (rel := fun _ _ _ a b => a = b) h) fun v H' ⟨d, M', ad', a, b, c, e⟩ => ?_
  subst c
  exact ⟨M', ad', a, b, e⟩
theorem tO.imp {f : Ev → Store → Res (Option Int)} {σ : L2.St} {H : Hp} {Q Q' : Option Int → Hp → Prop} (h : tO G W f σ H Q) (i : ∀ v H', Q v H' → Q' v H') : tO G W f σ H Q' :=
  let ⟨env, M, ad, a, b, c⟩ := h; ⟨env, M, ad, a, b, c.imp i⟩
theorem whole_cut {xs : List D} {lo hi : Option Int} (h : HT.sIx xs.length 0 lo = 0 ∧ HT.sIx xs.length xs.length hi = xs.length) : cutD xs lo hi = xs := by
  unfold cutD
  rw [h.1, h.2, List.drop_zero, Nat.sub_zero, List.take_length]
theorem se_sl {a : Expr} {elo ehi : Option Expr} {p2 pos : Pos} {f : Ev → Store → Res D} {flo fhi : Ev → Store → Res (Option Int)} (hK : X.K = G.K) (ha : PE X a (tE G W f)) (hl : PO X elo (tO G W flo)) (hh : PO X ehi (tO G W fhi)) :
    PE X (.Subscript a (.Slice elo ehi none p2) pos) (tE G W (evSl f flo fhi)) :=
  PE.weak (pe_slice (sl_tupA.or sl_list) ha hl hh) fun σ H Q ⟨env, M, ad, re, rm, q⟩ => by
    refine tE.imp (tE_bind re rm q) fun x H1 ⟨d, M1, ad1, e1, m1, r1, q1⟩ => ?_
    refine tO.imp (tO_bind (re.ext e1.toExt0 rm) m1 q1) fun lo H2 ⟨M2, ad2, e2, m2, q2⟩ => ?_
    refine tO.imp (tO_bind (re.ext (e1.trans e2).toExt0 rm) m2 q2) fun hi H3 ⟨M3, ad3, e3, m3, q3⟩ => ?_
    have r3 := Rep.ext (e2.trans e3).toExt0 m1 d x r1
    rw [hK]
    unfold opSl at q3
    split at q3
    · rename_i xs
      simp only [Rep] at r3
      obtain ⟨p, vs, rfl, s1, s2⟩ := r3
      refine .inl ⟨p, vs, rfl, s1, fun hw => ?_, fun _ => end_tup m3 (Reps.cut lo hi s2) q3⟩
      rw [Reps.length _ _ s2] at hw
      rw [whole_cut hw] at q3
      exact PostR.ret q3 m3 (by simp only [relV, Rep]; exact ⟨p, vs, rfl, s1, s2⟩)
    · rename_i xs
      simp only [Rep] at r3
      obtain ⟨p, vs, rfl, s1, s2⟩ := r3
      exact .inr ⟨p, vs, rfl, s1.sq, end_lst m3 (Reps.cut lo hi s2) q3⟩
    · obtain ⟨xs, h1, q4⟩ := of_bind q3
      obtain ⟨p, vs, rfl, s1, s2⟩ := listOf_ok m3 r3 h1
      exact .inr ⟨p, vs, rfl, SqL.of s1, end_lst m3 (Reps.cut lo hi s2) q4⟩
/-- a[::-1] of a list, of a tuple -/
def evRevL (f : Ev → Store → Res D) : Ev → Store → Res D := fun env M => (f env M).bind fun a M => (Res.of (listOf M a) M).bind fun xs M => .ok (.lst xs.reverse) M
theorem se_revL {e : Expr} {k : Nat} {p1 p2 p3 pos : Pos} {f : Ev → Store → Res D} (ha : PE X e (tE G W f)) : PE X (.Subscript e (.Slice none none (some (.UnaryOp .USub (.Constant (.int 1) k p1) p2)) p3) pos) (tE G W (evRevL f)) :=
  PE.weak (pe_revL ha) fun σ H Q ⟨env, M, ad, re, rm, q⟩ => by
    refine tE.imp (tE_bind re rm q) fun x H1 ⟨d, M1, ad1, e1, m1, r1, q1⟩ => ?_
    obtain ⟨xs, h1, q2⟩ := of_bind q1
    obtain ⟨p, vs, rfl, s1, s2⟩ := listOf_ok m1 r1 h1
    exact ⟨p, vs, rfl, SqL.of s1, end_lst m1 (Reps.reverse s2) q2⟩

/-! ### defs -/
abbrev FD := List D → Store → Res D
/-- what a def promises, by what it is on trees -/
def spF (G : Gx) (n : Nat) (fd : FD) : Sp := fun vs H Q E => vs.length = n ∧ ∃ ds M ad, Reps G ad H M ds vs ∧ RelM G ad H M ∧ PostR G E (relV G) ad H M (fd ds M) Q
def evCall (fd : FD) (gs : Ev → Store → Res (List D)) : Ev → Store → Res D := fun env M => (gs env M).bind fun ds M => fd ds M
theorem se_call {k n : Nat} {f : Addr} {fd : FuncData} {ps : List Str} {x : Str} {p pos : Pos} {e : Expr} {es : List Expr} {fn : FD} {gs : Ev → Store → Res (List D)}
    (F : FnOk X.prog X.w X.K X.mg X.base (L2N.CX X.prog X.w) k f fd ps (spF G n fn)) (hr : Room k X.A) (hg : Gl X x) (hm : X.mg x = some (.ref f)) (hk : PySem.W.keepIn X.K (.ref f) = true) (hb : Binds X.K fd ps []) (tk : L2N.Takes X W) (hn : n = (e :: es).length)
    (hlen : ∀ env M ds M', gs env M = .ok ds M' → ds.length = (e :: es).length)
    (ha : PA X (e :: es) (tA G W gs)) (hdb : (x == ("__debug__" : Str)) = false) (he : starEach (e :: es) X.env = (false, eval e X.env) :: starEach es X.env) (hpl : (backTo pos (starEach es X.env)).any (·.1) = false) :
    PE X (.Call (.Name x p) (e :: es) [] pos) (tE G W (evCall fn gs)) :=
  PE.weak (pe_callS F hr hg hm hk hb (L2N.passAt tk) ha hdb he hpl) fun σ H Q ⟨env, M, ad, re, rm, q⟩ => by
    refine ⟨env, M, ad, re, rm, ?_⟩
    have b := PostR.bind (rel := relVs G) q
    cases hgs : gs env M with
    | ok ds0 M0 =>
      rw [hgs] at b
      intro ad2 H2 v e2 m2 r2
      obtain ⟨ds, M', ad', e1, m1, r1, q1⟩ := b ad2 H2 v e2 m2 r2
      refine ⟨?_, ds, M', ad', r1, m1, q1⟩
      rw [hn, ← hlen env M ds0 M0 hgs]
      exact Reps.length _ _ r2
    | exc c fs M0 => rw [hgs] at b; exact b
    | stuck => rw [hgs] at b; exact b.elim
theorem len_nil : ∀ (env : Ev) (M : Store) (ds : List D) (M' : Store), evNil env M = .ok ds M' → ds.length = ([] : List Expr).length := fun env M ds M' h => by
  unfold evNil at h; injection h with h1 _; rw [← h1]; rfl
theorem len_cons {g : Ev → Store → Res D} {gs : Ev → Store → Res (List D)} {e : Expr} {es : List Expr} (h : ∀ env M ds M', gs env M = .ok ds M' → ds.length = es.length) :
    ∀ (env : Ev) (M : Store) (ds : List D) (M' : Store), evCons g gs env M = .ok ds M' → ds.length = (e :: es).length := fun env M ds M' q => by
  unfold evCons at q
  cases hg : g env M with
  | ok d M1 =>
    rw [hg] at q
    simp only [Res.bind] at q
    cases hgs : gs env M1 with
    | ok ds1 M2 =>
      rw [hgs] at q
      simp only at q
      injection q with q1 _
      rw [← q1, List.length_cons, List.length_cons, h _ _ _ _ hgs]
    | exc c fs M2 => rw [hgs] at q; cases q
    | stuck => rw [hgs] at q; cases q
  | exc c fs M2 => rw [hg] at q; cases q
  | stuck => rw [hg] at q; cases q

/-! ### statements -/
inductive Out where
  | nx (env : Ev) (M : Store)
  | bk (env : Ev) (M : Store)
  | ct (env : Ev) (M : Store)
  | ret (d : D) (M : Store)
  | exc (c : Nat) (fs : List (Str × D)) (env : Ev) (M : Store)
  | stuck
def Res.out {α : Type} (r : Res α) (env : Ev) (k : α → Store → Out) : Out := match r with
  | .ok a M => k a M
  | .exc c fs M => .exc c fs env M
  | .stuck => .stuck
def Out.then (o : Out) (k : Ev → Store → Out) : Out := match o with
  | .nx env M => k env M
  | o => o
def PostS (G : Gx) (W : WX) (ad : Adr) (H : Hp) (M : Store) (o : Out) (E : Ends) : Prop := match o with
  | .nx env M' => ∀ ad' H' σ', Ext G ad H M ad' H' M' → RelM G ad' H' M' → RelE G ad' H' M' env σ' → E.nx σ' H'
  | .bk env M' => ∀ ad' H' σ', Ext G ad H M ad' H' M' → RelM G ad' H' M' → RelE G ad' H' M' env σ' → E.bk σ' H'
  | .ct env M' => ∀ ad' H' σ', Ext G ad H M ad' H' M' → RelM G ad' H' M' → RelE G ad' H' M' env σ' → E.ct σ' H'
  | .ret d M' => ∀ ad' H' v, Ext G ad H M ad' H' M' → RelM G ad' H' M' → Rep G ad' H' M' d v → E.rt v H'
  | .exc c fs env M' => ∀ ad' H' σ' cls dd, Ext G ad H M ad' H' M' → RelM G ad' H' M' → RelE G ad' H' M' env σ' → ExR G ad' H' M' c fs cls dd → W cls dd σ' H'
  | .stuck => False
theorem PostS.mono {ad ad' : Adr} {H H' : Hp} {M M' : Store} {o : Out} {E : Ends} (h : PostS G W ad H M o E) (e : Ext G ad H M ad' H' M') : PostS G W ad' H' M' o E := by
  cases o with
  | nx env M2 => exact fun ad2 H2 v e2 m2 r2 => h ad2 H2 v (e.trans e2) m2 r2
  | bk env M2 => exact fun ad2 H2 v e2 m2 r2 => h ad2 H2 v (e.trans e2) m2 r2
  | ct env M2 => exact fun ad2 H2 v e2 m2 r2 => h ad2 H2 v (e.trans e2) m2 r2
  | ret d M2 => exact fun ad2 H2 v e2 m2 r2 => h ad2 H2 v (e.trans e2) m2 r2
  | exc c fs env M2 => exact fun ad2 H2 v cls dd e2 m2 r2 r3 => h ad2 H2 v cls dd (e.trans e2) m2 r2 r3
  | stuck => exact h
def tS (G : Gx) (W : WX) (f : Ev → Store → Out) : TS := fun E σ H => ∃ env M ad, RelE G ad H M env σ ∧ RelM G ad H M ∧ PostS G W ad H M (f env M) E
theorem PS.weak {st : Stmt} {t t' : TS} (h : PS X st t) (w : ∀ E σ H, t' E σ H → t E σ H) : PS X st t' := ⟨fun pins s σ H E I q => h.run pins s σ H E I (w E σ H q)⟩
theorem PSs.weak {st : List Stmt} {t t' : TS} (h : PSs X st t) (w : ∀ E σ H, t' E σ H → t E σ H) : PSs X st t' := ⟨fun pins s σ H E I q => h.run pins s σ H E I (w E σ H q)⟩
theorem PostS.of_out {α β : Type} {rel : Adr → Hp → Store → α → β → Prop} {ad : Adr} {H : Hp} {M : Store} {env : Ev} {σ : L2.St} {r : Res α} {k : α → Store → Out} {E : Ends} (re : RelE G ad H M env σ) (rm : RelM G ad H M) (h : PostS G W ad H M (r.out env k) E) :
    PostR G (fun c d H' => W c d σ H') rel ad H M r fun v H' => ∃ d M' ad', Ext G ad H M ad' H' M' ∧ RelM G ad' H' M' ∧ rel ad' H' M' d v ∧ PostS G W ad' H' M' (k d M') E := by
  cases r with
  | ok d M2 => exact fun ad2 H2 v e2 m2 r2 => ⟨d, M2, ad2, e2, m2, r2, PostS.mono h e2⟩
  | exc c fs M2 => exact fun ad2 H2 cls dd e2 m2 r2 => h ad2 H2 σ cls dd e2 m2 (re.ext e2.toExt0 rm) r2
  | stuck => exact h
theorem tE_out {f : Ev → Store → Res D} {k : D → Store → Out} {env : Ev} {M : Store} {ad : Adr} {σ : L2.St} {H : Hp} {E : Ends}
    (re : RelE G ad H M env σ) (rm : RelM G ad H M) (h : PostS G W ad H M ((f env M).out env k) E) :
    tE G W f σ H fun v H' => ∃ d M' ad', Ext G ad H M ad' H' M' ∧ RelM G ad' H' M' ∧ Rep G ad' H' M' d v ∧ PostS G W ad' H' M' (k d M') E :=
  ⟨env, M, ad, re, rm, PostS.of_out re rm h⟩
theorem tT_out {f : Ev → Store → Res Bool} {k : Bool → Store → Out} {env : Ev} {M : Store} {ad : Adr} {σ : L2.St} {H : Hp} {E : Ends}
    (re : RelE G ad H M env σ) (rm : RelM G ad H M) (h : PostS G W ad H M ((f env M).out env k) E) :
    tT G W f σ H fun v H' => ∃ M' ad', Ext G ad H M ad' H' M' ∧ RelM G ad' H' M' ∧ PostS G W ad' H' M' (k v M') E := by
  refine ⟨env, M, ad, re, rm, PostR.imp (PostS.of_out (rel := relB) re rm h) fun v H' ⟨d, M', ad', a, b, c, e⟩ => ?_⟩
  cases c
  exact ⟨M', ad', a, b, e⟩
theorem PostS.next {ad : Adr} {H : Hp} {M : Store} {env : Ev} {σ : L2.St} {E : Ends} (h : PostS G W ad H M (.nx env M) E) (rm : RelM G ad H M) (re : RelE G ad H M env σ) : E.nx σ H := h ad H σ Ext.refl rm re

def sNop : Ev → Store → Out := fun env M => .nx env M
def sSeq (f g : Ev → Store → Out) : Ev → Store → Out := fun env M => (f env M).then g
theorem ss_nil : PSs X [] (tS G W sNop) := PSs.weak pss_nil fun E σ H ⟨env, M, ad, re, rm, q⟩ => PostS.next q rm re
theorem tS_seq {f g : Ev → Store → Out} {E : Ends} {σ : L2.St} {H : Hp} (h : tS G W (sSeq f g) E σ H) : tS G W f { E with nx := tS G W g E } σ H := by
  obtain ⟨env, M, ad, re, rm, q⟩ := h
  refine ⟨env, M, ad, re, rm, ?_⟩
  unfold sSeq at q
  cases hf : f env M with
  | nx env2 M2 =>
    rw [hf] at q
    exact fun ad2 H2 σ2 e2 m2 r2 => ⟨env2, M2, ad2, r2, m2, PostS.mono q e2⟩
  | _ => rw [hf] at q; exact q
theorem ss_cons {st : Stmt} {sts : List Stmt} {f g : Ev → Store → Out} (h1 : PS X st (tS G W f)) (h2 : PSs X sts (tS G W g)) : PSs X (st :: sts) (tS G W (sSeq f g)) :=
  PSs.weak (pss_cons h1 h2) fun E σ H h => tS_seq h
theorem ss_one {st : Stmt} {f : Ev → Store → Out} (h1 : PS X st (tS G W f)) : PSs X [st] (tS G W f) := pss_one h1
variable {e c : Expr} {pos : Pos} {f : Ev → Store → Res D} {fb : Ev → Store → Res Bool} {a b : List Stmt} {g1 g2 : Ev → Store → Out}
def sExp (f : Ev → Store → Res D) : Ev → Store → Out := fun env M => (f env M).out env fun _ M => .nx env M
theorem st_exp (he : PE X e (tE G W f)) (hs : swapsWith e none pos.line X.env = pure false) : PS X (.Expr e pos) (tS G W (sExp f)) :=
  PS.weak (ps_expr he hs) fun E σ H ⟨env, M, ad, re, rm, q⟩ => tE.imp (tE_out re rm q) fun x H1 ⟨d, M1, ad1, e1, m1, r1, q1⟩ => PostS.next q1 m1 (re.ext e1.toExt0 rm)
def sRet (f : Ev → Store → Res D) : Ev → Store → Out := fun env M => (f env M).out env fun d M => .ret d M
theorem st_ret (he : PE X e (tE G W f)) : PS X (.Return (some e) pos) (tS G W (sRet f)) :=
  PS.weak (ps_ret he) fun E σ H ⟨env, M, ad, re, rm, q⟩ => tE.imp (tE_out re rm q) fun x H1 ⟨d, M1, ad1, e1, m1, r1, q1⟩ => q1 ad1 H1 x Ext.refl m1 r1
def sRetN : Ev → Store → Out := fun _ M => .ret .non M
theorem st_retN : PS X (.Return none pos) (tS G W sRetN) :=
  PS.weak ps_retN fun E σ H ⟨env, M, ad, re, rm, q⟩ => q ad H _ Ext.refl rm rep_non
def sIf (fb : Ev → Store → Res Bool) (g1 g2 : Ev → Store → Out) : Ev → Store → Out := fun env M => (fb env M).out env fun k M => if k = true then g1 env M else g2 env M
theorem st_if (hc : PT X c (tT G W fb)) (ha : PSs X a (tS G W g1)) (hb : PSs X b (tS G W g2)) : PS X (.If c a b pos) (tS G W (sIf fb g1 g2)) :=
  PS.weak (ps_if hc ha hb) fun E σ H ⟨env, M, ad, re, rm, q⟩ => tT.imp (tT_out re rm q) fun x H1 ⟨M1, ad1, e1, m1, q1⟩ => by
    cases x with
    | true => rw [if_pos rfl] at q1 ⊢; exact ⟨env, M1, ad1, re.ext e1.toExt0 rm, m1, q1⟩
    | false => rw [if_neg (by simp)] at q1 ⊢; exact ⟨env, M1, ad1, re.ext e1.toExt0 rm, m1, q1⟩
def sBrk : Ev → Store → Out := fun env M => .bk env M
def sCnt : Ev → Store → Out := fun env M => .ct env M
theorem st_break : PS X (.Break pos) (tS G W sBrk) := PS.weak ps_break fun E σ H ⟨env, M, ad, re, rm, q⟩ => q ad H σ Ext.refl rm re
theorem st_continue : PS X (.Continue pos) (tS G W sCnt) := PS.weak ps_continue fun E σ H ⟨env, M, ad, re, rm, q⟩ => q ad H σ Ext.refl rm re
theorem st_pass : PS X (.Pass pos) (tS G W sNop) := PS.weak ps_pass fun E σ H ⟨env, M, ad, re, rm, q⟩ => PostS.next q rm re

/-! ### targets -/
inductive Pat where
  | nm (i : Nat)
  | tp (ps : List Pat)
/-- a tuple or a list is taken apart -/
def partsOf (M : Store) : D → Option (List D)
  | .tup xs => some xs
  | d => listOf M d
mutual
def asgP (M : Store) : Pat → D → Ev → Option Ev
  | .nm i, d, env => if i < env.length then some (env.set i (some d)) else none
  | .tp ps, d, env => (partsOf M d).bind fun xs => if xs.length = ps.length then asgPs M ps xs env else none
def asgPs (M : Store) : List Pat → List D → Ev → Option Ev
  | [], [], env => some env
  | p :: ps, x :: xs, env => (asgP M p x env).bind fun env' => asgPs M ps xs env'
  | _, _, _ => none
end
mutual
def slotsP : Pat → List Nat
  | .nm i => [i]
  | .tp ps => slotsPs ps
def slotsPs : List Pat → List Nat
  | [] => []
  | p :: ps => slotsP p ++ slotsPs ps
end
def SameSlots (is : List Nat) (σ σ' : L2.St) : Prop := σ'.length = σ.length ∧ ∀ i, i ∉ is → σ'[i]? = σ[i]?
theorem SameSlots.trans {is js : List Nat} {σ σ' σ'' : L2.St} (a : SameSlots is σ σ') (b : SameSlots js σ' σ'') : SameSlots (is ++ js) σ σ'' :=
  ⟨b.1.trans a.1, fun i hi => by
    rw [List.mem_append] at hi
    rw [b.2 i (fun z => hi (.inr z)), a.2 i (fun z => hi (.inl z))]⟩
/-- what a target is: G's ground, the pattern -/
def tG (G : Gx) (p : Pat) : TG := fun v σ H Q => ∃ d env env' M ad, Rep G ad H M d v ∧ RelE G ad H M env σ ∧ RelM G ad H M ∧ asgP M p d env = some env' ∧ ∀ σ', RelE G ad H M env' σ' → SameSlots (slotsP p) σ σ' → Q σ' H
def tGs (G : Gx) (ps : List Pat) : TGs := fun vs σ H Q => ∃ ds env env' M ad, Reps G ad H M ds vs ∧ RelE G ad H M env σ ∧ RelM G ad H M ∧ asgPs M ps ds env = some env' ∧ ∀ σ', RelE G ad H M env' σ' → SameSlots (slotsPs ps) σ σ' → Q σ' H
theorem PG.weak {e : Expr} {t t' : TG} (h : PG X e t) (w : ∀ v σ H Q, t' v σ H Q → t v σ H Q) : PG X e t' := ⟨fun pins s σ H v u Q I r q => h.run pins s σ H v u Q I r (w v σ H Q q)⟩
theorem PGs.weak {e : List Expr} {t t' : TGs} (h : PGs X e t) (w : ∀ v σ H Q, t' v σ H Q → t v σ H Q) : PGs X e t' := ⟨fun pins s σ H v u Q I r q => h.run pins s σ H v u Q I r (w v σ H Q q)⟩
theorem RelE.set {ad : Adr} {H : Hp} {M : Store} {env : Ev} {σ : L2.St} {i : Nat} {d : D} {v : V} (re : RelE G ad H M env σ) (r : Rep G ad H M d v) (hi : i < env.length) : RelE G ad H M (env.set i (some d)) (σ.set i (some v)) :=
  ⟨by rw [List.length_set, List.length_set]; exact re.1, fun j x hj => by
    by_cases q : i = j
    · subst q
      rw [List.getElem?_set_self hi] at hj
      simp only [Option.some.injEq] at hj
      subst hj
      exact ⟨v, List.getElem?_set_self (by rw [← re.1]; exact hi), r⟩
    · rw [List.getElem?_set_ne q] at hj
      obtain ⟨w, h1, h2⟩ := re.2 j x hj
      exact ⟨w, by rw [List.getElem?_set_ne q]; exact h1, h2⟩⟩
theorem sameSlots_set {σ : L2.St} {i : Nat} {v : Option V} : SameSlots [i] σ (σ.set i v) :=
  ⟨List.length_set .., fun j hj => List.getElem?_set_ne (fun z => hj (by rw [z]; exact List.mem_cons_self))⟩
theorem sg_name {i : Nat} {x : Str} (hN : X.N.Nodup) (hi : X.N[i]? = some x) (hx : Loc X.env.scope x) (hf : X.fn x = true ∨ X.env.scope.names.lookup x = some .local) : PG X (.Name x pos) (tG G (.nm i)) :=
  PG.weak (pg_name hN hi hx hf) fun v σ H Q ⟨d, env, env', M, ad, r, re, rm, h, q⟩ => by
    simp only [asgP] at h
    split at h
    · rename_i hl
      simp only [Option.some.injEq] at h
      subst h
      exact q _ (re.set r hl) sameSlots_set
    · cases h
theorem sgs_nil : PGs X [] (tGs G []) := PGs.weak pgs_nil fun v σ H Q ⟨ds, env, env', M, ad, r, re, rm, h, q⟩ => by
  cases ds with
  | nil =>
    simp only [Reps] at r
    simp only [asgPs, Option.some.injEq] at h
    subst h
    exact ⟨r, q σ re ⟨rfl, fun _ _ => rfl⟩⟩
  | cons x xs => simp [asgPs] at h
theorem sgs_cons {p : Pat} {ps : List Pat} {es : List Expr} (h1 : PG X e (tG G p)) (h2 : PGs X es (tGs G ps)) (hs : (assignEach (e :: es) X.env).map (·.2) = assign e X.env :: (assignEach es X.env).map (·.2)) : PGs X (e :: es) (tGs G (p :: ps)) :=
  PGs.weak (pgs_cons h1 h2 hs) fun v σ H Q ⟨ds, env, env', M, ad, r, re, rm, h, q⟩ => by
    cases ds with
    | nil => simp [asgPs] at h
    | cons x xs =>
      simp only [Reps] at r
      obtain ⟨v, w, rfl, r1, r2⟩ := r
      simp only [asgPs, Option.bind_eq_some_iff] at h
      obtain ⟨env1, h1, h2⟩ := h
      exact ⟨v, w, rfl, x, env, env1, M, ad, r1, re, rm, h1, fun σ1 re1 s1 => ⟨xs, env1, env', M, ad, r2, re1, rm, h2, fun σ2 re2 s2 => q σ2 re2 (by simp only [slotsPs]; exact s1.trans s2)⟩⟩
end
end Mi

set_option Elab.async false
set_option linter.all false
set_option maxRecDepth 100000
/-! Mi4: what is walked, for, while, comprehensions, stores. -/
namespace Mi
open PySem PySem.Spec PyProof.Rows L2
section
variable {G : Gx} {X : Cx} {W : WX}

/-! ### targets that take apart -/
theorem PG.or {e : Expr} {t t' : TG} (h : PG X e t) (h' : PG X e t') : PG X e (fun v σ H Q => t v σ H Q ∨ t' v σ H Q) := ⟨fun pins s σ H v u Q I r q => by
  rcases q with q | q
  · exact h.run pins s σ H v u Q I r q
  · exact h'.run pins s σ H v u Q I r q⟩
theorem sg_tup {es : List Expr} {k n : Nat} {pos : Pos} {ps : List Pat} (hK : X.K = G.K) (hc : X.calm = true) (h : PGs X es (tGs G ps)) (hl : ps.length = n) (hn : (assignEach es X.env).length = n) (hst : (assignEach es X.env).findIdx? (·.1) = none) : PG X (.Tuple es k pos) (tG G (.tp ps)) :=
  PG.weak (PG.or (pg_tup hc h hn hst) (pg_lst hc h hn hst)) fun v σ H Q ⟨d, env, env', M, ad, r, re, rm, h, q⟩ => by
    simp only [asgP, Option.bind_eq_some_iff] at h
    obtain ⟨xs, h1, h2⟩ := h
    split at h2
    · rename_i hx
      have go : ∀ vs, Reps G ad H M xs vs → tGs G ps vs σ H Q := fun vs rv => ⟨xs, env, env', M, ad, rv, re, rm, h2, fun σ' re' s' => q σ' re' (by simp only [slotsP]; exact s')⟩
      rw [hK]
      have gen : listOf M d = some xs → (gTup G.K n (tGs G ps) v σ H Q ∨ gLst G.K n (tGs G ps) v σ H Q) := fun z => by
        obtain ⟨a, vs, rfl, e2, e3⟩ := listOf_ok rm r z
        exact .inr ⟨a, vs, rfl, SqL.of e2, by rw [Reps.length _ _ e3, hx, hl], go vs e3⟩
      cases d with
      | tup ys =>
        simp only [partsOf, Option.some.injEq] at h1; subst h1
        simp only [Rep] at r
        obtain ⟨a, vs, rfl, e2, e3⟩ := r
        exact .inl ⟨a, vs, rfl, e2, by rw [Reps.length _ _ e3, hx, hl], go vs e3⟩
      | _ => exact gen h1
    · cases h2

/-! ### what is walked -/
/-- the iterator J walks the items xs from this world on -/
def Wk (G : Gx) (J : It) (xs : List D) (ad0 : Adr) (H0 : Hp) (M0 : Store) : Prop :=
  ∀ ad H M, Ext0 G ad0 H0 M0 ad H M → RelM G ad H M → ∀ i : Nat,
    (i < xs.length → J.go i H ∧ ∀ x H', J.yld i H x H' → ∃ d, xs[i]? = some d ∧ Ext G ad H M ad H' M ∧ RelM G ad H' M ∧ Rep G ad H' M d x) ∧ (xs.length ≤ i → J.stop i H)
theorem Wk.mono {J : It} {xs : List D} {ad ad' : Adr} {H H' : Hp} {M M' : Store} (w : Wk G J xs ad H M) (e : Ext G ad H M ad' H' M') : Wk G J xs ad' H' M' := fun ad2 H2 M2 e2 m2 i => w ad2 H2 M2 (e.toExt0.trans e2) m2 i
def tI (G : Gx) (W : WX) (f : Ev → Store → Res (List D)) : TI := fun σ H R => ∃ env M ad, RelE G ad H M env σ ∧ RelM G ad H M ∧ PostR G (fun c d H' => W c d σ H') (fun ad H M xs J => Wk G J xs ad H M) ad H M (f env M) R
theorem PI.weak {tg l : Expr} {t t' : TI} (h : PI X tg l t) (w : ∀ σ H Q, t' σ H Q → t σ H Q) : PI X tg l t' := ⟨fun pins s σ H Q I q => h.run pins s σ H Q I (w σ H Q q)⟩
theorem PI.or {tg l : Expr} {t t' : TI} (h : PI X tg l t) (h' : PI X tg l t') : PI X tg l (fun σ H Q => t σ H Q ∨ t' σ H Q) := ⟨fun pins s σ H Q I q => by
  rcases q with q | q
  · exact h.run pins s σ H Q I q
  · exact h'.run pins s σ H Q I q⟩
theorem Rep.lst_inv {ad : Adr} {H : Hp} {M : Store} {xs : List D} {v : V} (r : Rep G ad H M (.lst xs) v) : ∃ a vs, v = .ref a ∧ H a = some (.lst vs) ∧ ¬ Al ad M a ∧ Reps G ad H M xs vs := by
  simp only [Rep] at r
  obtain ⟨a, vs, e, ⟨e1, e2, _⟩, e3⟩ := r
  exact ⟨a, vs, e, e1, e2, e3⟩
/-- a list that stays as it is -/
theorem wk_list {ad : Adr} {H : Hp} {M : Store} {a : Addr} {xs : List D} {vs : List V} (hs : ∀ ad' H' M', Ext0 G ad H M ad' H' M' → SqL G.K H' a vs) (rm : RelM G ad H M) (r : Reps G ad H M xs vs) : Wk G (Itl G.K a) xs ad H M := fun ad' H' M' e m i => by
  have s' := hs ad' H' M' e
  have r' := Reps.ext e rm _ _ r
  refine ⟨fun hi => ?_, fun hi => ⟨vs, s', by rw [Reps.length _ _ r]; exact hi⟩⟩
  obtain ⟨d, hd⟩ : ∃ d, xs[i]? = some d := ⟨xs[i], List.getElem?_eq_getElem hi⟩
  obtain ⟨v, h1, h2⟩ := Reps.get r' hd
  refine ⟨⟨vs, v, s', h1⟩, fun x H2 ⟨e1, e2⟩ => ?_⟩
  subst e1
  have := e2 vs s'
  rw [h1] at this
  cases this
  exact ⟨d, hd, Ext.refl, m, h2⟩
theorem wk_tup {ad : Adr} {H : Hp} {M : Store} {a : Addr} {xs : List D} {vs : List V} (hs : SqT G.K H a vs) (rm : RelM G ad H M) (r : Reps G ad H M xs vs) : Wk G (Itt G.K a) xs ad H M := fun ad' H' M' e m i => by
  have s' := SqT.ext e rm hs
  have r' := Reps.ext e rm _ _ r
  refine ⟨fun hi => ?_, fun hi => ⟨vs, s', by rw [Reps.length _ _ r]; exact hi⟩⟩
  obtain ⟨d, hd⟩ : ∃ d, xs[i]? = some d := ⟨xs[i], List.getElem?_eq_getElem hi⟩
  obtain ⟨v, h1, h2⟩ := Reps.get r' hd
  refine ⟨⟨vs, v, s', h1⟩, fun x H2 ⟨e1, e2⟩ => ?_⟩
  subst e1
  have := e2 vs s'
  rw [h1] at this
  cases this
  exact ⟨d, hd, Ext.refl, m, h2⟩
/-- a list or a tuple is walked -/
def iSeq (K : PySem.W.Frag) (tl : TE) : TI := fun σ H R => tl σ H fun x H1 => ∃ a, x = .ref a ∧ (((∃ xs, SqL K H1 a xs) ∧ R (Itl K a) H1) ∨ ((∃ xs, SqT K H1 a xs) ∧ R (Itt K a) H1))
theorem pi_seq {tg l : Expr} {tl : TE} (hl : PE X l tl) : PI X tg l (iSeq X.K tl) := by
  refine ⟨fun pins s σ H R I h => ?_⟩
  refine thn (hl.run pins s σ H _ I h) fun v s1 ⟨x, H1, I1, r1, q1⟩ => ?_
  obtain ⟨a, e, q1⟩ := q1
  subst e
  cases r1
  rcases q1 with ⟨⟨xs, hq⟩, q⟩ | ⟨⟨xs, hq⟩, q⟩
  · obtain ⟨its, rv, p, hz⟩ := I1.list hq
    refine wpAny_pyIter_list p.isList ?_
    refine ⟨s1.heap.objs.size, [s1.heap.objs.size], _, _, H1, rfl, I1.kept (t' := s1.toks) fun b o e => Heap.get?_push_of_some _ e, turn_list a _, ⟨_, Heap.get?_push_size _ rfl, rfl, rfl⟩, fun b hb => ?_, q⟩
    have e : b = s1.heap.objs.size := by simpa using hb
    subst e
    exact I1.fpOk (Nat.le_refl _) (I1.hok.fresh (Nat.le_refl _))
  · obtain ⟨its, rv, p, hz⟩ := I1.tuple hq
    refine wpAny_pyIter_tuple (show s1.heap.IsTuple a its.toArray from p) ?_
    refine ⟨s1.heap.objs.size, [s1.heap.objs.size], _, _, H1, rfl, I1.kept (t' := s1.toks) fun b o e => Heap.get?_push_of_some _ e, turn_tuple a _, ⟨_, Heap.get?_push_size _ rfl, rfl, rfl⟩, fun b hb => ?_, q⟩
    have e : b = s1.heap.objs.size := by simpa using hb
    subst e
    exact I1.fpOk (Nat.le_refl _) (I1.hok.fresh (Nat.le_refl _))
/-- for x in e: a list (none of the store's) or a tuple -/
def itOf : D → Option (List D)
  | .lst xs => some xs
  | .tup xs => some xs
  | .scr xs => some xs
  | _ => none
def evIter (f : Ev → Store → Res D) : Ev → Store → Res (List D) := fun env M => (f env M).bind fun d M => Res.of (itOf d) M
theorem wk_itOf {ad : Adr} {H : Hp} {M : Store} {d : D} {x : V} {xs : List D} (rm : RelM G ad H M) (r : Rep G ad H M d x) (h : itOf d = some xs) :
    ∃ a, x = .ref a ∧ (((∃ vs, SqL G.K H a vs) ∧ Wk G (Itl G.K a) xs ad H M) ∨ ((∃ vs, SqT G.K H a vs) ∧ Wk G (Itt G.K a) xs ad H M)) := by
  cases d with
  | lst ys =>
    simp only [itOf, Option.some.injEq] at h; subst h
    obtain ⟨a, vs, rfl, e2, na, e3⟩ := r.lst_inv
    exact ⟨a, rfl, .inl ⟨⟨vs, SqL.of e2⟩, wk_list (fun ad' H' M' e => SqL.of (e.frame a _ e2 na rfl)) rm e3⟩⟩
  | scr ys =>
    simp only [itOf, Option.some.injEq] at h; subst h
    simp only [Rep] at r
    obtain ⟨a, vs, rfl, e2, e3⟩ := r
    exact ⟨a, rfl, .inl ⟨⟨vs, e2.sq⟩, wk_list (fun ad' H' M' e => (SqF.ext e e2).sq) rm e3⟩⟩
  | tup ys =>
    simp only [itOf, Option.some.injEq] at h; subst h
    simp only [Rep] at r
    obtain ⟨a, vs, rfl, e2, e3⟩ := r
    exact ⟨a, rfl, .inr ⟨⟨vs, e2⟩, wk_tup e2 rm e3⟩⟩
  | _ => simp [itOf] at h
theorem si_iter {tg l : Expr} {f : Ev → Store → Res D} (hK : X.K = G.K) (h : PE X l (tE G W f)) : PI X tg l (tI G W (evIter f)) :=
  PI.weak (pi_seq h) fun σ H R ⟨env, M, ad, re, rm, q⟩ => by
    rw [hK]
    refine tE.imp (tE_bind re rm q) fun x H1 ⟨d, M1, ad1, e1, m1, r1, q1⟩ => ?_
    obtain ⟨xs, h2, q2⟩ := of_post q1
    obtain ⟨a, rfl, w⟩ := wk_itOf m1 r1 h2
    refine ⟨a, rfl, ?_⟩
    rcases w with ⟨w1, w2⟩ | ⟨w1, w2⟩
    · exact .inl ⟨w1, PostR.ret q2 m1 w2⟩
    · exact .inr ⟨w1, PostR.ret q2 m1 w2⟩
/-- range(..) -/
def rngD (lo c : Int) (n : Nat) : List D := (List.range n).map fun (i : Nat) => .int (lo + i * c)
theorem rngD_get {lo c : Int} {n i : Nat} (h : i < n) : (rngD lo c n)[i]? = some (.int (lo + i * c)) := by
  unfold rngD
  rw [List.getElem?_map, List.getElem?_range h]; rfl
theorem wk_rng {ad : Adr} {H : Hp} {M : Store} {lo : Int} {n : Nat} : Wk G (Itr lo n) (rngD lo 1 n) ad H M := fun ad' H' M' e m i => by
  have hl : (rngD lo 1 n).length = n := by simp [rngD]
  rw [hl]
  refine ⟨fun hi => ⟨hi, fun x H2 ⟨e1, e2⟩ => ?_⟩, fun hi => hi⟩
  subst e1; subst e2
  exact ⟨_, rngD_get hi, Ext.refl, m, by simp [Rep]⟩
theorem wk_rngC {ad : Adr} {H : Hp} {M : Store} {lo c : Int} {n : Nat} : Wk G (Itc lo c n) (rngD lo c n) ad H M := fun ad' H' M' e m i => by
  have hl : (rngD lo c n).length = n := by simp [rngD]
  rw [hl]
  refine ⟨fun hi => ⟨hi, fun x H2 ⟨e1, e2⟩ => ?_⟩, fun hi => hi⟩
  subst e1; subst e2
  exact ⟨_, rngD_get hi, Ext.refl, m, by simp [Rep]⟩
theorem Reps.ints1 {ad : Adr} {H : Hp} {M : Store} {i : Int} {vs : List V} (r : Reps G ad H M [.int i] vs) : vs = [.int i] := by
  simp only [Reps, Rep] at r
  obtain ⟨v, w, rfl, rfl, rfl⟩ := r; rfl
theorem Reps.ints2 {ad : Adr} {H : Hp} {M : Store} {i j : Int} {vs : List V} (r : Reps G ad H M [.int i, .int j] vs) : vs = [.int i, .int j] := by
  simp only [Reps, Rep] at r
  obtain ⟨v, w, rfl, rfl, v', w', rfl, rfl, rfl⟩ := r; rfl
theorem Reps.ints3 {ad : Adr} {H : Hp} {M : Store} {i j c : Int} {vs : List V} (r : Reps G ad H M [.int i, .int j, .int c] vs) : vs = [.int i, .int j, .int c] := by
  simp only [Reps, Rep] at r
  obtain ⟨v, w, rfl, rfl, v', w', rfl, rfl, v2, w2, rfl, rfl, rfl⟩ := r; rfl
def rng1 : List D → Option (List D)
  | [.int j] => if -(2 ^ 62) ≤ j ∧ j < 2 ^ 62 then some (rngD 0 1 j.toNat) else none
  | _ => none
def rng2 : List D → Option (List D)
  | [.int i, .int j] => if -(2 ^ 62) ≤ i ∧ i < 2 ^ 62 ∧ -(2 ^ 62) ≤ j ∧ j < 2 ^ 62 then some (rngD i 1 (j - i).toNat) else none
  | _ => none
def rng3 : List D → Option (List D)
  | [.int i, .int j, .int c] => if c ≠ 0 ∧ c.natAbs < 1073741824 ∧ Builtin.Range.small i j c = true ∧ 0 ≤ Builtin.Range.rangeSize i j c then some (rngD i c (Builtin.Range.rangeSize i j c).toNat) else none
  | _ => none
def evRng (r : List D → Option (List D)) (gs : Ev → Store → Res (List D)) : Ev → Store → Res (List D) := fun env M => (gs env M).bind fun ds M => Res.of (r ds) M
theorem si_range1 {tg a : Expr} {gs : Ev → Store → Res (List D)} {p pos : Pos} (hg : Gl X "range") (hm : X.mg "range" = none) (ha : PA X [a] (tA G W gs)) (hs : starEach [a] X.env = [(false, eval a X.env)]) : PI X tg (.Call (.Name "range" p) [a] [] pos) (tI G W (evRng rng1 gs)) :=
  PI.weak (pi_range1 hg hm ha hs) fun σ H R ⟨env, M, ad, re, rm, q⟩ => by
    refine tA.imp (tA_bind re rm q) fun vs H1 ⟨ds, M1, ad1, e1, m1, r1, q1⟩ => ?_
    obtain ⟨xs, h1, q2⟩ := of_post q1
    unfold rng1 at h1
    split at h1
    · split at h1
      · rename_i j hj
        simp only [Option.some.injEq] at h1; subst h1
        exact ⟨j, r1.ints1, hj.1, hj.2, PostR.ret q2 m1 wk_rng⟩
      · cases h1
    · cases h1
theorem si_range2 {tg a b : Expr} {gs : Ev → Store → Res (List D)} {p pos : Pos} (hg : Gl X "range") (hm : X.mg "range" = none) (ha : PA X [a, b] (tA G W gs)) (hs : starEach [a, b] X.env = [(false, eval a X.env), (false, eval b X.env)]) (hs2 : starEach [b] X.env = [(false, eval b X.env)]) : PI X tg (.Call (.Name "range" p) [a, b] [] pos) (tI G W (evRng rng2 gs)) :=
  PI.weak (pi_range2 hg hm ha hs hs2) fun σ H R ⟨env, M, ad, re, rm, q⟩ => by
    refine tA.imp (tA_bind re rm q) fun vs H1 ⟨ds, M1, ad1, e1, m1, r1, q1⟩ => ?_
    obtain ⟨xs, h1, q2⟩ := of_post q1
    unfold rng2 at h1
    split at h1
    · split at h1
      · rename_i i j hj
        simp only [Option.some.injEq] at h1; subst h1
        exact ⟨i, j, r1.ints2, hj, PostR.ret q2 m1 wk_rng⟩
      · cases h1
    · cases h1
theorem si_range3 {tg a b c : Expr} {gs : Ev → Store → Res (List D)} {p pos : Pos} (hg : Gl X "range") (hm : X.mg "range" = none) (ha : PA X [a, b, c] (tA G W gs)) (hs : starEach [a, b, c] X.env = (false, eval a X.env) :: starEach [b, c] X.env) (hpl : (backTo pos (starEach [b, c] X.env)).any (·.1) = false) : PI X tg (.Call (.Name "range" p) [a, b, c] [] pos) (tI G W (evRng rng3 gs)) :=
  PI.weak (pi_range3 hg hm ha hs hpl) fun σ H R ⟨env, M, ad, re, rm, q⟩ => by
    refine tA.imp (tA_bind re rm q) fun vs H1 ⟨ds, M1, ad1, e1, m1, r1, q1⟩ => ?_
    obtain ⟨xs, h1, q2⟩ := of_post q1
    unfold rng3 at h1
    split at h1
    · split at h1
      · rename_i i j c hj
        simp only [Option.some.injEq] at h1; subst h1
        exact ⟨i, j, c, _, r1.ints3, ⟨hj.1, hj.2.1, hj.2.2.1, (Int.toNat_of_nonneg hj.2.2.2).symm⟩, PostR.ret q2 m1 wk_rngC⟩
      · cases h1
    · cases h1
/-- enumerate(list) -/
def enumD (xs : List D) : List D := (List.range xs.length).map fun (i : Nat) => .tup [.int i, xs.getD i .non]
def evEnum (f : Ev → Store → Res (List D)) : Ev → Store → Res (List D) := fun env M => (f env M).bind fun ds M => match ds with
  | [.lst xs] => .ok (enumD xs) M
  | _ => .stuck
theorem wk_enum {ad : Adr} {H : Hp} {M : Store} {a : Addr} {xs : List D} {vs : List V} (hs : ∀ ad' H' M', Ext0 G ad H M ad' H' M' → SqL G.K H' a vs) (rm : RelM G ad H M) (r : Reps G ad H M xs vs) : Wk G (Ite G.K a) (enumD xs) ad H M := fun ad' H' M' e m i => by
  have s' := hs ad' H' M' e
  have r' := Reps.ext e rm _ _ r
  have hl : (enumD xs).length = xs.length := by simp [enumD]
  rw [hl]
  refine ⟨fun hi => ?_, fun hi => ⟨vs, s', by rw [Reps.length _ _ r]; exact hi⟩⟩
  obtain ⟨d, hd⟩ : ∃ d, xs[i]? = some d := ⟨xs[i], List.getElem?_eq_getElem hi⟩
  obtain ⟨v, h1, h2⟩ := Reps.get r' hd
  refine ⟨⟨vs, v, s', h1⟩, fun x H2 ⟨T, y, e0, e1, e2, e3⟩ => ?_⟩
  subst e0; subst e2
  have := e3 vs s'
  rw [h1] at this
  cases this
  refine ⟨.tup [.int i, d], ?_, Ext.laid e1 m, RelM.laid e1 m, rep_tup e1 m (by simp only [Reps, Rep]; exact ⟨_, _, rfl, rfl, v, [], rfl, h2, rfl⟩)⟩
  unfold enumD
  rw [List.getElem?_map, List.getElem?_range hi]
  simp [List.getD, hd]
theorem si_enum {e : Expr} {gs : Ev → Store → Res (List D)} {p pos tpos : Pos} {elts : List Expr} {kk : Nat} (hK : X.K = G.K) (hg : Gl X "enumerate") (hm : X.mg "enumerate" = none) (ha : PA X [e] (tA G W gs)) (hs : starEach [e] X.env = [(false, eval e X.env)]) :
    PI X (.Tuple elts kk tpos) (.Call (.Name "enumerate" p) [e] [] pos) (tI G W (evEnum gs)) :=
  PI.weak (pi_enum hg hm ha hs) fun σ H R ⟨env, M, ad, re, rm, q⟩ => by
    rw [hK]
    refine tA.imp (tA_bind re rm q) fun vs H1 ⟨ds, M1, ad1, e1, m1, r1, q1⟩ => ?_
    split at q1
    · simp only [Reps] at r1
      obtain ⟨v, w, rfl, r2, rfl⟩ := r1
      obtain ⟨a, us, rfl, e2, na, e3⟩ := r2.lst_inv
      exact ⟨a, us, rfl, SqL.of e2, PostR.ret q1 m1 (wk_enum (fun ad' H' M' e => SqL.of (e.frame a _ e2 na rfl)) m1 e3)⟩
    · exact q1.elim

/-! ### for -/
def forD (p : Pat) (body : Ev → Store → Out) : List D → Ev → Store → Out
  | [], env, M => .nx env M
  | x :: xs, env, M => match asgP M p x env with
    | none => .stuck
    | some env1 => match body env1 M with
      | .nx e M' => forD p body xs e M'
      | .ct e M' => forD p body xs e M'
      | .bk e M' => .nx e M'
      | o => o
def sFor (p : Pat) (it : Ev → Store → Res (List D)) (body : Ev → Store → Out) : Ev → Store → Out := fun env M => (it env M).out env fun xs M1 => forD p body xs env M1
theorem st_for {tg iter : Expr} {body : List Stmt} {p : Pat} {fi : Ev → Store → Res (List D)} {fb : Ev → Store → Out} {pos : Pos} (hp : PassesOwn (model X.prog X.w) X.A X.env X.xe) (hc : X.calm = true) (hi : PI X tg iter (tI G W fi)) (hg : PG X tg (tG G p)) (hb : PSs X body (tS G W fb)) (hfs : ∀ x, foldedSetIterable iter X.env x = pure x) :
    PS X (.For tg iter body [] pos) (tS G W (sFor p fi fb)) :=
  PS.weak (ps_for hp hc hi hg hb (hs := hfs)) fun E σ H ⟨env, M, ad, re, rm, q⟩ => by
    refine ⟨env, M, ad, re, rm, PostR.imp (PostS.of_out (rel := fun ad H M xs J => Wk G J xs ad H M) re rm q) fun J H1 ⟨xs, M1, ad1, e1, m1, w1, q1⟩ => ?_⟩
    refine ⟨fun i m σ' H' => i + m = xs.length ∧ ∃ env' M' ad', Ext G ad1 H1 M1 ad' H' M' ∧ RelM G ad' H' M' ∧ RelE G ad' H' M' env' σ' ∧ PostS G W ad' H' M' (forD p fb (xs.drop i) env' M') E,
      ⟨xs.length, by omega, env, M1, ad1, Ext.refl, m1, re.ext e1.toExt0 rm, by rw [List.drop_zero]; exact q1⟩, fun i m σ' H' ⟨him, env', M', ad', e', m', re', q'⟩ => ?_⟩
    obtain ⟨wg, ws⟩ := w1 ad' H' M' e'.toExt0 m' i
    by_cases hi : i < xs.length
    · obtain ⟨g1, g2⟩ := wg hi
      refine .inr ⟨g1, fun σ2 H2 => ∃ env2 M2 ad2, Ext G ad1 H1 M1 ad2 H2 M2 ∧ RelM G ad2 H2 M2 ∧ RelE G ad2 H2 M2 env2 σ2 ∧ PostS G W ad2 H2 M2 (forD p fb (xs.drop (i + 1)) env2 M2) E, fun σ2 H2 h2 => ⟨m - 1, by omega, by omega, h2⟩, fun x H2 hy => ?_⟩
      obtain ⟨d, hd, ex, mx, rx⟩ := g2 x H2 hy
      have hdrop : xs.drop i = d :: xs.drop (i + 1) := by
        rw [List.drop_eq_getElem_cons hi]
        rw [List.getElem?_eq_getElem hi] at hd
        simp only [Option.some.injEq] at hd
        rw [hd]
      rw [hdrop] at q'
      simp only [forD] at q'
      split at q'
      · exact q'.elim
      · rename_i env1 hasg
        refine ⟨d, env', env1, M', ad', rx, re'.ext ex.toExt0 m', mx, hasg, fun σ3 re3 _ => ⟨env1, M', ad', re3, mx, ?_⟩⟩
        have q2 := PostS.mono q' ex
        cases hb : fb env1 M' with
        | nx e2 M2 => rw [hb] at q2; exact fun ad3 H3 σ4 e3 m3 r3 => ⟨e2, M2, ad3, (e'.trans ex).trans e3, m3, r3, PostS.mono q2 e3⟩
        | ct e2 M2 => rw [hb] at q2; exact fun ad3 H3 σ4 e3 m3 r3 => ⟨e2, M2, ad3, (e'.trans ex).trans e3, m3, r3, PostS.mono q2 e3⟩
        | bk e2 M2 => rw [hb] at q2; exact q2
        | ret d2 M2 => rw [hb] at q2; exact q2
        | exc c2 f2 e2 M2 => rw [hb] at q2; exact q2
        | stuck => rw [hb] at q2; exact q2
    · refine .inl ⟨ws (by omega), ?_⟩
      rw [List.drop_of_length_le (by omega)] at q'
      simp only [forD] at q'
      exact PostS.next q' m' re'

/-! ### while -/
def whD (c : Ev → Store → Res Bool) (b : Ev → Store → Out) : Nat → Ev → Store → Out
  | 0, _, _ => .stuck
  | n + 1, env, M => (c env M).out env fun k M1 => if k = true then (match b env M1 with
      | .nx e M' => whD c b n e M'
      | .ct e M' => whD c b n e M'
      | .bk e M' => .nx e M'
      | o => o) else .nx env M1
def sWhile (n : Nat) (c : Ev → Store → Res Bool) (b : Ev → Store → Out) : Ev → Store → Out := whD c b n
theorem st_while {c : Expr} {body : List Stmt} {n : Nat} {fc : Ev → Store → Res Bool} {fb : Ev → Store → Out} {pos : Pos} (hp : PassesOwn (model X.prog X.w) X.A X.env X.xe) (hc : PT X c (tT G W fc)) (hb : PSs X body (tS G W fb)) :
    PS X (.While c body [] pos) (tS G W (sWhile n fc fb)) :=
  PS.weak (ps_while hp hc hb) fun E σ H ⟨env, M, ad, re, rm, q⟩ => by
    refine ⟨fun m σ' H' => ∃ env' M' ad', RelM G ad' H' M' ∧ RelE G ad' H' M' env' σ' ∧ PostS G W ad' H' M' (whD fc fb m env' M') E, ⟨n, env, M, ad, rm, re, q⟩, fun m σ' H' ⟨env', M', ad', m', re', q'⟩ => ?_⟩
    cases m with
    | zero => exact q'.elim
    | succ m =>
      simp only [whD] at q'
      refine tT.imp (tT_out re' m' q') fun k H1 ⟨M1, ad1, e1, m1, q1⟩ => ?_
      cases k with
      | false => rw [if_neg (by simp)] at q1 ⊢; exact PostS.next q1 m1 (re'.ext e1.toExt0 m')
      | true =>
        rw [if_pos rfl] at q1 ⊢
        refine ⟨fun σ2 H2 => ∃ env2 M2 ad2, RelM G ad2 H2 M2 ∧ RelE G ad2 H2 M2 env2 σ2 ∧ PostS G W ad2 H2 M2 (whD fc fb m env2 M2) E, fun σ2 H2 h2 => ⟨m, by omega, h2⟩, env', M1, ad1, re'.ext e1.toExt0 m', m1, ?_⟩
        cases hb : fb env' M1 with
        | nx e2 M2 => rw [hb] at q1; exact fun ad3 H3 σ4 e3 m3 r3 => ⟨e2, M2, ad3, m3, r3, PostS.mono q1 e3⟩
        | ct e2 M2 => rw [hb] at q1; exact fun ad3 H3 σ4 e3 m3 r3 => ⟨e2, M2, ad3, m3, r3, PostS.mono q1 e3⟩
        | bk e2 M2 => rw [hb] at q1; exact q1
        | ret d2 M2 => rw [hb] at q1; exact q1
        | exc c2 f2 e2 M2 => rw [hb] at q1; exact q1
        | stuck => rw [hb] at q1; exact q1
end
end Mi

set_option Elab.async false
set_option linter.all false
set_option maxRecDepth 100000
/-! Mi5: list comprehensions. -/
namespace Mi
open PySem PySem.Spec PyProof.Rows L2
section
variable {G : Gx} {X : Cx} {W : WX} {ad ad' : Adr} {H H' : Hp} {M M' : Store}

/-- p is being filled -/
def adRs (ad : Adr) (p : Addr) : Adr := ⟨ad.at_, fun a => ad.rs a ∨ a = p⟩
theorem ext0_rs {p : Addr} {o : HO} (hp : H p = none) (hm : RelM G ad H M) : Ext0 G ad H M (adRs ad p) (upd H p o) M := by
  have e := Ext.laid (o := o) hp hm
  exact { rsu := fun a h => by
            rcases h with h | h
            · exact .inl h
            · exact .inr (by rw [h]; exact hp)
          len := Nat.le_refl _, adr := fun _ _ => rfl, frame := e.frame, dead := e.dead, tbl := e.tbl, al := e.al }
theorem relM_rs {p : Addr} {vs : List V} (hp : H p = none) (hm : RelM G ad H M) : RelM G (adRs ad p) (upd H p (.lst vs)) M := by
  have m := RelM.laid (o := .lst vs) hp hm
  have e := ext0_rs (o := .lst vs) hp hm
  exact { pur := hm.pur
          ok := fun l ob h => by
            have q := hm.ok l ob h
            have ne : ad.at_ l ≠ p := fun z => q.there (by rw [z]; exact hp)
            show ObRep G (adRs ad p) (upd H p (.lst vs)) M ob (ad.at_ l)
            cases ob with
            | lst xs =>
              obtain ⟨us, q1, q2⟩ := q
              exact ⟨us, by rw [upd_ne ne]; exact q1, Reps.ext e hm _ _ q2⟩
            | dct xs =>
              obtain ⟨us, q1, q2⟩ := q
              exact ⟨us, by rw [upd_ne ne]; exact q1, RepK.ext e hm _ _ q2⟩
          inj := hm.inj
          tab := m.tab
          xd := m.xd
          rsv := fun a ha => by
            rcases ha with ha | ha
            · obtain ⟨⟨us, h1⟩, h2⟩ := hm.rsv a ha
              exact ⟨⟨us, by rw [upd_ne (fun z => by rw [z, hp] at h1; cases h1)]; exact h1⟩, h2⟩
            · subst ha
              exact ⟨⟨vs, upd_same⟩, (notAl_new hp hm : ¬ Al ad M a)⟩ }
/-- the reserved lists as they were: less is asked -/
def adBack (ad : Adr) (r : Addr → Prop) : Adr := ⟨ad.at_, r⟩
section
variable {r : Addr → Prop}
mutual
theorem Rep.back (hr : ∀ a, r a → ad.rs a) : ∀ (d : D) (v : V), Rep G ad H M d v → Rep G (adBack ad r) H M d v
  | .non, _, h => by simpa [Rep] using h
  | .bl _, _, h => by simpa [Rep] using h
  | .int _, _, h => by simpa [Rep] using h
  | .str _, _, h => by simpa [Rep] using h
  | .fn _, _, h => by simpa [Rep] using h
  | .cls _, _, h => by simpa [Rep] using h
  | .ty _, _, h => by simpa [Rep] using h
  | .dct0, _, h => by simp only [Rep] at h ⊢; exact h
  | .loc l, _, h => by simpa [Rep, adBack] using h
  | .tup xs, _, h => by
    simp only [Rep] at h ⊢
    obtain ⟨a, vs, e1, e2, e3⟩ := h
    exact ⟨a, vs, e1, e2, Reps.back hr xs vs e3⟩
  | .lst xs, _, h => by
    simp only [Rep] at h ⊢
    obtain ⟨a, vs, e1, ⟨e2, e4, e5⟩, e3⟩ := h
    exact ⟨a, vs, e1, ⟨e2, e4, fun z => e5 (hr a z)⟩, Reps.back hr xs vs e3⟩
  | .scr xs, _, h => by
    simp only [Rep] at h ⊢
    obtain ⟨a, vs, e1, e2, e3⟩ := h
    refine ⟨a, vs, e1, ?_, Reps.back hr xs vs e3⟩
    rcases e2 with ⟨e2, e4, e5⟩ | e2
    · exact .inl ⟨e2, e4, fun z => e5 (hr a z)⟩
    · exact .inr e2
theorem Reps.back (hr : ∀ a, r a → ad.rs a) : ∀ (ds : List D) (vs : List V), Reps G ad H M ds vs → Reps G (adBack ad r) H M ds vs
  | [], _, h => by simpa [Reps] using h
  | d :: ds, _, h => by
    simp only [Reps] at h ⊢
    obtain ⟨v, w, e1, e2, e3⟩ := h
    exact ⟨v, w, e1, Rep.back hr d v e2, Reps.back hr ds w e3⟩
end
theorem RepK.back (hr : ∀ a, r a → ad.rs a) : ∀ (ds : List (Int × D)) (vs : List (Key × V)), RepK G ad H M ds vs → RepK G (adBack ad r) H M ds vs
  | [], _, h => by simpa [RepK] using h
  | (k, d) :: ds, _, h => by
    simp only [RepK] at h ⊢
    obtain ⟨v, w, e1, e2, e3⟩ := h
    exact ⟨v, w, e1, Rep.back hr d v e2, RepK.back hr ds w e3⟩
theorem RelM.back (hr : ∀ a, r a → ad.rs a) (m : RelM G ad H M) : RelM G (adBack ad r) H M where
  pur := m.pur
  ok := fun l ob h => by
    have q := m.ok l ob h
    cases ob with
    | lst xs => obtain ⟨vs, q1, q2⟩ := q; exact ⟨vs, q1, Reps.back hr _ _ q2⟩
    | dct xs => obtain ⟨vs, q1, q2⟩ := q; exact ⟨vs, q1, RepK.back hr _ _ q2⟩
  inj := m.inj
  tab := m.tab
  xd := m.xd
  rsv := fun a ha => m.rsv a (hr a ha)
end
/-! the list that is being filled is written -/
section
variable {p : Addr} {us vs : List V}
mutual
theorem Rep.fill (hp : ad.rs p) (hH : H p = some (.lst us)) : ∀ (d : D) (v : V), Rep G ad H M d v → Rep G ad (upd H p (.lst vs)) M d v
  | .non, _, h => by simpa [Rep] using h
  | .bl _, _, h => by simpa [Rep] using h
  | .int _, _, h => by simpa [Rep] using h
  | .str _, _, h => by simpa [Rep] using h
  | .fn _, _, h => by simpa [Rep] using h
  | .cls _, _, h => by simpa [Rep] using h
  | .ty _, _, h => by simpa [Rep] using h
  | .dct0, _, h => by
    simp only [Rep] at h ⊢
    obtain ⟨a, e1, e2, na⟩ := h
    exact ⟨a, e1, by rw [upd_ne (fun z => by rw [z, hH] at e2; cases e2)]; exact e2, na⟩
  | .loc l, _, h => by simpa [Rep] using h
  | .tup xs, _, h => by
    simp only [Rep] at h ⊢
    obtain ⟨a, ws, e1, e2, e3⟩ := h
    refine ⟨a, ws, e1, ?_, Reps.fill hp hH xs ws e3⟩
    rcases e2 with (e2 | ⟨o, e2⟩) | e2
    · exact .inl (.inl (by rw [upd_ne (fun z => by rw [z, hH] at e2; cases e2)]; exact e2))
    · exact .inl (.inr ⟨o, by rw [upd_ne (fun z => by rw [z, hH] at e2; cases e2)]; exact e2⟩)
    · exact .inr e2
  | .lst xs, _, h => by
    simp only [Rep] at h ⊢
    obtain ⟨a, ws, e1, ⟨e2, e4, e5⟩, e3⟩ := h
    exact ⟨a, ws, e1, ⟨by rw [upd_ne (fun z => e5 (by rw [z]; exact hp))]; exact e2, e4, e5⟩, Reps.fill hp hH xs ws e3⟩
  | .scr xs, _, h => by
    simp only [Rep] at h ⊢
    obtain ⟨a, ws, e1, e2, e3⟩ := h
    refine ⟨a, ws, e1, ?_, Reps.fill hp hH xs ws e3⟩
    rcases e2 with ⟨e2, e4, e5⟩ | e2
    · have ne : a ≠ p := fun z => e5 (by rw [z]; exact hp)
      refine .inl ⟨?_, e4, e5⟩
      rcases e2 with e2 | ⟨o, e2⟩
      · exact .inl (by rw [upd_ne ne]; exact e2)
      · exact .inr ⟨o, by rw [upd_ne ne]; exact e2⟩
    · exact .inr e2
theorem Reps.fill (hp : ad.rs p) (hH : H p = some (.lst us)) : ∀ (ds : List D) (ws : List V), Reps G ad H M ds ws → Reps G ad (upd H p (.lst vs)) M ds ws
  | [], _, h => by simpa [Reps] using h
  | d :: ds, _, h => by
    simp only [Reps] at h ⊢
    obtain ⟨v, w, e1, e2, e3⟩ := h
    exact ⟨v, w, e1, Rep.fill hp hH d v e2, Reps.fill hp hH ds w e3⟩
end
theorem RepK.fill (hp : ad.rs p) (hH : H p = some (.lst us)) : ∀ (ds : List (Int × D)) (ws : List (Key × V)), RepK G ad H M ds ws → RepK G ad (upd H p (.lst vs)) M ds ws
  | [], _, h => by simpa [RepK] using h
  | (k, d) :: ds, _, h => by
    simp only [RepK] at h ⊢
    obtain ⟨v, w, e1, e2, e3⟩ := h
    exact ⟨v, w, e1, Rep.fill hp hH d v e2, RepK.fill hp hH ds w e3⟩
theorem RelM.fill (hp : ad.rs p) (hH : H p = some (.lst us)) (m : RelM G ad H M) : RelM G ad (upd H p (.lst vs)) M where
  pur := m.pur
  ok := fun l ob h => by
    have ne : ad.at_ l ≠ p := fun z => (m.rsv p hp).2 ⟨l, ob, h, z⟩
    have q := m.ok l ob h
    cases ob with
    | lst xs => obtain ⟨ws, q1, q2⟩ := q; exact ⟨ws, by rw [upd_ne ne]; exact q1, Reps.fill hp hH _ _ q2⟩
    | dct xs => obtain ⟨ws, q1, q2⟩ := q; exact ⟨ws, by rw [upd_ne ne]; exact q1, RepK.fill hp hH _ _ q2⟩
  inj := m.inj
  tab := fun P hP => by
    obtain ⟨ps, h1, h2⟩ := m.tab P hP
    exact ⟨ps, by rw [upd_ne (fun z => by rw [z, hH] at h1; cases h1)]; exact h1, h2⟩
  xd := fun r hr => (upd_ne (fun z => by have y := m.xd r hr; rw [z, hH] at y; cases y)).trans (m.xd r hr)
  rsv := fun a ha => by
    by_cases q : a = p
    · subst q; exact ⟨⟨vs, upd_same⟩, (m.rsv a ha).2⟩
    · obtain ⟨⟨ws, h1⟩, h2⟩ := m.rsv a ha
      exact ⟨⟨ws, by rw [upd_ne q]; exact h1⟩, h2⟩
theorem RelE.fill (hp : ad.rs p) (hH : H p = some (.lst us)) {env : Ev} {σ : L2.St} (h : RelE G ad H M env σ) : RelE G ad (upd H p (.lst vs)) M env σ :=
  ⟨h.1, fun i d q => let ⟨v, h1, h2⟩ := h.2 i d q; ⟨v, h1, Rep.fill hp hH d v h2⟩⟩
/-- from a world ahead of the list -/
theorem Ext0.fill {ad0 : Adr} {H0 : Hp} {M0 : Store} (e : Ext0 G ad0 H0 M0 ad H M) (h0 : H0 p = none) (hH : H p = some (.lst us)) : Ext0 G ad0 H0 M0 ad (upd H p (.lst vs)) M where
  rsu := e.rsu
  len := e.len
  adr := e.adr
  frame := fun a o h al t => by
    rw [upd_ne (fun z => by rw [z, h0] at h; cases h)]
    exact e.frame a o h al t
  dead := e.dead
  tbl := fun a ps h => by
    rw [upd_ne (fun z => by rw [z, h0] at h; cases h)]
    exact e.tbl a ps h
  al := fun a al h => by
    by_cases q : a = p
    · subst q; rw [upd_same]; simp
    · rw [upd_ne q]; exact e.al a al h
end

/-! ### slots wiped -/
def wipeD (env : Ev) : List Nat → Ev
  | [] => env
  | v :: vs => (wipeD env vs).set v none
theorem wipeD_length (env : Ev) : ∀ vs : List Nat, (wipeD env vs).length = env.length
  | [] => rfl
  | v :: vs => by unfold wipeD; rw [List.length_set, wipeD_length env vs]
theorem wipeD_some {env : Ev} {i : Nat} {x : D} : ∀ {vs : List Nat}, (wipeD env vs)[i]? = some (some x) → env[i]? = some (some x) ∧ i ∉ vs
  | [], h => ⟨h, by simp⟩
  | v :: vs, h => by
    unfold wipeD at h
    by_cases hi : v = i
    · subst hi
      by_cases hv : v < (wipeD env vs).length
      · rw [List.getElem?_set_self hv] at h; cases h
      · rw [List.getElem?_eq_none (by simpa using hv)] at h; cases h
    · rw [List.getElem?_set_ne hi] at h
      obtain ⟨h1, h2⟩ := wipeD_some h
      exact ⟨h1, by rw [List.mem_cons, not_or]; exact ⟨fun z => hi z.symm, h2⟩⟩
theorem RelE.wipe {env : Ev} {σ : L2.St} (h : RelE G ad H M env σ) (vs : List Nat) : RelE G ad H M (wipeD env vs) (wipe σ vs) :=
  ⟨by rw [wipeD_length, wipe_length]; exact h.1, fun i d q => by
    obtain ⟨h1, h2⟩ := wipeD_some q
    obtain ⟨v, h3, h4⟩ := h.2 i d h1
    exact ⟨v, by rw [wipe_out h2]; exact h3, h4⟩⟩
theorem wipe_in {σ : L2.St} {i : Nat} : ∀ {vs : List Nat}, i ∈ vs → i < σ.length → (wipe σ vs)[i]? = some none
  | [], h, _ => by cases h
  | v :: vs, h, hl => by
    unfold wipe
    by_cases hv : v = i
    · subst hv
      rw [List.getElem?_set_self (by rw [wipe_length]; exact hl)]
    · rw [List.getElem?_set_ne hv]
      rcases List.mem_cons.mp h with z | z
      · exact absurd z.symm hv
      · exact wipe_in z hl
theorem wipe_same {σ σ' : L2.St} {is vs : List Nat} (s : SameSlots is (wipe σ vs) σ') (hs : ∀ i ∈ is, i ∈ vs) : wipe σ' vs = wipe σ vs := by
  have hl : σ'.length = σ.length := by rw [s.1, wipe_length]
  apply List.ext_getElem?
  intro i
  by_cases hi : i ∈ vs
  · by_cases h2 : i < σ.length
    · rw [wipe_in hi (by rw [hl]; exact h2), wipe_in hi h2]
    · rw [List.getElem?_eq_none (by rw [wipe_length]; omega), List.getElem?_eq_none (by rw [wipe_length]; omega)]
  · rw [wipe_out hi, s.2 i (fun z => hi (hs i z))]

/-! ### [elt for p in it if ifs] -/
/-- what may not raise -/
def Res.bindN {α β : Type} (r : Res α) (f : α → Store → Res β) : Res β :=
  match r with
  | .ok a M => f a M
  | _ => .stuck
def lcD (p : Pat) (ifs : Ev → Store → Res Bool) (elt : Ev → Store → Res D) : List D → List D → Ev → Store → Res (List D)
  | [], acc, _, M => .ok acc M
  | x :: xs, acc, env, M => match asgP M p x env with
    | none => .stuck
    | some env1 => (ifs env1 M).bindN fun k M1 => if k = true then (elt env1 M1).bindN fun d M2 => if acc.length < sizeLine then lcD p ifs elt xs (acc ++ [d]) env M2 else .stuck else lcD p ifs elt xs acc env M1
def evYes : Ev → Store → Res Bool := fun _ M => .ok true M
def evLc (p : Pat) (own : List Nat) (it : Ev → Store → Res (List D)) (ifs : Ev → Store → Res Bool) (elt : Ev → Store → Res D) : Ev → Store → Res D := fun env M => (it env M).bind fun xs M1 => (lcD p ifs elt xs [] (wipeD env own) M1).bind fun ds M2 => .ok (.lst ds) M2
/-- .. the new list stands in the store -/
def evLcN (p : Pat) (own : List Nat) (it : Ev → Store → Res (List D)) (ifs : Ev → Store → Res Bool) (elt : Ev → Store → Res D) : Ev → Store → Res D := fun env M => (it env M).bind fun xs M1 => (lcD p ifs elt xs [] (wipeD env own) M1).bind fun ds M2 => if pureDs ds = true then .ok (.loc M2.length) (M2 ++ [some (.lst ds)]) else .stuck
abbrev WNo : WX := fun _ _ _ _ => False
theorem tests_one {X : Cx} {c : Expr} {f : Ev → Store → Res Bool} (h : PT X c (tT G WNo f)) : PTs X [c] (tT G WNo f) := pts_one h
theorem tests_nil {X : Cx} : PTs X [] (tT G WNo evYes) := ⟨fun pins s σ H Q I ⟨env, M, ad, re, rm, q⟩ => pts_nil.run pins s σ H Q I (PostR.ret q rm rfl)⟩
/-- the new list at the end: q gives what is wanted of it -/
theorem lc_end {W0 : WX0} {ad1 ad : Adr} {H1 H : Hp} {M1 M : Store} {ds : List D} {vs : List V} {D0 : Addr} {Q : VK} (e : Ext0 G ad1 H1 M1 ad H M) (hrs : ad.rs = (adRs ad1 D0).rs) (m : RelM G ad H M) (h0 : H1 D0 = none) (m1 : RelM G ad1 H1 M1) (hD : H D0 = some (.lst vs)) (r : Reps G ad H M ds vs)
    (q : PostR G W0 (relV G) ad1 H1 M1 (.ok (.lst ds) M) Q) : Q (.ref D0) H := by
  have hr : ∀ a, ad1.rs a → ad.rs a := fun a h => by rw [hrs]; exact .inl h
  have mb := RelM.back hr m
  refine q (adBack ad ad1.rs) H (.ref D0) ⟨{ rsu := fun a h => .inl h, len := e.len, adr := e.adr, frame := e.frame, dead := e.dead, tbl := e.tbl, al := e.al }, rfl⟩ mb ?_
  simp only [relV, Rep]
  exact ⟨D0, vs, rfl, ⟨hD, (m.rsv D0 (by rw [hrs]; exact .inr rfl)).2, (notRs_new h0 m1 : ¬ ad1.rs D0)⟩, Reps.back hr _ _ r⟩
section
variable {r : Addr → Prop} {p : Addr} {ob : Ob}
theorem al_toLoc (hp : ad.rs p) {a : Addr} (e4 : ¬ Al ad M a) (e5 : ¬ ad.rs a) : ¬ Al (adNew (adBack ad r) M.length p) (M ++ [some ob]) a := fun ⟨l, u, h, z⟩ => by
  rcases getElem?_new h with ⟨hl, h⟩ | ⟨hl, _⟩
  · refine e4 ⟨l, u, h, ?_⟩
    rw [← z]; unfold adNew adBack; simp only; rw [if_neg (by omega)]
  · refine e5 ?_
    rw [← z]; unfold adNew; simp only; rw [if_pos hl]; exact hp
mutual
theorem Rep.toLoc (hm : RelM G ad H M) (hr : ∀ a, r a → ad.rs a) (hp : ad.rs p) : ∀ (d : D) (v : V), Rep G ad H M d v → Rep G (adNew (adBack ad r) M.length p) H (M ++ [some ob]) d v
  | .non, _, h => by simpa [Rep] using h
  | .bl _, _, h => by simpa [Rep] using h
  | .int _, _, h => by simpa [Rep] using h
  | .str _, _, h => by simpa [Rep] using h
  | .fn _, _, h => by simpa [Rep] using h
  | .cls _, _, h => by simpa [Rep] using h
  | .ty _, _, h => by simpa [Rep] using h
  | .dct0, _, h => by
    simp only [Rep] at h ⊢
    obtain ⟨a, e1, e2, na⟩ := h
    refine ⟨a, e1, e2, al_toLoc hp na fun z => ?_⟩
    obtain ⟨⟨us, h1⟩, _⟩ := hm.rsv a z
    rw [h1] at e2; cases e2
  | .loc l, _, h => by
    simp only [Rep] at h ⊢
    refine ⟨?_, by rw [List.length_append]; exact Nat.lt_of_lt_of_le h.2 (Nat.le_add_right _ _)⟩
    rw [h.1]; unfold adNew adBack; simp only; rw [if_neg (Nat.ne_of_lt h.2)]
  | .tup xs, _, h => by
    simp only [Rep] at h ⊢
    obtain ⟨a, vs, e1, e2, e3⟩ := h
    exact ⟨a, vs, e1, e2, Reps.toLoc hm hr hp xs vs e3⟩
  | .lst xs, _, h => by
    simp only [Rep] at h ⊢
    obtain ⟨a, vs, e1, ⟨e2, e4, e5⟩, e3⟩ := h
    refine ⟨a, vs, e1, ⟨e2, fun al => ?_, fun z => e5 (hr a z)⟩, Reps.toLoc hm hr hp xs vs e3⟩
    exact al_toLoc hp e4 e5 al
  | .scr xs, _, h => by
    simp only [Rep] at h ⊢
    obtain ⟨a, vs, e1, e2, e3⟩ := h
    refine ⟨a, vs, e1, ?_, Reps.toLoc hm hr hp xs vs e3⟩
    rcases e2 with ⟨e2, e4, e5⟩ | e2
    · exact .inl ⟨e2, fun al => al_toLoc hp e4 e5 al, fun z => e5 (hr a z)⟩
    · exact .inr e2
theorem Reps.toLoc (hm : RelM G ad H M) (hr : ∀ a, r a → ad.rs a) (hp : ad.rs p) : ∀ (ds : List D) (vs : List V), Reps G ad H M ds vs → Reps G (adNew (adBack ad r) M.length p) H (M ++ [some ob]) ds vs
  | [], _, h => by simpa [Reps] using h
  | d :: ds, _, h => by
    simp only [Reps] at h ⊢
    obtain ⟨v, w, e1, e2, e3⟩ := h
    exact ⟨v, w, e1, Rep.toLoc hm hr hp d v e2, Reps.toLoc hm hr hp ds w e3⟩
end
theorem RepK.toLoc (hm : RelM G ad H M) (hr : ∀ a, r a → ad.rs a) (hp : ad.rs p) : ∀ (ds : List (Int × D)) (vs : List (Key × V)), RepK G ad H M ds vs → RepK G (adNew (adBack ad r) M.length p) H (M ++ [some ob]) ds vs
  | [], _, h => by simpa [RepK] using h
  | (k, d) :: ds, _, h => by
    simp only [RepK] at h ⊢
    obtain ⟨v, w, e1, e2, e3⟩ := h
    exact ⟨v, w, e1, Rep.toLoc hm hr hp d v e2, RepK.toLoc hm hr hp ds w e3⟩
end
theorem lc_endN {W0 : WX0} {ad1 ad : Adr} {H1 H : Hp} {M1 M : Store} {ds : List D} {vs : List V} {D0 : Addr} {Q : VK} (e : Ext0 G ad1 H1 M1 ad H M) (hrs : ad.rs = (adRs ad1 D0).rs) (m : RelM G ad H M) (h0 : H1 D0 = none) (m1 : RelM G ad1 H1 M1) (hD : H D0 = some (.lst vs)) (r : Reps G ad H M ds vs) (hpu : pureDs ds = true)
    (q : PostR G W0 (relV G) ad1 H1 M1 (.ok (.loc M.length) (M ++ [some (.lst ds)])) Q) : Q (.ref D0) H := by
  have hr : ∀ a, ad1.rs a → ad.rs a := fun a h => by rw [hrs]; exact .inl h
  have hp : ad.rs D0 := by rw [hrs]; exact .inr rfl
  have na := (m.rsv D0 hp).2
  have alN : ∀ a, Al (adNew (adBack ad ad1.rs) M.length D0) (M ++ [some (Ob.lst ds)]) a → Al ad M a ∨ a = D0 := fun a ⟨l, u, h, z⟩ => by
    rcases getElem?_new h with ⟨hl, h⟩ | ⟨hl, _⟩
    · refine .inl ⟨l, u, h, ?_⟩
      rw [← z]; unfold adNew adBack; simp only; rw [if_neg (by omega)]
    · refine .inr ?_
      rw [← z]; unfold adNew; simp only; rw [if_pos hl]
  refine q (adNew (adBack ad ad1.rs) M.length D0) H (.ref D0) ⟨{ rsu := fun a h => .inl h, len := by rw [List.length_append]; exact Nat.le_trans e.len (Nat.le_add_right _ _), adr := fun l hl => ?_, frame := e.frame, dead := fun a al => ?_, tbl := e.tbl, al := e.al }, rfl⟩ ?_ ?_
  · unfold adNew adBack; simp only
    rw [if_neg (Nat.ne_of_lt (Nat.lt_of_lt_of_le hl e.len))]
    exact e.adr l hl
  · rcases alN a al with z | z
    · exact e.dead a z
    · exact .inr (by rw [z]; exact h0)
  · exact { pur := fun l o h => by
              rcases getElem?_new h with ⟨hl, h⟩ | ⟨hl, z⟩
              · exact m.pur l o h
              · simp only [Option.some.injEq] at z; subst z; exact hpu
            ok := fun l o h => by
              rcases getElem?_new h with ⟨hl, h⟩ | ⟨hl, z⟩
              · have z : (adNew (adBack ad ad1.rs) M.length D0).at_ l = ad.at_ l := by unfold adNew adBack; simp only; rw [if_neg (by omega)]
                rw [z]
                have qq := m.ok l o h
                cases o with
                | lst xs => obtain ⟨us, q1, q2⟩ := qq; exact ⟨us, q1, Reps.toLoc m hr hp _ _ q2⟩
                | dct xs => obtain ⟨us, q1, q2⟩ := qq; exact ⟨us, q1, RepK.toLoc m hr hp _ _ q2⟩
              · simp only [Option.some.injEq] at z; subst z
                have z : (adNew (adBack ad ad1.rs) M.length D0).at_ l = D0 := by unfold adNew; simp only; rw [if_pos hl]
                rw [z]
                exact ⟨vs, hD, Reps.toLoc m hr hp _ _ r⟩
            inj := fun l l' o o' h h' z => by
              unfold adNew adBack at z; simp only at z
              rcases getElem?_new h with ⟨hl, h⟩ | ⟨hl, _⟩ <;> rcases getElem?_new h' with ⟨hl', h'⟩ | ⟨hl', _⟩
              · rw [if_neg (by omega), if_neg (by omega)] at z
                exact m.inj _ _ _ _ h h' z
              · rw [if_neg (by omega), if_pos hl'] at z
                exact absurd ⟨l, o, h, z⟩ na
              · rw [if_pos hl, if_neg (by omega)] at z
                exact absurd ⟨l', o', h', z.symm⟩ na
              · omega
            tab := m.tab
            xd := m.xd
            rsv := fun a ha => by
              obtain ⟨h1, h2⟩ := m.rsv a (hr a ha)
              refine ⟨h1, fun al => ?_⟩
              rcases alN a al with z | z
              · exact h2 z
              · subst z
                exact notRs_new h0 m1 ha }
  · simp only [relV, Rep]
    refine ⟨?_, by simp⟩
    unfold adNew; simp
/-- the turns of a comprehension -/
theorem lc_run {p : Pat} {fi : Ev → Store → Res Bool} {fe : Ev → Store → Res D} {xs : List D} {J : It} {vs : List Nat} {σ : L2.St} {env : Ev} {ad1 : Adr} {H1 : Hp} {M1 : Store} {D0 : Addr} {Qd : Hp → Prop} {W0 : WX0} {β : Type} {rel2 : Adr → Hp → Store → β → V → Prop} {k : List D → Store → Res β} {Q : VK}
    (hs : ∀ i ∈ slotsP p, i ∈ vs) (re : RelE G ad1 H1 M1 env σ) (m1 : RelM G ad1 H1 M1) (w1 : Wk G J xs ad1 H1 M1) (h0 : H1 D0 = none)
    (q1 : PostR G W0 rel2 ad1 H1 M1 ((lcD p fi fe xs [] (wipeD env vs) M1).bind k) Q)
    (hend : ∀ ad H M ds us, Ext0 G ad1 H1 M1 ad H M → ad.rs = (adRs ad1 D0).rs → RelM G ad H M → H D0 = some (.lst us) → Reps G ad H M ds us → PostR G W0 rel2 ad1 H1 M1 (k ds M) Q → Qd H) :
    ∃ Wv : Nat → Nat → Hp → Prop, (∃ m, Wv 0 m (upd H1 D0 (.lst []))) ∧ ∀ i m H, Wv i m H →
      (J.stop i H ∧ Qd H) ∨ (J.go i H ∧ ∃ Nx : Hp → Prop, (∀ H', Nx H' → ∃ m', m' < m ∧ Wv (i + 1) m' H') ∧ ∀ x H', J.yld i H x H' → tG G p x (wipe σ vs) H' fun σ2 H2 => wipe σ2 vs = wipe σ vs ∧ tT G WNo fi σ2 H2 fun b H3 =>
        if b = true then tE G WNo fe σ2 H3 fun y H4 => ∃ acc, H4 D0 = some (.lst acc) ∧ acc.length < sizeLine ∧ Nx (upd H4 D0 (.lst (acc ++ [y]))) else Nx H3) := by
  refine ⟨fun i m H => i + m = xs.length ∧ ∃ ad M acc us, Ext0 G ad1 H1 M1 ad H M ∧ ad.rs = (adRs ad1 D0).rs ∧ RelM G ad H M ∧ H D0 = some (.lst us) ∧ Reps G ad H M acc us ∧ RelE G ad H M (wipeD env vs) (wipe σ vs) ∧ PostR G W0 rel2 ad1 H1 M1 ((lcD p fi fe (xs.drop i) acc (wipeD env vs) M).bind k) Q,
    ⟨xs.length, by omega, adRs ad1 D0, M1, [], [], ext0_rs h0 m1, rfl, relM_rs h0 m1, upd_same, by simp [Reps], (RelE.ext (ext0_rs h0 m1) m1 re).wipe vs, by rw [List.drop_zero]; exact q1⟩, fun i m H ⟨him, ad, M, acc, us, e, hrs, mm, hD, ra, rE, q⟩ => ?_⟩
  have hp : ad.rs D0 := by rw [hrs]; exact .inr rfl
  obtain ⟨wg, ws⟩ := w1 ad H M e mm i
  by_cases hi : i < xs.length
  · obtain ⟨g1, g2⟩ := wg hi
    refine .inr ⟨g1, fun H2 => ∃ ad M acc us, Ext0 G ad1 H1 M1 ad H2 M ∧ ad.rs = (adRs ad1 D0).rs ∧ RelM G ad H2 M ∧ H2 D0 = some (.lst us) ∧ Reps G ad H2 M acc us ∧ RelE G ad H2 M (wipeD env vs) (wipe σ vs) ∧ PostR G W0 rel2 ad1 H1 M1 ((lcD p fi fe (xs.drop (i + 1)) acc (wipeD env vs) M).bind k) Q, fun H2 h2 => ⟨m - 1, by omega, by omega, h2⟩, fun x H2 hy => ?_⟩
    obtain ⟨d, hd, ex, mx, rx⟩ := g2 x H2 hy
    have hdrop : xs.drop i = d :: xs.drop (i + 1) := by
      rw [List.drop_eq_getElem_cons hi]
      rw [List.getElem?_eq_getElem hi] at hd
      simp only [Option.some.injEq] at hd
      rw [hd]
    rw [hdrop] at q
    simp only [lcD] at q
    split at q
    · exact q.elim
    · rename_i env1 hasg
      have rE2 := rE.ext ex.toExt0 mm
      refine ⟨d, wipeD env vs, env1, M, ad, rx, rE2, mx, hasg, fun σ3 re3 s3 => ⟨wipe_same s3 hs, ?_⟩⟩
      -- the tests
      have naD := (mx.rsv D0 hp).2
      have hD2 : H2 D0 = some (.lst us) := ex.frame D0 _ hD ((mm.rsv D0 hp).2) rfl
      refine ⟨env1, M, ad, re3, mx, ?_⟩
      cases hfi : fi env1 M with
      | stuck => rw [hfi] at q; exact q.elim
      | exc c fs M2 => rw [hfi] at q; exact q.elim
      | ok b M2 =>
        rw [hfi] at q
        simp only [Res.bindN] at q
        intro ad3 H3 b' e3 m3 eb
        cases (show b = b' from eb)
        have hD3 : H3 D0 = some (.lst us) := e3.frame D0 _ hD2 naD rfl
        have hrs3 : ad3.rs = (adRs ad1 D0).rs := e3.rs.trans hrs
        have hp3 : ad3.rs D0 := by rw [hrs3]; exact .inr rfl
        have e13 : Ext0 G ad1 H1 M1 ad3 H3 M2 := (e.trans ex.toExt0).trans e3.toExt0
        have ra3 := Reps.ext e3.toExt0 mx _ _ (Reps.ext ex.toExt0 mm _ _ ra)
        have rE3 := rE2.ext e3.toExt0 mx
        cases b with
        | false =>
          rw [if_neg (by simp)] at q ⊢
          exact ⟨ad3, M2, acc, us, e13, hrs3, m3, hD3, ra3, rE3, q⟩
        | true =>
          rw [if_pos rfl] at q ⊢
          refine ⟨env1, M2, ad3, re3.ext e3.toExt0 mx, m3, ?_⟩
          cases hfe : fe env1 M2 with
          | stuck => rw [hfe] at q; exact q.elim
          | exc c fs M3 => rw [hfe] at q; exact q.elim
          | ok y M3 =>
            rw [hfe] at q
            simp only [Res.bindN] at q
            intro ad4 H4 yv e4 m4 ry
            have hD4 : H4 D0 = some (.lst us) := e4.frame D0 _ hD3 ((m3.rsv D0 hp3).2) rfl
            have hrs4 : ad4.rs = (adRs ad1 D0).rs := e4.rs.trans hrs3
            have hp4 : ad4.rs D0 := by rw [hrs4]; exact .inr rfl
            have hlen : acc.length < sizeLine := by
              by_cases z : acc.length < sizeLine
              · exact z
              · rw [if_neg z] at q; exact q.elim
            rw [if_pos hlen] at q
            have ra4 := Reps.ext e4.toExt0 m3 _ _ ra3
            refine ⟨us, hD4, by rw [Reps.length _ _ ra]; exact hlen, ad4, M3, acc ++ [y], us ++ [yv], (e13.trans e4.toExt0).fill h0 hD4, hrs4, RelM.fill hp4 hD4 m4, upd_same, ?_, RelE.fill hp4 hD4 (rE3.ext e4.toExt0 m3), q⟩
            refine Reps.append (Reps.fill hp4 hD4 _ _ ra4) ?_
            simp only [Reps]
            exact ⟨yv, [], rfl, Rep.fill hp4 hD4 _ _ ry, rfl⟩
  · refine .inl ⟨ws (by omega), ?_⟩
    rw [List.drop_of_length_le (by omega)] at q
    simp only [lcD] at q
    exact hend ad H M acc us e hrs mm hD ra q
/-- as a value -/
theorem se_lc {elt tg iter : Expr} {ifs : List Expr} {scope : Scope} {own : List (Str × Nat)} {pos : Pos} {p : Pat} {fi : Ev → Store → Res (List D)} {ft : Ev → Store → Res Bool} {fe : Ev → Store → Res D} (hc : X.calm = true) (hN : X.N.Nodup) (hi : PI X tg iter (tI G W fi)) (ok : BlkOk X.N X.env.scope scope own) (hp : ∀ i ∈ slotsP p, i ∈ own.map (·.2))
    (hg : ∀ (s : Shared) (H : Hp) (C : Addr) (cl : List (Str × Addr)) (fp : List Addr), PG (X.blk s H scope (compEnvC scope cl C X.env) fp) tg (tG G p)) (ht : ∀ (s : Shared) (H : Hp) (C : Addr) (cl : List (Str × Addr)) (fp : List Addr), PTs (X.blk s H scope (compEnvC scope cl C X.env) fp) ifs (tT G WNo ft))
    (he : ∀ (s : Shared) (H : Hp) (C : Addr) (cl : List (Str × Addr)) (fp : List Addr), PE (X.blk s H scope (compEnvC scope cl C X.env) fp) elt (tE G WNo fe)) (hs : ∀ x, foldedSetIterable iter X.env x = pure x) :
    PE X (.ListComp elt [⟨tg, iter, ifs, 0⟩] scope pos) (tE G W (evLc p (own.map (·.2)) fi ft fe)) :=
  PE.weak (pe_lc hc hN hi ok hg ht he hs) fun σ H Q ⟨env, M, ad, re, rm, q⟩ => by
    refine ⟨env, M, ad, re, rm, PostR.imp (PostR.bind (rel := fun ad H M xs J => Wk G J xs ad H M) q) fun J H1 ⟨xs, M1, ad1, e1, m1, w1, q1⟩ => fun D0 h0 => ?_⟩
    exact lc_run hp (re.ext e1.toExt0 rm) m1 w1 h0 q1 fun ad H M ds us e hrs m hD r q2 => lc_end e hrs m h0 m1 hD r q2
theorem se_lcN {elt tg iter : Expr} {ifs : List Expr} {scope : Scope} {own : List (Str × Nat)} {pos : Pos} {p : Pat} {fi : Ev → Store → Res (List D)} {ft : Ev → Store → Res Bool} {fe : Ev → Store → Res D} (hc : X.calm = true) (hN : X.N.Nodup) (hi : PI X tg iter (tI G W fi)) (ok : BlkOk X.N X.env.scope scope own) (hp : ∀ i ∈ slotsP p, i ∈ own.map (·.2))
    (hg : ∀ (s : Shared) (H : Hp) (C : Addr) (cl : List (Str × Addr)) (fp : List Addr), PG (X.blk s H scope (compEnvC scope cl C X.env) fp) tg (tG G p)) (ht : ∀ (s : Shared) (H : Hp) (C : Addr) (cl : List (Str × Addr)) (fp : List Addr), PTs (X.blk s H scope (compEnvC scope cl C X.env) fp) ifs (tT G WNo ft))
    (he : ∀ (s : Shared) (H : Hp) (C : Addr) (cl : List (Str × Addr)) (fp : List Addr), PE (X.blk s H scope (compEnvC scope cl C X.env) fp) elt (tE G WNo fe)) (hs : ∀ x, foldedSetIterable iter X.env x = pure x) :
    PE X (.ListComp elt [⟨tg, iter, ifs, 0⟩] scope pos) (tE G W (evLcN p (own.map (·.2)) fi ft fe)) :=
  PE.weak (pe_lc hc hN hi ok hg ht he hs) fun σ H Q ⟨env, M, ad, re, rm, q⟩ => by
    refine ⟨env, M, ad, re, rm, PostR.imp (PostR.bind (rel := fun ad H M xs J => Wk G J xs ad H M) q) fun J H1 ⟨xs, M1, ad1, e1, m1, w1, q1⟩ => fun D0 h0 => ?_⟩
    refine lc_run hp (re.ext e1.toExt0 rm) m1 w1 h0 q1 fun ad H M ds us e hrs m hD r q2 => ?_
    obtain ⟨hpu, q3⟩ := post_if q2
    exact lc_endN e hrs m h0 m1 hD r hpu q3
end
end Mi


set_option Elab.async false
set_option linter.all false
set_option maxRecDepth 100000
/-! Mi6: stores; built-ins by values. -/
namespace Mi
open PySem PySem.Spec PyProof.Rows L2

/-! ### max, min of a tuple of ints -/
section
variable {prog : Program} {w : World} {A : Around} {E : Value → Shared → Prop} {s : Shared} {t : Addr} {its : List Value} {ns : List Int} {Q : Value → Shared → Prop}
theorem max_rawT (hh : A.handled = none) (hl : s.heap.IsTuple t its.toArray) (hi : IntsAre its ns) (hne : 0 < ns.length)
    (h : ∀ h' tk M t', (∀ b o, s.heap.get? b = some o → h'.get? b = some o) → M ∈ ns → (∀ a, a ∈ ns → a ≤ M) → Q (.int M t') { s with heap := h', toks := tk }) : wpAny (model prog w) A (call (.builtin "max") [.ref t]) Q E s := by
  obtain ⟨xs, e⟩ := hi.allInts.items
  have hn : numsOf (intItems xs).toList = ns := by rw [← e]; exact hi.numsOf
  rw [nums_intItems] at hn
  subst hn
  rw [e] at hl
  have hsz : 0 < xs.size := by simpa using hne
  have hlt : t < s.heap.objs.size := by obtain ⟨o, ho, _⟩ := hl; exact Heap.lt_size ho
  refine call_max_walk (wpAny_pyIter_tuple hl ?_)
  refine ⟨_, [_, t], [_], _, _, _, _, rfl, Walks.tuple (A := A.in1) hh _ t (Nat.ne_of_lt hlt) (intItems xs), ⟨⟨_, Heap.get?_push_size _ rfl, rfl, rfl⟩, hl.push _⟩, fun c hc => ?_, by simpa [intItems] using hsz,
    CmpOf.ints_gt (numAt xs) (fun _ _ => intItems_at), fun v h' tk hP hk => ?_⟩
  · show c < (s.heap.push _).objs.size
    rw [Heap.size_push]
    rcases List.mem_cons.mp hc with rfl | hc
    · exact Nat.lt_succ_self _
    · rcases List.mem_cons.mp hc with rfl | hc
      · exact Nat.lt_succ_of_lt hlt
      · cases hc
  · have hold : ∀ c o, s.heap.get? c = some o → h'.get? c = some o := fun c o e => by
      refine hk c o (fun hm => ?_) (Heap.get?_push_of_some _ e)
      rcases List.mem_cons.mp hm with e1 | hm
      · have := Heap.lt_size e; rw [e1] at this; exact Nat.lt_irrefl _ this
      · cases hm
    have hv : (intItems xs)[argBest (fun i j => decide (numAt xs i > numAt xs j)) (xs.size - 1)]? = some v := by simpa [intItems] using hP
    obtain ⟨t', rfl⟩ := intItems_at hv
    obtain ⟨h1, h2⟩ := argBest_gt (numAt xs) (xs.size - 1)
    refine h h' tk _ t' hold ?_ fun a ha => ?_
    · rw [numAt_eq]; exact PySem.getD_mem (by rw [List.length_map, Array.length_toList]; omega)
    · obtain ⟨j, hj, rfl⟩ := mem_getD ha
      rw [List.length_map, Array.length_toList] at hj
      have := h2 j (by omega)
      rw [numAt_eq, numAt_eq] at this
      rw [numAt_eq]
      exact this
theorem min_rawT (hh : A.handled = none) (hl : s.heap.IsTuple t its.toArray) (hi : IntsAre its ns) (hne : 0 < ns.length)
    (h : ∀ h' tk M t', (∀ b o, s.heap.get? b = some o → h'.get? b = some o) → M ∈ ns → (∀ a, a ∈ ns → M ≤ a) → Q (.int M t') { s with heap := h', toks := tk }) : wpAny (model prog w) A (call (.builtin "min") [.ref t]) Q E s := by
  obtain ⟨xs, e⟩ := hi.allInts.items
  have hn : numsOf (intItems xs).toList = ns := by rw [← e]; exact hi.numsOf
  rw [nums_intItems] at hn
  subst hn
  rw [e] at hl
  have hsz : 0 < xs.size := by simpa using hne
  have hlt : t < s.heap.objs.size := by obtain ⟨o, ho, _⟩ := hl; exact Heap.lt_size ho
  refine call_min_walk (wpAny_pyIter_tuple hl ?_)
  refine ⟨_, [_, t], [_], _, _, _, _, rfl, Walks.tuple (A := A.in1) hh _ t (Nat.ne_of_lt hlt) (intItems xs), ⟨⟨_, Heap.get?_push_size _ rfl, rfl, rfl⟩, hl.push _⟩, fun c hc => ?_, by simpa [intItems] using hsz,
    CmpOf.ints_lt (numAt xs) (fun _ _ => intItems_at), fun v h' tk hP hk => ?_⟩
  · show c < (s.heap.push _).objs.size
    rw [Heap.size_push]
    rcases List.mem_cons.mp hc with rfl | hc
    · exact Nat.lt_succ_self _
    · rcases List.mem_cons.mp hc with rfl | hc
      · exact Nat.lt_succ_of_lt hlt
      · cases hc
  · have hold : ∀ c o, s.heap.get? c = some o → h'.get? c = some o := fun c o e => by
      refine hk c o (fun hm => ?_) (Heap.get?_push_of_some _ e)
      rcases List.mem_cons.mp hm with e1 | hm
      · have := Heap.lt_size e; rw [e1] at this; exact Nat.lt_irrefl _ this
      · cases hm
    have hv : (intItems xs)[argBest (fun i j => decide (numAt xs i < numAt xs j)) (xs.size - 1)]? = some v := by simpa [intItems] using hP
    obtain ⟨t', rfl⟩ := intItems_at hv
    obtain ⟨h1, h2⟩ := argBest_lt (numAt xs) (xs.size - 1)
    refine h h' tk _ t' hold ?_ fun a ha => ?_
    · rw [numAt_eq]; exact PySem.getD_mem (by rw [List.length_map, Array.length_toList]; omega)
    · obtain ⟨j, hj, rfl⟩ := mem_getD ha
      rw [List.length_map, Array.length_toList] at hj
      have := h2 j (by omega)
      rw [numAt_eq, numAt_eq] at this
      rw [numAt_eq]
      exact this
end
end Mi
namespace Mi
open PySem PySem.Spec PyProof.Rows L2

/-! ### sorting, on lists of ints -/
def insI (x : Int) : List Int → List Int
  | [] => [x]
  | y :: ys => if x ≤ y then x :: y :: ys else y :: insI x ys
def sortI : List Int → List Int
  | [] => []
  | x :: xs => insI x (sortI xs)
theorem insI_perm (x : Int) : ∀ l, (insI x l).Perm (x :: l)
  | [] => List.Perm.refl _
  | y :: ys => by
    unfold insI
    split
    · exact List.Perm.refl _
    · exact ((insI_perm x ys).cons y).trans (List.Perm.swap x y ys)
theorem sortI_perm : ∀ l, (sortI l).Perm l
  | [] => List.Perm.refl _
  | x :: xs => (insI_perm x _).trans ((sortI_perm xs).cons x)
theorem insI_pw (x : Int) : ∀ l, l.Pairwise (· ≤ ·) → (insI x l).Pairwise (· ≤ ·)
  | [], _ => by simp [insI]
  | y :: ys, h => by
    unfold insI
    rw [List.pairwise_cons] at h
    split
    · rename_i hxy
      rw [List.pairwise_cons, List.pairwise_cons]
      refine ⟨fun z hz => ?_, h⟩
      rcases List.mem_cons.mp hz with q | q
      · rw [q]; exact hxy
      · exact Int.le_trans hxy (h.1 z q)
    · rename_i hxy
      rw [List.pairwise_cons]
      refine ⟨fun z hz => ?_, insI_pw x ys h.2⟩
      have := (insI_perm x ys).mem_iff.mp hz
      rcases List.mem_cons.mp this with q | q
      · rw [q]; omega
      · exact h.1 z q
theorem sortI_pw : ∀ l, (sortI l).Pairwise (· ≤ ·)
  | [] => List.Pairwise.nil
  | x :: xs => insI_pw x _ (sortI_pw xs)
theorem sortI_eq {l ns : List Int} (hp : ns.Perm l) (hs : ns.Pairwise (· ≤ ·)) : ns = sortI l :=
  (hp.trans (sortI_perm l).symm).eq_of_pairwise (fun x y _ _ h1 h2 => Int.le_antisymm h1 h2) hs (sortI_pw l)

/-! ### sorting of tuples of ints by their code -/
abbrev cd (ns : List Int) : Int := TS.code 64 ns
def insC (x : List Int) : List (List Int) → List (List Int)
  | [] => [x]
  | y :: ys => if cd x ≤ cd y then x :: y :: ys else y :: insC x ys
def sortC : List (List Int) → List (List Int)
  | [] => []
  | x :: xs => insC x (sortC xs)
theorem insC_perm (x : List Int) : ∀ l, (insC x l).Perm (x :: l)
  | [] => List.Perm.refl _
  | y :: ys => by
    unfold insC
    split
    · exact List.Perm.refl _
    · exact ((insC_perm x ys).cons y).trans (List.Perm.swap x y ys)
theorem sortC_perm : ∀ l, (sortC l).Perm l
  | [] => List.Perm.refl _
  | x :: xs => (insC_perm x _).trans ((sortC_perm xs).cons x)
theorem insC_pw (x : List Int) : ∀ l, l.Pairwise (fun a b => cd a ≤ cd b) → (insC x l).Pairwise (fun a b => cd a ≤ cd b)
  | [], _ => by simp [insC]
  | y :: ys, h => by
    unfold insC
    rw [List.pairwise_cons] at h
    split
    · rename_i hxy
      rw [List.pairwise_cons, List.pairwise_cons]
      refine ⟨fun z hz => ?_, h⟩
      rcases List.mem_cons.mp hz with q | q
      · rw [q]; exact hxy
      · exact Int.le_trans hxy (h.1 z q)
    · rename_i hxy
      rw [List.pairwise_cons]
      refine ⟨fun z hz => ?_, insC_pw x ys h.2⟩
      have := (insC_perm x ys).mem_iff.mp hz
      rcases List.mem_cons.mp this with q | q
      · rw [q]; omega
      · exact h.1 z q
theorem sortC_pw : ∀ l, (sortC l).Pairwise (fun a b => cd a ≤ cd b)
  | [] => List.Pairwise.nil
  | x :: xs => insC_pw x _ (sortC_pw xs)
def Bd64 (ns : List Int) : Prop := ∀ m, m ∈ ns → 0 ≤ m ∧ m < 64
end Mi

set_option Elab.async false
set_option linter.all false
set_option maxRecDepth 100000
/-! Mi7: built-ins by values. -/
namespace Mi
open PySem PySem.Spec PyProof.Rows L2
theorem cd_inj : ∀ {a b : List Int}, Bd64 a → Bd64 b → a.length = b.length → cd a = cd b → a = b
  | [], [], _, _, _, _ => rfl
  | [], _ :: _, _, _, h, _ => by simp at h
  | _ :: _, [], _, _, h, _ => by simp at h
  | x :: xs, y :: ys, ha, hb, hl, he => by
    have ha' : TS.Bd 64 (x :: xs) := ha
    have hb' : TS.Bd 64 (y :: ys) := hb
    have hl' : xs.length = ys.length := by simpa using hl
    by_cases h1 : x < y
    · have := TS.code_lt hl' ha'.tail hb'.tail h1
      unfold cd at he; omega
    · by_cases h2 : y < x
      · have := TS.code_lt hl'.symm hb'.tail ha'.tail h2
        unfold cd at he; omega
      · have e : x = y := by omega
        subst e
        have e2 : cd xs = cd ys := by
          have a1 := TS.code_same (B := 64) (d := x) hl'
          have a2 := TS.code_same (B := 64) (d := x) hl'.symm
          unfold cd at he ⊢
          by_cases q : TS.code 64 xs < TS.code 64 ys
          · have := a1.mpr q; omega
          · by_cases q2 : TS.code 64 ys < TS.code 64 xs
            · have := a2.mpr q2; omega
            · omega
        rw [cd_inj ha'.tail hb'.tail hl' e2]
/-- lists of tuples of ints -/
def tupsOf : List D → Option (List (List Int))
  | [] => some []
  | .tup xs :: ds => (intsOf xs).bind fun is => (tupsOf ds).map fun r => is :: r
  | _ => none
abbrev tupD (ns : List Int) : D := .tup (ns.map .int)
theorem intsOf_map (ns : List Int) : intsOf (ns.map D.int) = some ns := by
  induction ns with
  | nil => rfl
  | cons x xs ih => simp [intsOf, ih]
theorem intsOf_eq : ∀ {xs : List D} {ns : List Int}, intsOf xs = some ns → xs = ns.map D.int
  | [], ns, h => by simp only [intsOf, Option.some.injEq] at h; subst h; rfl
  | d :: ds, ns, h => by
    cases d with
    | int i =>
      simp only [intsOf, Option.map_eq_some_iff] at h
      obtain ⟨js, h1, rfl⟩ := h
      rw [intsOf_eq h1]; rfl
    | _ => simp [intsOf] at h
theorem tupsOf_eq : ∀ {ds : List D} {ls : List (List Int)}, tupsOf ds = some ls → ds = ls.map tupD
  | [], ls, h => by simp only [tupsOf, Option.some.injEq] at h; subst h; rfl
  | d :: ds, ls, h => by
    cases d with
    | tup xs =>
      simp only [tupsOf, Option.bind_eq_some_iff, Option.map_eq_some_iff] at h
      obtain ⟨is, h1, r, h2, rfl⟩ := h
      rw [tupsOf_eq h2, intsOf_eq h1]; rfl
    | _ => simp [tupsOf] at h
theorem tupsOf_map (ls : List (List Int)) : tupsOf (ls.map tupD) = some ls := by
  induction ls with
  | nil => rfl
  | cons x xs ih => simp [tupsOf, ih, intsOf_map]
/-- all of one length, in [0, 64) -/
def okTups (ls : List (List Int)) : Bool := match ls with
  | [] => true
  | l :: r => decide (1 ≤ l.length) && (l :: r).all fun m => decide (m.length = l.length) && m.all fun x => decide (0 ≤ x) && decide (x < 64)
theorem okTups_d {ls : List (List Int)} (h : okTups ls = true) : ∃ d, 1 ≤ d ∧ ∀ m ∈ ls, m.length = d ∧ Bd64 m := by
  cases ls with
  | nil => exact ⟨1, Nat.le_refl _, fun m hm => by cases hm⟩
  | cons l r =>
    simp only [okTups, Bool.and_eq_true, decide_eq_true_eq, List.all_eq_true] at h
    refine ⟨l.length, h.1, fun m hm => ⟨(h.2 m hm).1, fun x hx => (h.2 m hm).2 x hx⟩⟩
theorem sortC_eq {d : Nat} {l ms : List (List Int)} (hb : ∀ m ∈ l, m.length = d ∧ Bd64 m) (hp : ms.Perm l) (hs : ms.Pairwise fun a b => cd a ≤ cd b) : ms = sortC l := by
  refine (hp.trans (sortC_perm l).symm).eq_of_pairwise (fun x y hx hy h1 h2 => ?_) hs (sortC_pw l)
  have a := hb x (hp.mem_iff.mp hx)
  have b := hb y ((sortC_perm l).mem_iff.mp hy)
  exact cd_inj a.2 b.2 (a.1.trans b.1.symm) (Int.le_antisymm h1 h2)
/-- without doubles -/
def nubL : List (List Int) → List (List Int)
  | [] => []
  | x :: xs => if x ∈ xs then nubL xs else x :: nubL xs
theorem mem_nubL {x : List Int} : ∀ {l}, x ∈ nubL l ↔ x ∈ l
  | [] => Iff.rfl
  | y :: ys => by
    unfold nubL
    by_cases h : y ∈ ys
    · rw [if_pos h, mem_nubL, List.mem_cons]
      exact ⟨.inr, fun q => q.elim (fun e => by rw [e]; exact h) id⟩
    · rw [if_neg h, List.mem_cons, List.mem_cons, mem_nubL]
theorem nodup_nubL : ∀ l, (nubL l).Nodup
  | [] => List.Pairwise.nil
  | y :: ys => by
    unfold nubL
    by_cases h : y ∈ ys
    · rw [if_pos h]; exact nodup_nubL ys
    · rw [if_neg h, List.nodup_cons]; exact ⟨fun q => h (mem_nubL.mp q), nodup_nubL ys⟩

section
variable {G : Gx} {X : Cx} {W : WX}
/-! ### calls of built-ins -/
abbrev OpN := List D → Store → Res D
def SemN (G : Gx) (g : OpN) (r : List V → Hp → VK → Prop) : Prop := ∀ (W : WX0) (ad : Adr) (H : Hp) (M : Store) (ds : List D) (vs : List V) (Q : VK), RelM G ad H M → Reps G ad H M ds vs → PostR G W (relV G) ad H M (g ds M) Q → r vs H Q
def evN (g : OpN) (gs : Ev → Store → Res (List D)) : Ev → Store → Res D := fun env M => (gs env M).bind fun ds M => g ds M
theorem tCB_of {g : OpN} {r : List V → Hp → VK → Prop} {gs : Ev → Store → Res (List D)} {σ : L2.St} {H : Hp} {Q : VK} (hs : SemN G g r) (h : tE G W (evN g gs) σ H Q) : tCB r (tA G W gs) σ H Q := by
  obtain ⟨env, M, ad, re, rm, q⟩ := h
  exact tA.imp (tA_bind re rm q) fun vs H1 ⟨ds, M1, ad1, e1, m1, r1, q1⟩ => hs _ ad1 H1 M1 ds vs Q m1 r1 q1
variable {x : Str} {id T : String} {p pos : Pos} {e : Expr} {es : List Expr} {g : OpN} {r : List V → Hp → VK → Prop} {gs : Ev → Store → Res (List D)}
theorem se_bi (hc : CallR X (.builtin id) r) (hs : SemN G g r) (hg : Gl X x) (hm : X.mg x = none) (hv : bootBuiltins x = some (.builtin id)) (ha : PA X (e :: es) (tA G W gs)) (hn : x ≠ "__name__") (hdb : (x == ("__debug__" : Str)) = false)
    (he : starEach (e :: es) X.env = (false, eval e X.env) :: starEach es X.env) (hpl : (backTo pos (starEach es X.env)).any (·.1) = false) : PE X (.Call (.Name x p) (e :: es) [] pos) (tE G W (evN g gs)) :=
  PE.weak (pe_callB hc hg hm hv ha hn hdb he hpl) fun σ H Q h => tCB_of hs h
theorem se_ty (hc : CallR X (.type T) r) (hs : SemN G g r) (hg : Gl X x) (hm : X.mg x = none) (hv : bootBuiltins x = some (.type T)) (ha : PA X (e :: es) (tA G W gs)) (hn : x ≠ "__name__") (hdb : (x == ("__debug__" : Str)) = false)
    (he : starEach (e :: es) X.env = (false, eval e X.env) :: starEach es X.env) (hpl : (backTo pos (starEach es X.env)).any (·.1) = false) : PE X (.Call (.Name x p) (e :: es) [] pos) (tE G W (evN g gs)) :=
  PE.weak (pe_callTy hc hg hm hv ha hn hdb he hpl) fun σ H Q h => tCB_of hs h
theorem CallR.or {f : Value} {r r' : List V → Hp → VK → Prop} (h : CallR X f r) (h' : CallR X f r') : CallR X f (fun xs H Q => r xs H Q ∨ r' xs H Q) := fun pins s σ H xs us Q I rv q => by
  rcases q with q | q
  · exact h pins s σ H xs us Q I rv q
  · exact h' pins s σ H xs us Q I rv q
theorem Reps.one {ad : Adr} {H : Hp} {M : Store} {d : D} {vs : List V} (r : Reps G ad H M [d] vs) : ∃ v, vs = [v] ∧ Rep G ad H M d v := by
  simp only [Reps] at r
  obtain ⟨v, w, rfl, r1, rfl⟩ := r
  exact ⟨v, rfl, r1⟩
theorem Reps.two {ad : Adr} {H : Hp} {M : Store} {d d' : D} {vs : List V} (r : Reps G ad H M [d, d'] vs) : ∃ v v', vs = [v, v'] ∧ Rep G ad H M d v ∧ Rep G ad H M d' v' := by
  simp only [Reps] at r
  obtain ⟨v, w, rfl, r1, v', w', rfl, r2, rfl⟩ := r
  exact ⟨v, v', rfl, r1, r2⟩

/-! len -/
def biLen : OpN := fun ds M => match ds with
  | [.str z] => if z.length ≤ sizeLine then .ok (.int z.length) M else .stuck
  | [d] => (Res.of (seqOf M d) M).bind fun xs M => .ok (.int xs.length) M
  | _ => .stuck
def rLen (K : PySem.W.Frag) : List V → Hp → VK → Prop := fun xs H Q => ∃ x n, xs = [x] ∧ LenV K x H n ∧ Q (.int n) H
theorem sem_len : SemN G biLen (rLen G.K) := fun W ad H M ds vs Q rm r q => by
  unfold biLen at q
  split at q
  · obtain ⟨v, rfl, r1⟩ := r.one
    simp only [Rep] at r1; subst r1
    obtain ⟨hl, q⟩ := post_if q
    exact ⟨_, _, rfl, ⟨hl, rfl⟩, PostR.ret q rm rep_int⟩
  · obtain ⟨v, rfl, r1⟩ := r.one
    obtain ⟨xs, h1, q⟩ := of_bind q
    obtain ⟨a, us, rfl, s1, s2⟩ := seqOf_ok rm r1 h1
    refine ⟨_, xs.length, rfl, ?_, PostR.ret q rm rep_int⟩
    rcases s1 with s1 | s1
    · exact .inl ⟨us, s1, (Reps.length _ _ s2).symm⟩
    · exact .inr ⟨us, s1, (Reps.length _ _ s2).symm⟩
  · exact q.elim
/-! list, tuple of a list or a tuple -/
def biList : OpN := fun ds M => match ds with
  | [d] => (Res.of (seqOf M d) M).bind fun xs M => .ok (.lst xs) M
  | _ => .stuck
def biListN : OpN := fun ds M => match ds with
  | [d] => (Res.of (seqOf M d) M).bind fun xs M => if pureDs xs = true then .ok (.loc M.length) (M ++ [some (.lst xs)]) else .stuck
  | _ => .stuck
def rListOf (K : PySem.W.Frag) : List V → Hp → VK → Prop := fun xs H Q => ∃ p ys, xs = [.ref p] ∧ (SqL K H p ys ∨ SqT K H p ys) ∧ ∀ l, H l = none → Q (.ref l) (upd H l (.lst ys))
theorem sem_list : SemN G biList (rListOf G.K) := fun W ad H M ds vs Q rm r q => by
  unfold biList at q
  split at q
  · obtain ⟨v, rfl, r1⟩ := r.one
    obtain ⟨xs, h1, q⟩ := of_bind q
    obtain ⟨a, us, rfl, s1, s2⟩ := seqOf_ok rm r1 h1
    exact ⟨a, us, rfl, s1, end_lst rm s2 q⟩
  · exact q.elim
theorem sem_listN : SemN G biListN (rListOf G.K) := fun W ad H M ds vs Q rm r q => by
  unfold biListN at q
  split at q
  · obtain ⟨v, rfl, r1⟩ := r.one
    obtain ⟨xs, h1, q⟩ := of_bind q
    obtain ⟨hp, q⟩ := post_if q
    obtain ⟨a, us, rfl, s1, s2⟩ := seqOf_ok rm r1 h1
    exact ⟨a, us, rfl, s1, end_new hp rm s2 q⟩
  · exact q.elim
def biTuple : OpN := fun ds M => match ds with
  | [.tup xs] => .ok (.tup xs) M
  | [.scr _] => .stuck
  | [d] => (Res.of (listOf M d) M).bind fun xs M => .ok (.tup xs) M
  | _ => .stuck
def rTupleOf (K : PySem.W.Frag) : List V → Hp → VK → Prop := fun xs H Q => ∃ p ys, xs = [.ref p] ∧ ((SqL K H p ys ∧ ∀ l, H l = none → Q (.ref l) (upd H l (.tup ys))) ∨ (SqT K H p ys ∧ Q (.ref p) H))
theorem sem_tuple : SemN G biTuple (rTupleOf G.K) := fun W ad H M ds vs Q rm r q => by
  unfold biTuple at q
  split at q
  · obtain ⟨v, rfl, r1⟩ := r.one
    have r2 := r1
    simp only [Rep] at r1
    obtain ⟨a, us, rfl, s1, s2⟩ := r1
    exact ⟨a, us, rfl, .inr ⟨s1, PostR.ret q rm r2⟩⟩
  · exact q.elim
  · obtain ⟨v, rfl, r1⟩ := r.one
    obtain ⟨xs, h1, q⟩ := of_bind q
    obtain ⟨a, us, rfl, s1, s2⟩ := listOf_ok rm r1 h1
    exact ⟨a, us, rfl, .inl ⟨SqL.of s1, end_tup rm s2 q⟩⟩
  · exact q.elim
/-! int, abs, max, min, sum -/
def biInt : OpN := fun ds M => match ds with
  | [.int i] => .ok (.int i) M
  | [.bl b] => .ok (.int (if b then 1 else 0)) M
  | _ => .stuck
def rInt : List V → Hp → VK → Prop := fun xs H Q => (∃ i, xs = [.int i] ∧ Q (.int i) H) ∨ ∃ k, xs = [.bl k] ∧ Q (.int (if k then 1 else 0)) H
theorem sem_int : SemN G biInt rInt := fun W ad H M ds vs Q rm r q => by
  unfold biInt at q
  split at q
  · obtain ⟨v, rfl, r1⟩ := r.one; simp only [Rep] at r1; subst r1
    exact .inl ⟨_, rfl, PostR.ret q rm rep_int⟩
  · obtain ⟨v, rfl, r1⟩ := r.one; simp only [Rep] at r1; subst r1
    exact .inr ⟨_, rfl, PostR.ret q rm rep_int⟩
  · exact q.elim
def biAbs : OpN := fun ds M => match ds with
  | [.int i] => .ok (.int (if i < 0 then -i else i)) M
  | _ => .stuck
def rAbs : List V → Hp → VK → Prop := fun xs H Q => ∃ i, xs = [.int i] ∧ Q (.int (if i < 0 then -i else i)) H
theorem sem_abs : SemN G biAbs rAbs := fun W ad H M ds vs Q rm r q => by
  unfold biAbs at q
  split at q
  · obtain ⟨v, rfl, r1⟩ := r.one; simp only [Rep] at r1; subst r1
    exact ⟨_, rfl, PostR.ret q rm rep_int⟩
  · exact q.elim
def maxI : List Int → Option Int
  | [] => none
  | x :: xs => some (xs.foldl max x)
def minI : List Int → Option Int
  | [] => none
  | x :: xs => some (xs.foldl min x)
theorem foldl_max (xs : List Int) : ∀ x : Int, x ≤ xs.foldl max x ∧ (∀ y ∈ xs, y ≤ xs.foldl max x) ∧ (xs.foldl max x = x ∨ xs.foldl max x ∈ xs) := by
  induction xs with
  | nil => intro x; simp
  | cons y ys ih =>
    intro x
    obtain ⟨h1, h2, h3⟩ := ih (max x y)
    simp only [List.foldl_cons, List.mem_cons]
    refine ⟨by omega, fun z hz => ?_, ?_⟩
    · rcases hz with q | q
      · rw [q]; omega
      · exact h2 z q
    · rcases h3 with q | q
      · rw [q]; omega
      · exact .inr (.inr q)
theorem foldl_min (xs : List Int) : ∀ x : Int, xs.foldl min x ≤ x ∧ (∀ y ∈ xs, xs.foldl min x ≤ y) ∧ (xs.foldl min x = x ∨ xs.foldl min x ∈ xs) := by
  induction xs with
  | nil => intro x; simp
  | cons y ys ih =>
    intro x
    obtain ⟨h1, h2, h3⟩ := ih (min x y)
    simp only [List.foldl_cons, List.mem_cons]
    refine ⟨by omega, fun z hz => ?_, ?_⟩
    · rcases hz with q | q
      · rw [q]; omega
      · exact h2 z q
    · rcases h3 with q | q
      · rw [q]; omega
      · exact .inr (.inr q)
theorem maxI_eq {ns : List Int} {m k : Int} (hk : maxI ns = some k) (h1 : m ∈ ns) (h2 : ∀ y ∈ ns, y ≤ m) : m = k := by
  cases ns with
  | nil => cases h1
  | cons x xs =>
    simp only [maxI, Option.some.injEq] at hk
    obtain ⟨a, b, c⟩ := foldl_max xs x
    rw [hk] at a b c
    have hm : m ≤ k := by
      rcases List.mem_cons.mp h1 with q | q
      · rw [q]; exact a
      · exact b m q
    have hk2 : k ≤ m := by
      rcases c with q | q
      · rw [q]; exact h2 x (List.mem_cons_self)
      · exact h2 k (List.mem_cons_of_mem _ q)
    omega
theorem minI_eq {ns : List Int} {m k : Int} (hk : minI ns = some k) (h1 : m ∈ ns) (h2 : ∀ y ∈ ns, m ≤ y) : m = k := by
  cases ns with
  | nil => cases h1
  | cons x xs =>
    simp only [minI, Option.some.injEq] at hk
    obtain ⟨a, b, c⟩ := foldl_min xs x
    rw [hk] at a b c
    have hm : k ≤ m := by
      rcases List.mem_cons.mp h1 with q | q
      · rw [q]; exact a
      · exact b m q
    have hk2 : m ≤ k := by
      rcases c with q | q
      · rw [q]; exact h2 x (List.mem_cons_self)
      · exact h2 k (List.mem_cons_of_mem _ q)
    omega
/-- max(a, b), max(ints) -/
def biMM (f : List Int → Option Int) : OpN := fun ds M => match ds with
  | [.int i, .int j] => (Res.of (f [i, j]) M).bind fun k M => .ok (.int k) M
  | [d] => (Res.of (seqOf M d) M).bind fun xs M => (Res.of (intsOf xs) M).bind fun ns M => (Res.of (f ns) M).bind fun k M => .ok (.int k) M
  | _ => .stuck
def rMM (K : PySem.W.Frag) (f : List Int → Option Int) : List V → Hp → VK → Prop := fun xs H Q => (∃ i j k, xs = [.int i, .int j] ∧ f [i, j] = some k ∧ Q (.int k) H) ∨
  ∃ a ns k, xs = [.ref a] ∧ (SqL K H a (ns.map V.int) ∨ SqT K H a (ns.map V.int)) ∧ f ns = some k ∧ Q (.int k) H
theorem sem_MM {f : List Int → Option Int} : SemN G (biMM f) (rMM G.K f) := fun W ad H M ds vs Q rm r q => by
  unfold biMM at q
  split at q
  · obtain ⟨v, v', rfl, r1, r2⟩ := r.two
    simp only [Rep] at r1 r2; subst r1; subst r2
    obtain ⟨k, h1, q⟩ := of_bind q
    exact .inl ⟨_, _, k, rfl, h1, PostR.ret q rm rep_int⟩
  · obtain ⟨v, rfl, r1⟩ := r.one
    obtain ⟨xs, h1, q⟩ := of_bind q
    obtain ⟨ns, h2, q⟩ := of_bind q
    obtain ⟨k, h3, q⟩ := of_bind q
    obtain ⟨a, us, rfl, s1, s2⟩ := seqOf_ok rm r1 h1
    rw [intsOf_ok s2 h2] at s1
    exact .inr ⟨a, ns, k, rfl, s1, h3, PostR.ret q rm rep_int⟩
  · exact q.elim
theorem call_maxA (hc : X.calm = true) : CallR X (.builtin "max") (rMM X.K maxI) := fun pins s σ H xs us Q I rv h => by
  rcases h with ⟨i, j, k, e, hk, q⟩ | ⟨a, ns, k, e, hs, hk, q⟩
  · refine call_max2 hc pins s σ H xs us Q I rv ⟨i, j, e, ?_⟩
    simp only [maxI, List.foldl_cons, List.foldl_nil, Option.some.injEq] at hk
    have z : (if j > i then j else i) = k := by rw [← hk]; split <;> omega
    rw [z]; exact q
  · have hne : 0 < ns.length := by
      cases ns with
      | nil => cases hk
      | cons _ _ => simp
    rcases hs with hs | hs
    · exact cr_max hc pins s σ H xs us Q I rv ⟨a, ns, e, hs, hne, fun m h1 h2 => by rw [maxI_eq hk h1 h2]; exact q⟩
    · subst e
      obtain ⟨its, ri, ht, hz⟩ := I.tuple hs
      have := rv.ref1
      subst this
      refine max_rawT (I.ok.hd hc) (show s.heap.IsTuple a its.toArray from ht) (intsAre_of ri) hne fun h' tk m t' hk' h1 h2 => ⟨.int m, H, I.kept hk', ⟨t', rfl⟩, by rw [maxI_eq hk h1 h2]; exact q⟩
theorem call_minA (hc : X.calm = true) : CallR X (.builtin "min") (rMM X.K minI) := fun pins s σ H xs us Q I rv h => by
  rcases h with ⟨i, j, k, e, hk, q⟩ | ⟨a, ns, k, e, hs, hk, q⟩
  · refine call_min2 hc pins s σ H xs us Q I rv ⟨i, j, e, ?_⟩
    simp only [minI, List.foldl_cons, List.foldl_nil, Option.some.injEq] at hk
    have z : (if j < i then j else i) = k := by rw [← hk]; split <;> omega
    rw [z]; exact q
  · have hne : 0 < ns.length := by
      cases ns with
      | nil => cases hk
      | cons _ _ => simp
    rcases hs with hs | hs
    · exact cr_min hc pins s σ H xs us Q I rv ⟨a, ns, e, hs, hne, fun m h1 h2 => by rw [minI_eq hk h1 h2]; exact q⟩
    · subst e
      obtain ⟨its, ri, ht, hz⟩ := I.tuple hs
      have := rv.ref1
      subst this
      refine min_rawT (I.ok.hd hc) (show s.heap.IsTuple a its.toArray from ht) (intsAre_of ri) hne fun h' tk m t' hk' h1 h2 => ⟨.int m, H, I.kept hk', ⟨t', rfl⟩, by rw [minI_eq hk h1 h2]; exact q⟩
def biSum : OpN := fun ds M => match ds with
  | [d] => (Res.of (listOf M d) M).bind fun xs M => (Res.of (intsOf xs) M).bind fun ns M => .ok (.int ns.sum) M
  | _ => .stuck
theorem sem_sum : SemN G biSum (rSum G.K) := fun W ad H M ds vs Q rm r q => by
  unfold biSum at q
  split at q
  · obtain ⟨v, rfl, r1⟩ := r.one
    obtain ⟨xs, h1, q⟩ := of_bind q
    obtain ⟨ns, h2, q⟩ := of_bind q
    obtain ⟨a, us, rfl, s1, s2⟩ := listOf_ok rm r1 h1
    rw [intsOf_ok s2 h2] at s1
    exact ⟨a, ns, rfl, SqL.of s1, PostR.ret q rm rep_int⟩
  · exact q.elim
/-! any, all of a list of truths -/
def blsOf : List D → Option (List Bool)
  | [] => some []
  | .bl b :: ds => (blsOf ds).map fun bs => b :: bs
  | _ => none
theorem blsOf_ok {ad : Adr} {H : Hp} {M : Store} : ∀ {ds : List D} {vs : List V} {bs : List Bool}, Reps G ad H M ds vs → blsOf ds = some bs → vs = bs.map V.bl
  | [], _, _, r, h => by simp only [Reps] at r; simp only [blsOf, Option.some.injEq] at h; subst r; subst h; rfl
  | d :: ds, _, _, r, h => by
    simp only [Reps] at r
    obtain ⟨v, w, rfl, r1, r2⟩ := r
    cases d with
    | bl i =>
      simp only [blsOf, Option.map_eq_some_iff] at h
      obtain ⟨js, h1, rfl⟩ := h
      simp only [Rep] at r1
      rw [r1, blsOf_ok r2 h1]; rfl
    | _ => simp [blsOf] at h
def biBls (f : List Bool → Bool) : OpN := fun ds M => match ds with
  | [d] => (Res.of (listOf M d) M).bind fun xs M => (Res.of (blsOf xs) M).bind fun bs M => .ok (.bl (f bs)) M
  | _ => .stuck
def rBls (K : PySem.W.Frag) (f : List Bool → Bool) : List V → Hp → VK → Prop := fun vs H Q => ∃ (a : Addr) (bs : List Bool), vs = [V.ref a] ∧ SqL K H a (bs.map V.bl) ∧ Q (.bl (f bs)) H
theorem sem_bls {f : List Bool → Bool} : SemN G (biBls f) (rBls G.K f) := fun W ad H M ds vs Q rm r q => by
  unfold biBls at q
  split at q
  · obtain ⟨v, rfl, r1⟩ := r.one
    obtain ⟨xs, h1, q⟩ := of_bind q
    obtain ⟨bs, h2, q⟩ := of_bind q
    obtain ⟨a, us, rfl, s1, s2⟩ := listOf_ok rm r1 h1
    rw [blsOf_ok s2 h2] at s1
    exact ⟨a, bs, rfl, SqL.of s1, PostR.ret q rm rep_bl⟩
  · exact q.elim
/-! sorted -/
def biSorted : OpN := fun ds M => match ds with
  | [d] => (Res.of (listOf M d) M).bind fun xs M => match intsOf xs with
    | some ns => .ok (.lst ((sortI ns).map .int)) M
    | none => (Res.of (tupsOf xs) M).bind fun ls M => if okTups ls = true ∧ ls.length < 64 then .ok (.lst ((sortC ls).map tupD)) M else .stuck
  | _ => .stuck
def rSrt (K : PySem.W.Frag) : List V → Hp → VK → Prop := fun vs H Q => rSortedI K vs H Q ∨ ∃ d, 1 ≤ d ∧ rSortU K d 64 vs H Q
theorem call_sortedA : CallR X (.builtin "sorted") (rSrt X.K) := fun pins s σ H xs us Q I rv h => by
  rcases h with h | ⟨d, hd, h⟩
  · exact cr_sortedI pins s σ H xs us Q I rv h
  · exact cr_sortT hd pins s σ H xs us Q I rv h
theorem Reps.ints {ad : Adr} {H : Hp} {M : Store} : ∀ ns : List Int, Reps G ad H M (ns.map D.int) (ns.map V.int)
  | [] => by simp [Reps]
  | n :: ns => by
    simp only [List.map_cons, Reps]
    exact ⟨_, _, rfl, rep_int, Reps.ints ns⟩
theorem Reps.mem {ad : Adr} {H : Hp} {M : Store} : ∀ {ds : List D} {vs : List V} {v : V}, Reps G ad H M ds vs → v ∈ vs → ∃ d, d ∈ ds ∧ Rep G ad H M d v
  | [], _, _, r, h => by simp only [Reps] at r; subst r; cases h
  | d :: ds, _, v, r, h => by
    simp only [Reps] at r
    obtain ⟨w, us, rfl, r1, r2⟩ := r
    rcases List.mem_cons.mp h with q | q
    · subst q; exact ⟨d, List.mem_cons_self, r1⟩
    · obtain ⟨d', h1, h2⟩ := Reps.mem r2 q
      exact ⟨d', List.mem_cons_of_mem _ h1, h2⟩
theorem rep_tupI {ad : Adr} {H : Hp} {M : Store} {ns : List Int} {v : V} : Rep G ad H M (tupD ns) v ↔ TupI G.K H v ns := by
  simp only [tupD, Rep]
  constructor
  · rintro ⟨a, us, rfl, r1, r2⟩
    have := intsOf_ok r2 (intsOf_map ns)
    subst this
    exact ⟨a, rfl, r1⟩
  · rintro ⟨a, rfl, r1⟩
    exact ⟨a, _, rfl, r1, Reps.ints ns⟩
theorem reps_tups {ad : Adr} {H : Hp} {M : Store} : ∀ {ls : List (List Int)} {vs : List V}, Paired (fun v ns => TupI G.K H v ns) vs ls → Reps G ad H M (ls.map tupD) vs
  | _, _, .nil => by simp [Reps]
  | _, _, .cons h t => by
    simp only [List.map_cons, Reps]
    exact ⟨_, _, rfl, rep_tupI.mpr h, reps_tups t⟩
theorem paired_tups {ad : Adr} {H : Hp} {M : Store} : ∀ {ls : List (List Int)} {vs : List V}, Reps G ad H M (ls.map tupD) vs → Paired (fun v ns => TupI G.K H v ns) vs ls
  | [], _, r => by simp only [List.map_nil, Reps] at r; subst r; exact .nil
  | l :: ls, _, r => by
    simp only [List.map_cons, Reps] at r
    obtain ⟨v, w, rfl, r1, r2⟩ := r
    exact .cons (rep_tupI.mp r1) (paired_tups r2)
/-- an arrangement of the values arranges what they stand for -/
theorem paired_perm {α β : Type} {F : α → β → Prop} {as bs : List α} (h : as.Perm bs) : ∀ {ls : List β}, Paired F bs ls → ∃ ms : List β, ms.Perm ls ∧ Paired F as ms := by
  induction h with
  | nil => intro ls p; exact ⟨ls, List.Perm.refl _, p⟩
  | cons x h ih =>
    intro ls p
    cases p with
    | cons r t =>
      obtain ⟨ms, h1, h2⟩ := ih t
      exact ⟨_ :: ms, h1.cons _, .cons r h2⟩
  | swap x y l =>
    intro ls p
    cases p with
    | cons r t => cases t with
      | cons r2 t2 => exact ⟨_, List.Perm.swap _ _ _, .cons r2 (.cons r t2)⟩
  | trans h1 h2 ih1 ih2 =>
    intro ls p
    obtain ⟨ms, a, b⟩ := ih2 p
    obtain ⟨ns, c, d⟩ := ih1 b
    exact ⟨ns, c.trans a, d⟩
theorem paired_pw {α β : Type} {F : α → β → Prop} {R : α → α → Prop} {S : β → β → Prop} (hRS : ∀ a b c d, F a c → F b d → R a b → S c d) : ∀ {as : List α} {bs : List β}, Paired F as bs → as.Pairwise R → bs.Pairwise S
  | _, _, .nil, _ => List.Pairwise.nil
  | _, _, .cons r t, h => by
    rw [List.pairwise_cons] at h ⊢
    refine ⟨fun b hb => ?_, paired_pw hRS t h.2⟩
    obtain ⟨a, ha, hab⟩ := pmem t hb
    exact hRS _ _ _ _ r hab (h.1 a ha)
where
  pmem {α β : Type} {F : α → β → Prop} : ∀ {as : List α} {bs : List β} {b : β}, Paired F as bs → b ∈ bs → ∃ a, a ∈ as ∧ F a b
  | _, _, _, .nil, h => by cases h
  | _, _, _, .cons r t, h => by
    rcases List.mem_cons.mp h with q | q
    · subst q; exact ⟨_, List.mem_cons_self, r⟩
    · obtain ⟨a, h1, h2⟩ := pmem t q
      exact ⟨a, List.mem_cons_of_mem _ h1, h2⟩
theorem sem_sorted : SemN G biSorted (rSrt G.K) := fun W ad H M ds vs Q rm r q => by
  unfold biSorted at q
  split at q
  · obtain ⟨v, rfl, r1⟩ := r.one
    obtain ⟨xs, h1, q⟩ := of_bind q
    obtain ⟨a, us, rfl, s1, s2⟩ := listOf_ok rm r1 h1
    split at q
    · rename_i ns hns
      rw [intsOf_ok s2 hns] at s1
      refine .inl ⟨a, ns, rfl, SqL.of s1, fun ns' p hp hs hn => ?_⟩
      rw [sortI_eq hp hs]
      exact end_lst rm (Reps.ints _) q p hn
    · obtain ⟨ls, h2, q2⟩ := of_bind q
      obtain ⟨⟨hok, h64⟩, q3⟩ := post_if q2
      obtain ⟨d, hd, hb⟩ := okTups_d hok
      have e := tupsOf_eq h2
      subst e
      have pr := paired_tups s2
      refine .inr ⟨d, hd, a, us, rfl, SqL.of s1, by rw [Reps.length _ _ s2, List.length_map]; exact h64, fun x hx => ?_, fun ys p hp hs hn => ?_⟩
      · obtain ⟨t, ht, rt⟩ := Reps.mem s2 hx
        obtain ⟨ns, hns, rfl⟩ := List.mem_map.mp ht
        exact ⟨ns, rep_tupI.mp rt, (hb ns hns).1, (hb ns hns).2⟩
      · obtain ⟨ms, m1, m2⟩ := paired_perm hp pr
        have m3 : ms.Pairwise fun a b => cd a ≤ cd b := paired_pw (fun a b c d h1 h2 h3 => h3 _ _ h1 h2) m2 hs
        rw [sortC_eq hb m1 m3] at m2
        exact end_lst rm (reps_tups m2) q3 p hn
  · exact q.elim
/-! sorted(set(..)) of tuples of ints; of ints -/
theorem starOne {e : Expr} (h : starEach [e] X.env = (false, eval e X.env) :: starEach [] X.env) : starEach [e] X.env = (false, eval e X.env) :: starEach [] X.env := h
def biSortSet : OpN := fun ds M => match ds with
  | [d] => (Res.of (listOf M d) M).bind fun xs M => (Res.of (tupsOf xs) M).bind fun ls M => if okTups ls = true ∧ ls.length < 64 then .ok (.lst ((sortC (nubL ls)).map tupD)) M else .stuck
  | _ => .stuck
theorem mk_ks {ad : Adr} {H : Hp} {M : Store} : ∀ {ls : List (List Int)} {vs : List V}, Reps G ad H M (ls.map tupD) vs → ∃ ks : List (Addr × List Int), ks.map (·.2) = ls ∧ vs = ks.map (fun p => V.ref p.1) ∧ ∀ p ∈ ks, SqT G.K H p.1 (p.2.map V.int)
  | [], _, r => by simp only [List.map_nil, Reps] at r; subst r; exact ⟨[], rfl, rfl, fun p hp => by cases hp⟩
  | l :: ls, _, r => by
    simp only [List.map_cons, Reps] at r
    obtain ⟨v, w, rfl, r1, r2⟩ := r
    obtain ⟨ks, k1, k2, k3⟩ := mk_ks r2
    obtain ⟨a, rfl, ha⟩ := rep_tupI.mp r1
    refine ⟨(a, l) :: ks, by simp [k1], by simp [k2], fun p hp => ?_⟩
    rcases List.mem_cons.mp hp with q | q
    · subst q; exact ha
    · exact k3 p q
theorem reps_ks {ad : Adr} {H : Hp} {M : Store} : ∀ (ks : List (Addr × List Int)), (∀ p ∈ ks, SqT G.K H p.1 (p.2.map V.int)) → Reps G ad H M ((ks.map (·.2)).map tupD) (ks.map fun p => V.ref p.1)
  | [], _ => by simp [Reps]
  | k :: ks, h => by
    simp only [List.map_cons, Reps]
    exact ⟨_, _, rfl, rep_tupI.mpr ⟨k.1, rfl, h k List.mem_cons_self⟩, reps_ks ks fun p hp => h p (List.mem_cons_of_mem _ hp)⟩
theorem SqT.laid {p : Addr} {o : HO} {H : Hp} {a : Addr} {vs : List V} {K : PySem.W.Frag} (hp : H p = none) (h : SqT K H a vs) : SqT K (upd H p o) a vs := by
  rcases h with (h | ⟨o', h⟩) | h
  · exact .inl (.inl (by rw [upd_ne (fun z => by rw [z, hp] at h; cases h)]; exact h))
  · exact .inl (.inr ⟨o', by rw [upd_ne (fun z => by rw [z, hp] at h; cases h)]; exact h⟩)
  · exact .inr h
variable {p2 pos2 : Pos}
theorem se_sortSet {a : Expr} {f : Ev → Store → Res D} (hK : X.K = G.K) (hc : X.calm = true) (hu : X.A.units + 64 < cLine) (hg : Gl X "sorted") (hm : X.mg "sorted" = none) (hg2 : Gl X "set") (hm2 : X.mg "set" = none) (ha : PE X a (tE G W f))
    (na : starEach [a] X.env = (false, eval a X.env) :: starEach [] X.env) (na2 : starEach [.Call (.Name "set" p2) [a] [] pos2] X.env = (false, eval (.Call (.Name "set" p2) [a] [] pos2) X.env) :: starEach [] X.env)
    (hpl : (backTo pos2 (starEach [] X.env)).any (·.1) = false) (hpl2 : (backTo pos (starEach [] X.env)).any (·.1) = false) :
    PE X (.Call (.Name "sorted" p) [.Call (.Name "set" p2) [a] [] pos2] [] pos) (tE G W (fun env M => (f env M).bind fun d M1 => biSortSet [d] M1)) := by
  have h1 := pe_callTy (cr_setOfT hc hu) hg2 hm2 boot_set (pa_cons ha pa_nil na) (by decide) (by decide) na hpl (pos := pos2) (p := p2)
  have h2 := pe_callB (cr_sortedT hc) hg hm (by decide +kernel) (pa_cons h1 pa_nil na2) (by decide) (by decide) na2 hpl2 (pos := pos) (p := p)
  refine PE.weak h2 fun σ H Q ⟨env, M, ad, re, rm, q⟩ => ?_
  rw [hK]
  refine tE.imp (tE_bind re rm q) fun x H1 ⟨d, M1, ad1, e1, m1, r1, q1⟩ => ?_
  unfold biSortSet at q1
  simp only at q1
  obtain ⟨xs, z1, q2⟩ := of_bind q1
  obtain ⟨ls, z2, q3⟩ := of_bind q2
  obtain ⟨⟨hok, h64⟩, q4⟩ := post_if q3
  obtain ⟨dd, hd, hb⟩ := okTups_d hok
  have e := tupsOf_eq z2
  subst e
  obtain ⟨l, us, rfl, s1, s2⟩ := listOf_ok m1 r1 z1
  obtain ⟨ks, k1, k2, k3⟩ := mk_ks s2
  subst k2
  have hlen : ks.length = ls.length := by rw [← k1, List.length_map]
  refine ⟨l, ks, rfl, SqL.of s1, k3, by rw [hlen]; exact h64, fun a L ha hL hks => ?_⟩
  have k3' : ∀ p ∈ L, SqT G.K (upd H1 a (SetTO X.prog X.w a L)) p.1 (p.2.map V.int) := fun p hp => SqT.laid ha (k3 p (hL p hp))
  have hbL : ∀ p ∈ L, p.2.length = dd ∧ Bd64 p.2 := fun p hp => hb p.2 (by rw [← k1]; exact List.mem_map_of_mem (hL p hp))
  refine ⟨a, L, dd, 64, rfl, upd_same, k3', hd, hbL, fun L' p pm nd l64 pw hp => ?_⟩
  have e1' := Ext.laid (o := SetTO X.prog X.w a L) ha m1
  have m1' := RelM.laid (o := SetTO X.prog X.w a L) ha m1
  have mem1 : ∀ m, m ∈ L'.map (·.2) ↔ m ∈ nubL ls := fun m => by
    rw [mem_nubL]
    constructor
    · intro h
      obtain ⟨q, hq, rfl⟩ := List.mem_map.mp h
      rw [← k1]; exact List.mem_map_of_mem (hL q (pm.mem_iff.mp hq))
    · intro h
      rw [← k1] at h
      obtain ⟨q, hq, rfl⟩ := List.mem_map.mp h
      obtain ⟨q', hq', e⟩ := List.mem_map.mp (hks q hq)
      exact List.mem_map.mpr ⟨q', pm.mem_iff.mpr hq', e⟩
  have perm1 : (L'.map (·.2)).Perm (nubL ls) := (List.perm_ext_iff_of_nodup nd (nodup_nubL ls)).mpr mem1
  have hbn : ∀ m ∈ nubL ls, m.length = dd ∧ Bd64 m := fun m hm => hb m (mem_nubL.mp hm)
  have e2 : L'.map (·.2) = sortC (nubL ls) := sortC_eq hbn perm1 (List.pairwise_map.mpr pw)
  have q5 := PostR.mono q4 e1'
  rw [← e2] at q5
  exact end_lst m1' (reps_ks L' fun p hp => k3' p (pm.mem_iff.mp hp)) q5 p hp
end
end Mi

set_option Elab.async false
set_option linter.all false
set_option maxRecDepth 100000
/-! Mi8: isinstance, lists' methods, stores, defs. -/
namespace Mi
open PySem PySem.Spec PyProof.Rows L2
section
variable {G : Gx} {X : Cx} {W : WX}

/-! ### isinstance against built-in types -/
def tyD (M : Store) : D → Option String
  | .non => some "NoneType"
  | .bl _ => some "bool"
  | .int _ => some "int"
  | .str _ => some "str"
  | .tup _ => some "tuple"
  | .lst _ => some "list"
  | .dct0 => some "dict"
  | .loc l => match M[l]? with
    | some (some (.lst _)) => some "list"
    | some (some (.dct _)) => some "dict"
    | _ => none
  | _ => none
def isiB (a b : String) : Option Bool := if (["NoneType", "bool", "int", "str", "tuple", "list", "dict"].contains a && ["bool", "int", "str", "tuple", "list", "dict"].contains b) = true then some (a == b || (a == "bool" && b == "int")) else none
theorem isiB_kit (K : PySem.W.Frag) : ∀ {a b : String} {k : Bool}, isiB a b = some k → PySem.W.kitOne K (.type a) (.type b) = some k := by
  intro a b k h
  unfold isiB at h
  split at h
  · rename_i hc
    simp only [Bool.and_eq_true, List.contains_eq_mem, decide_eq_true_eq, List.mem_cons, List.not_mem_nil, or_false] at hc
    obtain ⟨ha, hb⟩ := hc
    simp only [Option.some.injEq] at h
    subst h
    rcases ha with rfl | rfl | rfl | rfl | rfl | rfl | rfl <;> rcases hb with rfl | rfl | rfl | rfl | rfl | rfl <;> exact kit_ty (by decide +kernel)
  · cases h
theorem tyD_ok {ad : Adr} {H : Hp} {M : Store} {d : D} {v : V} {t : String} (rm : RelM G ad H M) (r : Rep G ad H M d v) (h : tyD M d = some t) : TyX G.K H v (.type t) := by
  cases d with
  | non => simp only [Rep] at r; subst r; simp only [tyD, Option.some.injEq] at h; subst h; exact .base .non
  | bl b => simp only [Rep] at r; subst r; simp only [tyD, Option.some.injEq] at h; subst h; exact .base (.bl b)
  | int b => simp only [Rep] at r; subst r; simp only [tyD, Option.some.injEq] at h; subst h; exact .base (.int b)
  | str b => simp only [Rep] at r; subst r; simp only [tyD, Option.some.injEq] at h; subst h; exact .base (.str b)
  | tup xs =>
    simp only [Rep] at r
    obtain ⟨a, vs, rfl, r1, _⟩ := r
    simp only [tyD, Option.some.injEq] at h; subst h
    rcases r1 with (r1 | ⟨o, r1⟩) | ⟨o, its, n, r1, r2, _⟩
    · exact .base (.tup r1)
    · exact .fTuple r1
    · exact .kTuple r1 r2
  | lst xs =>
    obtain ⟨a, vs, rfl, r1, _⟩ := r.lst_inv
    simp only [tyD, Option.some.injEq] at h; subst h
    exact .base (.lst r1)
  | dct0 =>
    simp only [Rep] at r
    obtain ⟨a, rfl, r1, _⟩ := r
    simp only [tyD, Option.some.injEq] at h; subst h
    exact .base (.dK r1)
  | loc l =>
    simp only [Rep] at r
    obtain ⟨rfl, _⟩ := r
    simp only [tyD] at h
    split at h
    · rename_i xs hx
      obtain ⟨vs, q1, _⟩ := rm.ok l _ hx
      simp only [Option.some.injEq] at h; subst h
      exact .base (.lst q1)
    · rename_i xs hx
      obtain ⟨vs, q1, _⟩ := rm.ok l _ hx
      simp only [Option.some.injEq] at h; subst h
      exact .base (.dK q1)
    · cases h
  | _ => simp [tyD] at h
def biIsi : OpN := fun ds M => match ds with
  | [d, .ty b] => (Res.of ((tyD M d).bind fun a => isiB a b) M).bind fun k M => .ok (.bl k) M
  | _ => .stuck
theorem sem_isi : SemN G biIsi (rIsi G.K) := fun W ad H M ds vs Q rm r q => by
  unfold biIsi at q
  split at q
  · obtain ⟨v, v', rfl, r1, r2⟩ := r.two
    simp only [Rep] at r2; subst r2
    obtain ⟨k, h1, q⟩ := of_bind q
    simp only [Option.bind_eq_some_iff] at h1
    obtain ⟨t, h1, h2⟩ := h1
    exact ⟨v, _, _, _, k, rfl, ClsV.ty _, tyD_ok rm r1 h1, isiB_kit _ h2, PostR.ret q rm rep_bl⟩
  · exact q.elim

/-! ### methods of lists -/
abbrev OpM := D → List D → Store → Res D
def SemM (G : Gx) (g : OpM) (r : V → List V → Hp → VK → Prop) : Prop := ∀ (W : WX0) (ad : Adr) (H : Hp) (M : Store) (d : D) (ds : List D) (v : V) (vs : List V) (Q : VK), RelM G ad H M → Rep G ad H M d v → Reps G ad H M ds vs → PostR G W (relV G) ad H M (g d ds M) Q → r v vs H Q
def isLst (M : Store) (d : D) : Bool := (listOf M d).isSome
def evM (g : OpM) (fo : Ev → Store → Res D) (gs : Ev → Store → Res (List D)) : Ev → Store → Res D := fun env M => (fo env M).bind fun d M => if isLst M d = true then (gs env M).bind fun ds M => g d ds M else .stuck
theorem isLst_ty {ad : Adr} {H : Hp} {M : Store} {d : D} {v : V} (rm : RelM G ad H M) (r : Rep G ad H M d v) (h : isLst M d = true) : tyV G.K "list" v H := by
  unfold isLst at h
  cases e : listOf M d with
  | none => rw [e] at h; cases h
  | some xs =>
    obtain ⟨a, vs, rfl, h1, _⟩ := listOf_ok rm r e
    exact .inl ⟨rfl, vs, SqL.of h1⟩
variable {o e : Expr} {es : List Expr} {name : Str} {apos cpos pos p : Pos} {id : String} {r : V → List V → Hp → VK → Prop} {g : OpM} {fo : Ev → Store → Res D} {gs : Ev → Store → Res (List D)}
theorem sm_bm (hK : X.K = G.K) (pa : PlainAttrs "list") (slot : Slot "list" name id) (hty : typeOf (.builtin id) = pure (.type "method_descriptor")) (hm : MtR X id r) (hs : SemM G g r) (ho : PE X o (tE G W fo)) (ha : PA X (e :: es) (tA G W gs))
    (hbase : attributeBase o name X.env (eval o X.env) = eval o X.env)
    (hfew : ((backTo cpos (starEach (e :: es) X.env)).all (fun x => !x.1) && (backToKw cpos (keywordEach [] X.env)).all (fun x => x.1.isSome)
      && decide ((e :: es).length + ([] : List Keyword).length + (if ([] : List Keyword).isEmpty then 0 else 1) < 30)) = true)
    (hline : (apos.endLine == cpos.line) = true) (hst : starEach (e :: es) X.env = (false, eval e X.env) :: starEach es X.env) (hplain : (backTo cpos (starEach es X.env)).any (·.1) = false) :
    PE X (.Call (.Attribute o name apos) (e :: es) [] cpos) (tE G W (evM g fo gs)) :=
  PE.weak (pe_bm pa slot hty hm ho ha hbase hfew hline hst hplain) fun σ H Q ⟨env, M, ad, re, rm, q⟩ => by
    rw [hK]
    refine tE.imp (tE_bind re rm q) fun x H1 ⟨d, M1, ad1, e1, m1, r1, q1⟩ => ?_
    obtain ⟨hl, q2⟩ := post_if q1
    refine ⟨isLst_ty m1 r1 hl, ?_⟩
    refine tA.imp (tA_bind (re.ext e1.toExt0 rm) m1 q2) fun vs H2 ⟨ds, M2, ad2, e2, m2, r2, q3⟩ => ?_
    exact hs _ ad2 H2 M2 d ds x vs Q m2 (Rep.ext e2.toExt0 m1 _ _ r1) r2 q3
theorem sm_bm0 (hK : X.K = G.K) (pa : PlainAttrs "list") (slot : Slot "list" name id) (hty : typeOf (.builtin id) = pure (.type "method_descriptor")) (hm : MtR X id r) (hs : SemM G g r) (ho : PE X o (tE G W fo))
    (hbase : attributeBase o name X.env (eval o X.env) = eval o X.env) (hline : (apos.endLine == cpos.line) = true) : PE X (.Call (.Attribute o name apos) [] [] cpos) (tE G W (evM g fo evNil)) :=
  PE.weak (pe_bm0 pa slot hty hm ho hbase hline) fun σ H Q ⟨env, M, ad, re, rm, q⟩ => by
    rw [hK]
    refine tE.imp (tE_bind re rm q) fun x H1 ⟨d, M1, ad1, e1, m1, r1, q1⟩ => ?_
    obtain ⟨hl, q2⟩ := post_if q1
    exact ⟨isLst_ty m1 r1 hl, hs _ ad1 H1 M1 d [] x [] Q m1 r1 (by simp [Reps]) q2⟩
/-- the end of a rule that writes a list of the store -/
theorem end_write {W : WX0} {ad : Adr} {H : Hp} {M : Store} {l : Nat} {ob : Ob} {ds : List D} {vs : List V} {d : D} {v : V} {Q : VK} (rm : RelM G ad H M) (hl : M[l]? = some (some ob)) (hp : pureDs ds = true) (r : Reps G ad H M ds vs) (rd : Rep G ad H M d v)
    (q : PostR G W (relV G) ad H M (.ok d (M.set l (some (.lst ds)))) Q) : Q v (upd H (ad.at_ l) (.lst vs)) := by
  have e := Ext.write (ob' := .lst ds) (o := .lst vs) hl rm rfl
  exact q ad _ v e (RelM.write hl rm rfl hp ⟨vs, upd_same, Reps.ext e.toExt0 rm _ _ r⟩) (Rep.ext e.toExt0 rm _ _ rd)
theorem pureDs_app : ∀ {xs ys : List D}, pureDs (xs ++ ys) = (pureDs xs && pureDs ys)
  | [], _ => by simp [pureDs]
  | x :: xs, ys => by simp only [List.cons_append, pureDs, pureDs_app, Bool.and_assoc]
def mAppend : OpM := fun d ds M => match d, ds with
  | .loc l, [x] => match M[l]? with
    | some (some (.lst xs)) => if xs.length < sizeLine ∧ pureDs (xs ++ [x]) = true then .ok .non (M.set l (some (.lst (xs ++ [x])))) else .stuck
    | _ => .stuck
  | _, _ => .stuck
theorem sem_append : SemM G mAppend rAppend := fun W ad H M d ds v vs Q rm r rs q => by
  unfold mAppend at q
  split at q
  · split at q
    · rename_i l x _ xs hx
      obtain ⟨⟨h1, h2⟩, q⟩ := post_if q
      obtain ⟨y, rfl, ry⟩ := rs.one
      simp only [Rep] at r
      obtain ⟨us, u1, u2⟩ := rm.ok l _ hx
      refine ⟨ad.at_ l, us, y, r.1, rfl, u1, by rw [Reps.length _ _ u2]; exact h1, end_write rm hx h2 (Reps.append u2 (by simp only [Reps]; exact ⟨y, [], rfl, ry, rfl⟩)) rep_non q⟩
    · exact q.elim
  · exact q.elim
def mExtend : OpM := fun d ds M => match d, ds with
  | .loc l, [x] => match M[l]? with
    | some (some (.lst xs)) => (Res.of (listOf M x) M).bind fun ys M => if xs.length + ys.length ≤ sizeLine ∧ pureDs (xs ++ ys) = true then .ok .non (M.set l (some (.lst (xs ++ ys)))) else .stuck
    | _ => .stuck
  | _, _ => .stuck
theorem sem_extend : SemM G mExtend rExtend := fun W ad H M d ds v vs Q rm r rs q => by
  unfold mExtend at q
  split at q
  · split at q
    · rename_i l x _ xs hx
      obtain ⟨ys, hy, q⟩ := of_bind q
      obtain ⟨⟨h1, h2⟩, q⟩ := post_if q
      obtain ⟨y, rfl, ry⟩ := rs.one
      simp only [Rep] at r
      obtain ⟨us, u1, u2⟩ := rm.ok l _ hx
      obtain ⟨b, zs, rfl, z1, z2⟩ := listOf_ok rm ry hy
      refine ⟨ad.at_ l, b, us, zs, r.1, rfl, u1, z1, by rw [Reps.length _ _ u2, Reps.length _ _ z2]; exact h1, end_write rm hx h2 (Reps.append u2 z2) rep_non q⟩
    · exact q.elim
  · exact q.elim
theorem pure_get : ∀ {xs : List D} {i : Nat} {x : D}, pureDs xs = true → xs[i]? = some x → pureD x = true
  | [], _, _, _, h => by simp at h
  | y :: ys, 0, x, hp, h => by
    simp only [pureDs, Bool.and_eq_true] at hp
    simp at h; subst h; exact hp.1
  | y :: ys, i + 1, x, hp, h => by
    simp only [pureDs, Bool.and_eq_true] at hp
    exact pure_get hp.2 (by simpa using h)
theorem pure_erase : ∀ {xs : List D} (i : Nat), pureDs xs = true → pureDs (xs.eraseIdx i) = true
  | [], _, _ => rfl
  | y :: ys, 0, hp => by
    simp only [pureDs, Bool.and_eq_true] at hp
    exact hp.2
  | y :: ys, i + 1, hp => by
    simp only [pureDs, Bool.and_eq_true, List.eraseIdx_cons_succ] at hp ⊢
    exact ⟨hp.1, pure_erase i hp.2⟩
def mPop : OpM := fun d ds M => match d, ds with
  | .loc l, [.int i] => match M[l]? with
    | some (some (.lst xs)) => if -(2 ^ 63) ≤ i ∧ i < 2 ^ 63 then (Res.of (seqIndex? i xs.length) M).bind fun k M => (Res.of xs[k]? M).bind fun x M => .ok x (M.set l (some (.lst (xs.eraseIdx k)))) else .stuck
    | _ => .stuck
  | _, _ => .stuck
theorem sem_pop : SemM G mPop rPopAt := fun W ad H M d ds v vs Q rm r rs q => by
  unfold mPop at q
  split at q
  · split at q
    · rename_i l i _ xs hx
      obtain ⟨⟨h1, h2⟩, q⟩ := post_if q
      obtain ⟨k, hk, q⟩ := of_bind q
      obtain ⟨x, hx2, q⟩ := of_bind q
      have e := rs.ints1
      subst e
      simp only [Rep] at r
      obtain ⟨us, u1, u2⟩ := rm.ok l _ hx
      obtain ⟨y, y1, y2⟩ := Reps.get u2 hx2
      have hp := rm.pur l _ hx
      refine ⟨ad.at_ l, us, i, k, y, r.1, rfl, u1, h1, h2, by rw [Reps.length _ _ u2]; exact hk, y1, end_write rm hx (pure_erase k hp) (Reps.eraseIdx k u2) y2 q⟩
    · exact q.elim
  · exact q.elim
theorem List.dropLast_eraseIdx {α : Type} (xs : List α) : xs.dropLast = xs.eraseIdx (xs.length - 1) := by
  rw [List.eraseIdx_length_sub_one]
def mPop0 : OpM := fun d ds M => match d, ds with
  | .loc l, [] => match M[l]? with
    | some (some (.lst xs)) => (Res.of xs[xs.length - 1]? M).bind fun x M => .ok x (M.set l (some (.lst xs.dropLast)))
    | _ => .stuck
  | _, _ => .stuck
theorem sem_pop0 : SemM G mPop0 rPop := fun W ad H M d ds v vs Q rm r rs q => by
  unfold mPop0 at q
  split at q
  · split at q
    · rename_i l _ xs hx
      obtain ⟨x, hx2, q⟩ := of_bind q
      simp only [Reps] at rs; subst rs
      simp only [Rep] at r
      obtain ⟨us, u1, u2⟩ := rm.ok l _ hx
      obtain ⟨y, y1, y2⟩ := Reps.get u2 hx2
      have hp := rm.pur l _ hx
      refine ⟨ad.at_ l, us, y, r.1, rfl, u1, by rw [Reps.length _ _ u2]; exact y1, ?_⟩
      have ed : us.dropLast = us.eraseIdx (xs.length - 1) := by rw [List.dropLast_eraseIdx, Reps.length _ _ u2]
      rw [ed]
      refine end_write rm hx ?_ (Reps.eraseIdx _ u2) y2 (by rw [← List.dropLast_eraseIdx]; exact q)
      exact pure_erase _ hp
    · exact q.elim
  · exact q.elim

/-! ### stores -/
variable {f f1 f2 : Ev → Store → Res D} {i : Nat} {y : Str} {py spos : Pos}
theorem RelE.set1 {ad : Adr} {H : Hp} {M : Store} {env : Ev} {σ : L2.St} {d : D} {v : V} (re : RelE G ad H M env σ) (r : Rep G ad H M d v) (hi : i < env.length) : RelE G ad H M (env.set i (some d)) (σ.set i (some v)) := re.set r hi
def sSet (i : Nat) (f : Ev → Store → Res D) : Ev → Store → Out := fun env M => (f env M).out env fun d M => if i < env.length then .nx (env.set i (some d)) M else .stuck
theorem postS_if {ad : Adr} {H : Hp} {M : Store} {p : Prop} [Decidable p] {o : Out} {E : Ends} (h : PostS G W ad H M (if p then o else .stuck) E) : p ∧ PostS G W ad H M o E := by
  by_cases hp : p
  · rw [if_pos hp] at h; exact ⟨hp, h⟩
  · rw [if_neg hp] at h; exact h.elim
theorem st_set (hN : X.N.Nodup) (hi : X.N[i]? = some y) (hx : Loc X.env.scope y) (he : PE X e (tE G W f)) (hs : swapsWith e (some (.Name y py)) spos.line X.env = pure false) (hf : X.fn y = true ∨ X.env.scope.names.lookup y = some .local) :
    PS X (.Assign [.Name y py] e spos) (tS G W (sSet i f)) :=
  PS.weak (ps_set (pos' := py) (pos := spos) hN hi hx he hs hf) fun E σ H ⟨env, M, ad, re, rm, q⟩ => by
    refine tE.imp (tE_out re rm q) fun x H1 ⟨d, M1, ad1, e1, m1, r1, q1⟩ => ?_
    obtain ⟨hl, q2⟩ := postS_if q1
    exact PostS.next q2 m1 ((re.ext e1.toExt0 rm).set r1 hl)
/-- a, b = e -/
def sAsg (p : Pat) (f : Ev → Store → Res D) : Ev → Store → Out := fun env M => (f env M).out env fun d M => match asgP M p d env with
  | some env' => .nx env' M
  | none => .stuck
theorem st_asg {tg : Expr} {pt : Pat} (he : PE X e (tE G W f)) (hg : PG X tg (tG G pt)) (hs : swapsWithSole [tg] e pos.line X.env = pure false) (hw : swappedStores [tg] e X.env = pure none) (h1 : (assignEach [tg] X.env).map (·.2) = [assign tg X.env]) : PS X (.Assign [tg] e pos) (tS G W (sAsg pt f)) :=
  PS.weak (ps_asg he hg hs hw h1) fun E σ H ⟨env, M, ad, re, rm, q⟩ => by
    refine tE.imp (tE_out re rm q) fun x H1 ⟨d, M1, ad1, e1, m1, r1, q1⟩ => ?_
    split at q1
    · rename_i env' hasg
      exact ⟨d, env, env', M1, ad1, r1, re.ext e1.toExt0 rm, m1, hasg, fun σ' re' _ => PostS.next q1 m1 re'⟩
    · exact q1.elim
/-- a[i] = e -/
def setD (M : Store) (a : D) (i : D) (d : D) : Option Store := match a, i with
  | .loc l, .int k => match M[l]? with
    | some (some (.lst xs)) => (ixN xs.length k).bind fun j => if pureDs (xs.set j d) = true then some (M.set l (some (.lst (xs.set j d)))) else none
    | _ => none
  | _, _ => none
theorem setD_some {M M' : Store} {a i d : D} (h : setD M a i d = some M') : ∃ l k xs j, a = .loc l ∧ i = .int k ∧ M[l]? = some (some (.lst xs)) ∧ ixN xs.length k = some j ∧ pureDs (xs.set j d) = true ∧ M' = M.set l (some (.lst (xs.set j d))) := by
  unfold setD at h
  split at h
  · rename_i l k
    split at h
    · rename_i xs hx
      simp only [Option.bind_eq_some_iff] at h
      obtain ⟨j, hj, h⟩ := h
      split at h
      · rename_i hp
        simp only [Option.some.injEq] at h
        exact ⟨l, k, xs, j, rfl, rfl, hx, hj, hp, h.symm⟩
      · cases h
    · cases h
  · cases h
def sSub (fa fi f : Ev → Store → Res D) : Ev → Store → Out := fun env M => (f env M).out env fun d M => (fa env M).out env fun a M => (fi env M).out env fun i M => match setD M a i d with
  | some M' => .nx env M'
  | none => .stuck
theorem st_sub {a ie : Expr} {fa fi : Ev → Store → Res D} {p0 : Pos} (ha : PE X a (tE G W fa)) (hi : PE X ie (tE G W fi)) (he : PE X e (tE G W f)) (hs : swapsWithSole [.Subscript a ie p0] e pos.line X.env = pure false) (hw : swappedStores [.Subscript a ie p0] e X.env = pure none)
    (hform : ∀ v, assign (.Subscript a ie p0) X.env v = (do
      let ov ← holding [v] (eval a X.env)
      let iv ← holding [v, ov] (eval ie X.env)
      standAt p0
      holding [v, ov, iv] (setItem ov iv v)
      release [v, ov, iv] [])) (h1 : (assignEach [.Subscript a ie p0] X.env).map (·.2) = [assign (.Subscript a ie p0) X.env]) :
    PS X (.Assign [.Subscript a ie p0] e pos) (tS G W (sSub fa fi f)) :=
  PS.weak (ps_asg he (pg_sub ha hi set_list hform) hs hw h1) fun E σ H ⟨env, M, ad, re, rm, q⟩ => by
    refine tE.imp (tE_out re rm q) fun x H1 ⟨d, M1, ad1, e1, m1, r1, q1⟩ => ?_
    have re1 := re.ext e1.toExt0 rm
    refine tE.imp (tE_out re1 m1 q1) fun av H2 ⟨da, M2, ad2, e2, m2, r2, q2⟩ => ?_
    have re2 := re1.ext e2.toExt0 m1
    refine tE.imp (tE_out re2 m2 q2) fun iv H3 ⟨di, M3, ad3, e3, m3, r3, q3⟩ => ?_
    have re3 := re2.ext e3.toExt0 m2
    have rx := Rep.ext (e2.trans e3).toExt0 m1 _ _ r1
    have ra := Rep.ext e3.toExt0 m2 _ _ r2
    split at q3
    · rename_i M' hset
      obtain ⟨l, k, xs, j, rfl, rfl, hx, hj, hpu, rfl⟩ := setD_some hset
      simp only [Rep] at ra r3
      obtain ⟨us, u1, u2⟩ := m3.ok l _ hx
      have ee := Ext.write (G := G) (ad := ad3) (H := H3) (M := M3) (l := l) (ob' := .lst (xs.set j d)) (o := .lst (us.set j x)) hx m3 rfl
      refine ⟨ad3.at_ l, us, k, j, ra.1, r3, u1, by rw [Reps.length _ _ u2]; exact hj, ?_⟩
      exact q3 ad3 _ σ ee (RelM.write hx m3 rfl hpu ⟨_, upd_same, Reps.ext ee.toExt0 m3 _ _ (Reps.set j u2 rx)⟩) (re3.ext ee.toExt0 m3)
    · exact q3.elim
/-- x op= e -/
def sAug (i : Nat) (g : Op2) (f : Ev → Store → Res D) : Ev → Store → Out := sSet i (ev2 g (evVar i) f)
/-- name = [..] of a comprehension, on one line -/
theorem st_setLc {elt tg iter : Expr} {ifs : List Expr} {scope : Scope} {own : List (Str × Nat)} {pos : Pos} {p : Pat} {fi : Ev → Store → Res (List D)} {ft : Ev → Store → Res Bool} {fe : Ev → Store → Res D} (hc : X.calm = true) (hN : X.N.Nodup) (hy : X.N[i]? = some y) (hyl : X.env.scope.names.lookup y = some .local)
    (hsw : swapsWith (.ListComp elt [⟨tg, iter, ifs, 0⟩] scope pos) (some (.Name y py)) spos.line X.env = pure true) (hi : PI X tg iter (tI G W fi)) (ok : BlkOk X.N X.env.scope scope own) (hp : ∀ i ∈ slotsP p, i ∈ own.map (·.2))
    (hg : ∀ (s : Shared) (H : Hp) (C : Addr) (cl : List (Str × Addr)) (fp : List Addr), PG (X.blk s H scope (compEnvC scope cl C X.env) fp) tg (tG G p)) (ht : ∀ (s : Shared) (H : Hp) (C : Addr) (cl : List (Str × Addr)) (fp : List Addr), PTs (X.blk s H scope (compEnvC scope cl C X.env) fp) ifs (tT G WNo ft))
    (he : ∀ (s : Shared) (H : Hp) (C : Addr) (cl : List (Str × Addr)) (fp : List Addr), PE (X.blk s H scope (compEnvC scope cl C X.env) fp) elt (tE G WNo fe)) (hs : ∀ x, foldedSetIterable iter X.env x = pure x) :
    PS X (.Assign [.Name y py] (.ListComp elt [⟨tg, iter, ifs, 0⟩] scope pos) spos) (tS G W (sSet i (evLc p (own.map (·.2)) fi ft fe))) :=
  PS.weak (ps_setLc hc hN hy hyl hsw hi ok hg ht he hs) fun E σ H ⟨env0, M0, ad0, re0, rm0, q0⟩ => by
    obtain ⟨env, M, ad, re, rm, q⟩ := tE_out re0 rm0 q0
    refine ⟨env, M, ad, re, rm, PostR.imp (PostR.bind (rel := fun ad H M xs J => Wk G J xs ad H M) q) fun J H1 ⟨xs, M1, ad1, e1, m1, w1, q1⟩ => fun D0 h0 => ?_⟩
    refine lc_run hp (re.ext e1.toExt0 rm) m1 w1 h0 q1 fun ad2 H2 M2 ds us e hrs m hD r q2 => ?_
    obtain ⟨d, M3, ad3, e3, m3, r3, q3⟩ := lc_end e hrs m h0 m1 hD r q2
    obtain ⟨hl, q4⟩ := postS_if q3
    exact PostS.next q4 m3 ((re0.ext e3.toExt0 rm0).set r3 hl)
end
end Mi

set_option Elab.async false
set_option linter.all false
set_option maxRecDepth 100000
/-! Mi9: a def's promise by its body. -/
namespace Mi
open PySem PySem.Spec PyProof.Rows L2
section
variable {G : Gx}
/-- lists of the store that are handed back are taken out of it -/
def frzD (M : Store) : D → Option (D × Store)
  | .loc l => match M[l]? with
    | some (some (.lst xs)) => some (.lst xs, M.set l none)
    | _ => none
  | .lst xs => if pureDs xs = true then some (.lst xs, M) else (frzs xs M).map fun p => (.lst p.1, p.2)
  | d => if pureD d = true then some (d, M) else none
where
  frzs : List D → Store → Option (List D × Store)
  | [], M => some ([], M)
  | .loc l :: ds, M => match M[l]? with
    | some (some (.lst xs)) => (frzs ds (M.set l none)).map fun p => (.lst xs :: p.1, p.2)
    | _ => none
  | d :: ds, M => if pureD d = true then (frzs ds M).map fun p => (d :: p.1, p.2) else none
/-- a def's body: the parameters, then nothing in the other slots; at the end the def's own lists are gone.
    keep: what is handed back stays a list of the store -/
def runF (n : Nat) (keep : Bool) (body : Ev → Store → Out) : FD := fun ds M =>
  match body (ds.map some ++ List.replicate (n - ds.length) none) M with
  | .nx _ M' => .ok .non (M'.take M.length)
  | .ret d M' => if keep = true then .ok d M' else match frzD M' d with
    | some (d', M2) => .ok d' (M2.take M.length)
    | none => .stuck
  | .exc c fs _ M' => if pureDs (fs.map (·.2)) = true then .exc c fs (M'.take M.length) else .stuck
  | _ => .stuck
variable {ad ad' : Adr} {H H' : Hp} {M M' : Store}
/-- the store cut: what is pure stands -/
theorem take_get {n l : Nat} {o : Ob} (h : (M.take n)[l]? = some (some o)) : l < n ∧ M[l]? = some (some o) := by
  by_cases hl : l < n
  · rw [List.getElem?_take_of_lt hl] at h; exact ⟨hl, h⟩
  · rw [List.getElem?_eq_none (by rw [List.length_take]; omega)] at h; cases h
mutual
theorem Rep.pureAt {M2 : Store} (hal : ∀ a, Al ad M2 a → Al ad M a) : ∀ (d : D) (v : V), pureD d = true → Rep G ad H M d v → Rep G ad H M2 d v
  | .non, _, _, h => by simpa [Rep] using h
  | .bl _, _, _, h => by simpa [Rep] using h
  | .int _, _, _, h => by simpa [Rep] using h
  | .str _, _, _, h => by simpa [Rep] using h
  | .fn _, _, _, h => by simpa [Rep] using h
  | .cls _, _, _, h => by simpa [Rep] using h
  | .ty _, _, _, h => by simpa [Rep] using h
  | .dct0, _, _, h => by
    simp only [Rep] at h ⊢
    obtain ⟨a, e1, e2, na⟩ := h
    exact ⟨a, e1, e2, fun z => na (hal a z)⟩
  | .loc l, _, hp, _ => by simp [pureD] at hp
  | .tup xs, _, hp, h => by
    simp only [pureD] at hp
    simp only [Rep] at h ⊢
    obtain ⟨a, ws, e1, e2, e3⟩ := h
    exact ⟨a, ws, e1, e2, Reps.pureAt hal xs ws hp e3⟩
  | .lst xs, _, hp, h => by
    simp only [pureD] at hp
    simp only [Rep] at h ⊢
    obtain ⟨a, ws, e1, ⟨e2, e4, e5⟩, e3⟩ := h
    exact ⟨a, ws, e1, ⟨e2, fun z => e4 (hal a z), e5⟩, Reps.pureAt hal xs ws hp e3⟩
  | .scr xs, _, hp, h => by
    simp only [pureD] at hp
    simp only [Rep] at h ⊢
    obtain ⟨a, ws, e1, e2, e3⟩ := h
    refine ⟨a, ws, e1, ?_, Reps.pureAt hal xs ws hp e3⟩
    rcases e2 with ⟨e2, e4, e5⟩ | e2
    · exact .inl ⟨e2, fun z => e4 (hal a z), e5⟩
    · exact .inr e2
theorem Reps.pureAt {M2 : Store} (hal : ∀ a, Al ad M2 a → Al ad M a) : ∀ (ds : List D) (vs : List V), pureDs ds = true → Reps G ad H M ds vs → Reps G ad H M2 ds vs
  | [], _, _, h => by simpa [Reps] using h
  | d :: ds, _, hp, h => by
    simp only [pureDs, Bool.and_eq_true] at hp
    simp only [Reps] at h ⊢
    obtain ⟨v, w, e1, e2, e3⟩ := h
    exact ⟨v, w, e1, Rep.pureAt hal d v hp.1 e2, Reps.pureAt hal ds w hp.2 e3⟩
end
theorem RepK.pureAt {M2 : Store} (hal : ∀ a, Al ad M2 a → Al ad M a) : ∀ (ds : List (Int × D)) (vs : List (Key × V)), pureDs (ds.map (·.2)) = true → RepK G ad H M ds vs → RepK G ad H M2 ds vs
  | [], _, _, h => by simpa [RepK] using h
  | (k, d) :: ds, _, hp, h => by
    simp only [List.map_cons, pureDs, Bool.and_eq_true] at hp
    simp only [RepK] at h ⊢
    obtain ⟨v, w, e1, e2, e3⟩ := h
    exact ⟨v, w, e1, Rep.pureAt hal d v hp.1 e2, RepK.pureAt hal ds w hp.2 e3⟩
theorem al_take {n : Nat} : ∀ a, Al ad (M.take n) a → Al ad M a := fun a ⟨l, o, h, e⟩ => ⟨l, o, (take_get h).2, e⟩
theorem RelM.take (n : Nat) (m : RelM G ad H M) : RelM G ad H (M.take n) where
  pur := fun l o h => m.pur l o (take_get h).2
  ok := fun l o h => by
    have h2 := (take_get h).2
    have q := m.ok l o h2
    have hp := m.pur l o h2
    cases o with
    | lst xs => obtain ⟨vs, q1, q2⟩ := q; exact ⟨vs, q1, Reps.pureAt al_take _ _ hp q2⟩
    | dct xs => obtain ⟨vs, q1, q2⟩ := q; exact ⟨vs, q1, RepK.pureAt al_take _ _ hp q2⟩
  inj := fun l l' o o' h h' e => m.inj _ _ _ _ (take_get h).2 (take_get h').2 e
  tab := m.tab
  xd := m.xd
  rsv := fun a ha => ⟨(m.rsv a ha).1, fun z => (m.rsv a ha).2 (al_take a z)⟩
theorem Ext.cut (e : Ext G ad H M ad' H' M') : Ext G ad H M ad' H' (M'.take M.length) where
  rs := e.rs
  rsu := e.rsu
  len := by rw [List.length_take]; have := e.len; omega
  adr := e.adr
  frame := e.frame
  dead := fun a z => e.dead a (al_take a z)
  tbl := e.tbl
  al := e.al
theorem frz_one {l : Nat} {xs : List D} {v : V} (m : RelM G ad H M) (r : Rep G ad H M (.loc l) v) (h : M[l]? = some (some (.lst xs))) : Rep G ad H (M.set l none) (.lst xs) v := by
  simp only [Rep] at r ⊢
  obtain ⟨us, u1, u2⟩ := m.ok l _ h
  refine ⟨ad.at_ l, us, r.1, ⟨u1, fun ⟨k, o, hk, e⟩ => ?_, fun z => (m.rsv _ z).2 ⟨l, _, h, rfl⟩⟩, Reps.ext Ext.drop.toExt0 m _ _ u2⟩
  obtain ⟨h1, h2⟩ := drop_back hk
  exact h1 (m.inj _ _ _ _ h2 h e)
theorem frzs_ok : ∀ (ds : List D) {vs : List V} {M M2 : Store} {ds' : List D}, RelM G ad H M → Reps G ad H M ds vs → frzD.frzs ds M = some (ds', M2) →
    RelM G ad H M2 ∧ Ext G ad H M ad H M2 ∧ Reps G ad H M2 ds' vs ∧ pureDs ds' = true
  | [], vs, M, M2, ds', m, r, h => by
    simp only [frzD.frzs, Option.some.injEq, Prod.mk.injEq] at h
    obtain ⟨rfl, rfl⟩ := h
    exact ⟨m, Ext.refl, r, rfl⟩
  | d :: ds, vs, M, M2, ds', m, r, h => by
    simp only [Reps] at r
    obtain ⟨v, w, rfl, r1, r2⟩ := r
    have other : (if pureD d = true then (frzD.frzs ds M).map fun p => (d :: p.1, p.2) else none) = some (ds', M2) → RelM G ad H M2 ∧ Ext G ad H M ad H M2 ∧ Reps G ad H M2 ds' (v :: w) ∧ pureDs ds' = true := fun h => by
      split at h
      · rename_i hp
        simp only [Option.map_eq_some_iff, Prod.mk.injEq] at h
        obtain ⟨⟨es, M3⟩, h1, rfl, rfl⟩ := h
        obtain ⟨a, b, c, e⟩ := frzs_ok ds m r2 h1
        refine ⟨a, b, ?_, by simp only [pureDs, Bool.and_eq_true]; exact ⟨hp, e⟩⟩
        simp only [Reps]
        exact ⟨v, w, rfl, Rep.ext b.toExt0 m _ _ r1, c⟩
      · cases h
    cases d with
    | loc l =>
      simp only [frzD.frzs] at h
      split at h
      · rename_i xs hx
        simp only [Option.map_eq_some_iff, Prod.mk.injEq] at h
        obtain ⟨⟨es, M3⟩, h1, rfl, rfl⟩ := h
        have m1 := RelM.drop (l := l) m
        have e1 : Ext G ad H M ad H (M.set l none) := Ext.drop
        obtain ⟨a, b, c, e⟩ := frzs_ok ds m1 (Reps.ext e1.toExt0 m _ _ r2) h1
        refine ⟨a, e1.trans b, ?_, by simp only [pureDs, pureD, Bool.and_eq_true]; exact ⟨m.pur l _ hx, e⟩⟩
        simp only [Reps]
        exact ⟨v, w, rfl, Rep.ext b.toExt0 m1 _ _ (frz_one m r1 hx), c⟩
      · cases h
    | _ => exact other h
theorem frzD_ok {d d' : D} {v : V} {M2 : Store} (m : RelM G ad H M) (r : Rep G ad H M d v) (h : frzD M d = some (d', M2)) :
    RelM G ad H M2 ∧ Ext G ad H M ad H M2 ∧ Rep G ad H M2 d' v ∧ pureD d' = true := by
  have other : (if pureD d = true then some (d, M) else none) = some (d', M2) → RelM G ad H M2 ∧ Ext G ad H M ad H M2 ∧ Rep G ad H M2 d' v ∧ pureD d' = true := fun h => by
    split at h
    · rename_i hp
      simp only [Option.some.injEq, Prod.mk.injEq] at h
      obtain ⟨rfl, rfl⟩ := h
      exact ⟨m, Ext.refl, r, hp⟩
    · cases h
  cases d with
  | loc l =>
    simp only [frzD] at h
    split at h
    · rename_i xs hx
      simp only [Option.some.injEq, Prod.mk.injEq] at h
      obtain ⟨rfl, rfl⟩ := h
      exact ⟨RelM.drop m, Ext.drop, frz_one m r hx, by simp only [pureD]; exact m.pur l _ hx⟩
    · cases h
  | lst xs =>
    simp only [frzD] at h
    split at h
    · rename_i hp
      simp only [Option.some.injEq, Prod.mk.injEq] at h
      obtain ⟨rfl, rfl⟩ := h
      exact ⟨m, Ext.refl, r, by simp only [pureD]; exact hp⟩
    · simp only [Option.map_eq_some_iff, Prod.mk.injEq] at h
      obtain ⟨⟨es, M3⟩, h1, rfl, rfl⟩ := h
      simp only [Rep] at r
      obtain ⟨a, vs, rfl, ⟨e2, na, nr⟩, e3⟩ := r
      obtain ⟨a1, b, c, e⟩ := frzs_ok xs m e3 h1
      refine ⟨a1, b, ?_, by simp only [pureD]; exact e⟩
      simp only [Rep]
      refine ⟨a, vs, rfl, ⟨e2, fun al => ?_, nr⟩, c⟩
      rcases b.dead a al with z | z
      · exact na z
      · rw [e2] at z; cases z
  | _ => exact other h

theorem start_len {N : List Str} {vs : List V} (h : vs.length ≤ N.length) : (L2.start N vs).length = N.length := by
  unfold L2.start; rw [List.length_append, List.length_map, List.length_replicate]; omega
theorem relE_start {n : Nat} {ds : List D} {vs : List V} {N : List Str} (hn : N.length = n) (r : Reps G ad H M ds vs) : RelE G ad H M (ds.map some ++ List.replicate (n - ds.length) none) (L2.start N vs) := by
  have hl := Reps.length _ _ r
  unfold L2.start
  refine ⟨by simp [hn, hl], fun i d h => ?_⟩
  by_cases hi : i < ds.length
  · rw [List.getElem?_append_left (by rw [List.length_map]; exact hi), List.getElem?_map] at h
    simp only [Option.map_eq_some_iff, Option.some.injEq] at h
    obtain ⟨d', h1, rfl⟩ := h
    obtain ⟨v, h2, h3⟩ := Reps.get r h1
    exact ⟨v, by rw [List.getElem?_append_left (by rw [List.length_map, hl]; exact hi), List.getElem?_map, h2]; rfl, h3⟩
  · rw [List.getElem?_append_right (by rw [List.length_map]; omega)] at h
    rw [List.getElem?_replicate] at h
    split at h
    · cases h
    · cases h
variable {P : Program} {w : World} {mg : Str → Option Value} {base : Heap}
/-- what is wanted behind a body, from what is wanted behind the def -/
theorem runF_ends {n : Nat} {keep : Bool} {body : Ev → Store → Out} {ds : List D} {Q : VK} {E : XK} (rm : RelM G ad H M) (q : PostR G E (relV G) ad H M (runF n keep body ds M) Q) :
    PostS G (fun c d _ H' => E c d H') ad H M (body (ds.map some ++ List.replicate (n - ds.length) none) M) { nx := fun _ H' => Q .non H', rt := Q } := by
  unfold runF at q
  cases hb : body (ds.map some ++ List.replicate (n - ds.length) none) M with
  | nx env M' =>
    rw [hb] at q
    exact fun ad' H' σ' e m r => q ad' H' .non e.cut (m.take _) rep_non
  | bk env M' => rw [hb] at q; exact q.elim
  | ct env M' => rw [hb] at q; exact q.elim
  | stuck => rw [hb] at q; exact q.elim
  | ret d M' =>
    rw [hb] at q
    intro ad' H' v e m r
    simp only at q
    by_cases hk : keep = true
    · rw [if_pos hk] at q
      exact q ad' H' v e m r
    · rw [if_neg hk] at q
      cases hf : frzD M' d with
      | none => rw [hf] at q; exact q.elim
      | some p =>
        obtain ⟨d', M2⟩ := p
        rw [hf] at q
        simp only at q
        obtain ⟨m2, e2, r2, hp⟩ := frzD_ok m r hf
        exact q ad' H' v (e.trans e2).cut (m2.take _) (Rep.pureAt al_take _ _ hp r2)
  | exc c fs env M' =>
    rw [hb] at q
    simp only at q
    intro ad' H' σ' cls dd e m r x
    by_cases hp : pureDs (fs.map (·.2)) = true
    · rw [if_pos hp] at q
      refine q ad' H' cls dd e.cut (m.take _) ⟨x.1, ?_⟩
      rcases x.2 with h | ⟨h0, d2, vs, h1, h2, h3, h4⟩
      · exact .inl h
      · exact .inr ⟨h0, d2, vs, h1, h2, h3, Reps.pureAt al_take _ _ hp h4⟩
    · rw [if_neg hp] at q; exact q.elim
end
end Mi


set_option Elab.async false
set_option linter.all false
set_option maxRecDepth 100000
/-! MiA: generator expressions: the block's context, the code between two items. -/
namespace Mi
open PySem PySem.Spec PyProof.Rows L2 GenW

/-- the names of a generator expression's block -/
structure GenOk (N : List Str) (sc scope : Scope) (own : List (Str × Nat)) : Prop where
  kind : scope.kind = .function
  co : scope.isCoroutine = false
  dot : scope.names.lookup (".0" : Str) = some NameKind.local
  ix : ∀ p ∈ own, N[p.2]? = some p.1
  cell : ∀ y ∈ scope.names, y.2 ≠ .cell
  free : ∀ y ∈ scope.names, y.2 = .free → sc.names.lookup y.1 = some .cell ∨ sc.names.lookup y.1 = some .free
  own : ∀ y ∈ scope.names, y.2 = .local → y.1 ∈ own.map (·.1) ∨ y.1 ∉ N
/-- its context: a frame of its own over the maker's -/
abbrev genCx (X : Cx) (A' : Around) (s : Shared) (H : Hp) (ge : Env) (fp : List Addr) : Cx := { X with A := A', s_0 := s, H_0 := H, env := ge, outer := X.stack, stack := ge :: X.stack, ex := fp, fn := fun _ => false, pn := [], xe := fun _ _ => False }
section
variable {X : Cx} {pins : List (Addr × Obj)} {σ : L2.St} {H : Hp} {s : Shared}
theorem Inv.same {s' : Shared} (I : Inv X pins σ H s) (eh : s'.heap = s.heap) (eo : s'.os = s.os) (hb : AllBare s'.gens) : Inv X pins σ H s' :=
  ⟨I.ok, eo.trans I.os, hb, by rw [eh]; exact I.base, by rw [eh]; exact I.loc, by rw [eh]; exact I.cell, I.free, I.freeC, by rw [eh]; exact I.pin, by rw [eh]; exact I.hok, I.len⟩
theorem gen_start {scope : Scope} {own : List (Str × Nat)} {fp : List Addr} {code : Value} {ge : Env} {A' : Around} {s5 : Shared} {m : Str → Option Value} {pl : List (Addr × Obj)}
    (I : Inv X pins σ H s) (ok : GenOk X.N X.env.scope scope own) (hN : X.N.Nodup) (hfp : ∀ b ∈ fp, FpOk X pins H b ∧ b < s.heap.objs.size)
    (hge : ge = genEnv scope (cloFrom X.env.cells scope.names []) s.heap.objs.size code builtinsNs X.env)
    (hA : A'.frames = some (ge :: X.stack)) (hh : A'.handled = none)
    (hos : s5.os = s.os) (hb : AllBare s5.gens) (kp : ∀ b o, s.heap.get? b = some o → s5.heap.get? b = some o) (hn : s5.heap.Ns s.heap.objs.size m)
    (hpl : ∀ p ∈ pl, s5.heap.get? p.1 = some p.2 ∧ s.heap.objs.size < p.1 ∧ ∀ v, p.2.data ≠ .cell v) :
    Inv (genCx X A' s H ge fp) pl (wipe σ (own.map (·.2))) H s5 := by
  have hfree : ∀ y ∈ scope.names, y.2 = .free → ∃ c, X.env.cells.lookup y.1 = some c := fun y hy e => by
    rcases ok.free y hy e with k | k
    · exact I.ok.has _ (.inl k)
    · exact I.ok.has _ (.inr k)
  have hL : ge.locals = s.heap.objs.size := by rw [hge]; rfl
  have hcl : ge.cells = cloFrom X.env.cells scope.names [] := by rw [hge]; rfl
  have hsc : ge.scope = scope := by rw [hge]; rfl
  have cm : ∀ {y c}, (y, c) ∈ cloFrom X.env.cells scope.names [] → X.env.cells.lookup y = some c ∧ c < s.heap.objs.size := fun {y c} hm => by
    rcases cloFrom_mem hm with hm | ⟨h1, rfl⟩
    · cases hm
    · obtain ⟨c, hc⟩ := hfree _ h1 rfl
      rw [hc]
      obtain ⟨w, z⟩ := I.cell _ _ hc
      exact ⟨rfl, z.lt⟩
  have mem : ∀ {y c}, ge.cells.lookup y = some c → X.env.cells.lookup y = some c ∧ c < s.heap.objs.size := fun {y c} e => by
    rw [hcl] at e
    exact cm (PySem.mem_of_lookup e)
  have look : ∀ {y}, scope.names.lookup y = some .free → ∃ c, ge.cells.lookup y = some c ∧ X.env.cells.lookup y = some c := fun {y} hl => by
    have hy : (y, NameKind.free) ∈ scope.names := PySem.mem_of_lookup hl
    obtain ⟨c', e'⟩ := mem_lookup (cloFrom_has (cells := X.env.cells) (acc := []) hy)
    rw [← hcl] at e'
    exact ⟨c', e', (mem e').1⟩
  have key : ∀ y, ge.kindOf y = some .cell ∨ ge.kindOf y = some .free → scope.names.lookup y = some .free := fun y hy => by
    unfold Env.kindOf at hy
    rw [hsc] at hy
    rcases hy with hy | hy
    · exact absurd rfl (ok.cell _ (PySem.mem_of_lookup hy))
    · exact hy
  have okB : (genCx X A' s H ge fp).Ok := by
    refine ⟨I.ok.mod, by show ge.scope.kind = _; rw [hsc]; exact ok.kind, by show ge.globals = _; rw [hge]; exact I.ok.glob, by show ge.builtins = _; rw [hge]; rfl, by show s.heap.objs.size ≤ ge.locals; rw [hL]; exact Nat.le_refl _,
      fun y z c e1 e2 => I.ok.inj y z c (mem e1).1 (mem e2).1, fun y hy => ?_, fun y c z e => (by cases z), fun _ => hh, hA, .inr ⟨rfl, ?_⟩, fun b hb => ⟨?_, fun y c e z => ?_⟩, I.bs, Nat.le_trans I.ok.bsz I.sz, fun b o e hb => ?_, fun b hb z => ?_, I.stack, I.stkFree⟩
    · obtain ⟨c, h1, _⟩ := look (key y hy)
      exact ⟨c, h1⟩
    · show ge.frame = some ge.locals
      rw [hge]; rfl
    · show b ≠ ge.locals
      rw [hL]; exact Nat.ne_of_lt (hfp b hb).2
    · exact (hfp b hb).1.2.2.2.2.1 y c (mem e).1 z
    · rcases (hfp b hb).1.2.2.2.1 with z | z
      · exact I.ok.noex b o e z
      · exact absurd (Nat.lt_of_lt_of_le (Heap.lt_size e) (Nat.le_trans I.ok.bsz z)) (Nat.lt_irrefl _)
    · rcases List.mem_cons.mp (I.stkSub b z) with z | z
      · exact (hfp b hb).1.2.1 z
      · exact (hfp b hb).1.2.2.1 z
  have outFs : ∀ b, s.heap.objs.size ≤ b → b ∉ frs X.stack := fun b hb z => by
    rcases List.mem_cons.mp (I.stkSub b z) with z | z
    · rw [z] at hb; exact absurd I.lt (Nat.not_lt.mpr hb)
    · exact I.nofs hb z
  refine ⟨okB, hos, hb, Un.kept kp, ⟨m, ?_, fun i y av e1 e2 e3 => ?_⟩, fun y c e => ?_, ?_, fun y c e => ?_, fun p hp => ?_, I.hok.kept kp, by rw [wipe_length]; exact I.len⟩
  · show Heap.Ns _ ge.locals _
    rw [hL]; exact hn
  · obtain ⟨e2, hne⟩ := wipe_some e2
    have hfr : scope.names.lookup y = some .free := by
      have e3 : Vis ge.scope y := e3
      rw [hsc] at e3
      rcases e3 with e3 | e3 | e3
      · exfalso
        rcases ok.own _ (PySem.mem_of_lookup e3) rfl with e' | e'
        · obtain ⟨p, hp, hpy⟩ := List.mem_map.mp e'
          have e4 := ok.ix p hp
          have : p.1 = y := hpy
          rw [this] at e4
          exact hne (List.mem_map.mpr ⟨p, hp, nodup_ix hN e4 e1⟩)
        · exact e' (List.mem_of_getElem? e1)
      · exact absurd rfl (ok.cell _ (PySem.mem_of_lookup e3))
      · exact e3
    obtain ⟨m', hn', hl⟩ := I.loc
    have hvis : Vis X.env.scope y := (ok.free _ (PySem.mem_of_lookup hfr) rfl).elim (fun k => .inr (.inl k)) (fun k => .inr (.inr k))
    obtain ⟨w, r, q⟩ := hl i y av e1 e2 hvis
    have hk : ge.kindOf y = some .free := by unfold Env.kindOf; rw [hsc]; exact hfr
    refine ⟨w, r, .inr ⟨.inr hk, ?_⟩⟩
    obtain ⟨c, h1, h2⟩ := look hfr
    rcases q with ⟨k, _⟩ | ⟨_, c', e', z⟩
    · have k : X.env.scope.names.lookup y = some .local := k
      rcases ok.free _ (PySem.mem_of_lookup hfr) rfl with k' | k' <;> rw [show X.env.scope.names.lookup y = _ from k'] at k <;> cases k
    · rw [h2] at e'; cases e'
      exact ⟨c, h1, z.keeps kp⟩
  · obtain ⟨w, z⟩ := I.cell y c (mem e).1
    exact ⟨w, z.keeps kp⟩
  · show H ge.locals = none
    rw [hL]; exact I.hok.fresh (Nat.le_refl _)
  · exact I.freeC y c (mem e).1
  · have hp : p ∈ ([] : List (Addr × Obj)) ++ pl := hp
    obtain ⟨h1, h2, h3⟩ := hpl p (by simpa using hp)
    exact ⟨h1, I.hok.fresh (Nat.le_of_lt h2), by show p.1 ≠ ge.locals; rw [hL]; exact Nat.ne_of_gt h2, outFs _ (Nat.le_of_lt h2), h3⟩
end
/-! ### the code between two items -/
/-- it hands out truths; stop: the truth at which the consumer ends -/
def GenY (Xg : Cx) (pl : List (Addr × Obj)) (σw : L2.St) (stop : Bool) (Qs : Hp → Prop) : Protocol := fun n s₀ v s κ =>
  ∃ k Hk, v = .bool k ∧ Inv Xg pl σw Hk s ∧ (k = stop → Qs Hk) ∧ (k ≠ stop → ∀ s', s'.heap = s.heap → s'.os = s.os → AllBare s'.gens → κ (.send .none) s')
def GenF (Xg : Cx) (pl : List (Addr × Obj)) (σw : L2.St) (Qe : Hp → Prop) : Nat → Shared → Shared → Prop := fun n s₀ s => ∃ Hk, Inv Xg pl σw Hk s ∧ Qe Hk
/-- what a turn does -/
def GenT (J : It) (g : TG) (tt : TT) (te : TE) (vs : List Nat) (σw : L2.St) (stop : Bool) (Qs Qe : Hp → Prop) (Wv : Nat → Nat → Hp → Prop) : Prop := ∀ i m H, Wv i m H →
  (J.stop i H ∧ Qe H) ∨ (0 < m ∧ J.go i H ∧ ∃ Nx : Hp → Prop, (∀ H', Nx H' → ∃ m', m' < m ∧ Wv (i + 1) m' H') ∧ ∀ x H', J.yld i H x H' → g x σw H' fun σ2 H2 => wipe σ2 vs = σw ∧ tt σ2 H2 fun b H3 =>
    if b = true then te σ2 H3 fun y H4 => ∃ k, y = .bl k ∧ (k = stop → Qs H4) ∧ (k ≠ stop → Nx H4) else Nx H3)
section
variable {X : Cx} {A : Around} {s0 : Shared} {H0 : Hp} {ge : Env} {fp : List Addr} {elt tg iter : Expr} {ifs : List Expr} {scope : Scope} {pos : Pos} {it : Addr} {tn : Nat → Heap → Prop} {J : It} {g : TG} {tt : TT} {te : TE} {vs : List Nat} {σw : L2.St} {stop : Bool} {Qs Qe : Hp → Prop} {Wv : Nat → Nat → Hp → Prop} {pl : List (Addr × Obj)}
theorem gen_seg {Xg : Cx} (hXg : Xg = genCx X (A.over (.compLoop (.GeneratorExp elt [⟨tg, iter, ifs, 0⟩] scope pos) 0 (.ref it) .none ge) []) s0 H0 ge fp) (hc : X.calm = true) (hco : ge.scope.isCoroutine = false)
    (T : Turn X.prog X.w X.K tg J fp it tn) (hpl : ∀ p ∈ pl, ∀ b ∈ fp, p.1 ≠ b) (hg : PG Xg tg g) (ht : PTs Xg ifs tt) (he : PE Xg elt te) (turn : GenT J g tt te vs σw stop Qs Qe Wv) :
    ∀ (m n i : Nat) (s₀ s : Shared) (H' : Hp), m ≤ n → Inv Xg pl σw H' s → tn i s.heap → (∀ b ∈ fp, H' b = none) → Wv i m H' →
      Seg (model X.prog X.w) A (fun n s₀ r s₁ => r = .ok .next ∧ GenF Xg pl σw Qe n s₀ s₁) (GenY Xg pl σw stop Qs) n s₀ (.compLoop (.GeneratorExp elt [⟨tg, iter, ifs, 0⟩] scope pos) 0 (.ref it) .none ge)
        ((model X.prog X.w).den (.compLoop (.GeneratorExp elt [⟨tg, iter, ifs, 0⟩] scope pos) 0 (.ref it) .none ge)) [] s := by
  intro m
  induction m using Nat.strongRecOn with
  | _ m ih =>
    intro n i s₀ s H' hmn I st hn w
    have stat : ∀ {pins : List (Addr × Obj)} {σ' : L2.St} {H' : Hp} {s' : Shared}, (∀ p ∈ pins, ∀ b ∈ fp, p.1 ≠ b) → Inv Xg pins σ' H' s' → (∀ b ∈ fp, H' b = none) → ∀ b ∈ fp, FpOk Xg pins H' b := fun {pins σ' H' s'} hp I' hn b hb => by
      subst hXg
      exact ⟨hn b hb, (I'.ok.exf b hb).1, I'.ok.exfs b hb, .inl hb, fun x c e => (I'.ok.exf b hb).2 x c e, fun p hq => hp p (by simpa using hq) b hb⟩
    have eA : A.over (.compLoop (.GeneratorExp elt [⟨tg, iter, ifs, 0⟩] scope pos) 0 (.ref it) .none ge) [] = Xg.A := by rw [hXg]
    have eP : Xg.prog = X.prog := by rw [hXg]
    have eW : Xg.w = X.w := by rw [hXg]
    have eK : Xg.K = X.K := by rw [hXg]
    have eC : Xg.calm = true := by rw [hXg]; exact hc
    have eE : Xg.env = ge := by rw [hXg]
    have eX : Xg.xe = fun _ _ => False := by rw [hXg]
    show Seg _ A _ _ n s₀ _ ((compTurn (.GeneratorExp elt [⟨tg, iter, ifs, 0⟩] scope pos) 0 (.ref it) .none ge).onRaise (leaving ge)) [] s
    rw [compTurn_gen, Sem.onRaise_eq_wrap]
    refine seg_bind_wrap (wpAny_standAt ?_)
    rcases turn i m H' w with ⟨stp, qq⟩ | ⟨hm, go, Nx, hNx, step⟩
    · have td := T.done Xg eP eW eK eC i pl s σw H' (fun _ _ => False) I (stat hpl I hn) st stp
      refine seg_bind_wrap ?_
      rw [eA]
      refine thnF td fun r s1 ⟨hr, I1⟩ => ?_
      subst hr
      exact seg_end (.ok .next) ⟨rfl, H', I1, qq⟩
    · have ti := T.item Xg eP eW eK eC i pl s σw H' (fun _ _ => False) I (stat hpl I hn) st go
      refine seg_bind_wrap ?_
      rw [eA]
      refine thnF ti fun r s1 ⟨u, hr, h1⟩ => ?_
      subst hr
      refine seg_bind_wrap ?_
      rw [eA]
      refine thnF h1 fun _ s2 ⟨x, H2, I2, r2, y2, st2, n2⟩ => ?_
      have I2' := I2.pinned (stat hpl I2 n2) (T.obj _ _ st2)
      have pg := hg.run _ s2 _ H2 x u _ I2' r2 (step x H2 y2)
      rw [eP, eW, eE, eX] at pg
      refine seg_bind_wrap ?_
      rw [eA]
      refine thnF pg fun _ s3 ⟨σ3, H3, I3, hw3, q3⟩ => ?_
      have pt := ht.run _ s3 σ3 H3 _ I3 q3
      rw [eP, eW, eE, eX] at pt
      refine seg_bind_wrap ?_
      rw [eA]
      refine thnF pt fun b s4 ⟨H4, I4, q4⟩ => ?_
      have fin : ∀ {s' : Shared} {H' : Hp}, Inv Xg (pl ++ pinsAt fp s2.heap) σ3 H' s' → Inv Xg pl σw H' s' ∧ tn (i + 1) s'.heap ∧ (∀ b ∈ fp, H' b = none) := fun {s' H'} I' => by
        have pin' : ∀ b ∈ fp, ∀ o, s2.heap.get? b = some o → s'.heap.get? b = some o ∧ H' b = none := fun b hb o e =>
          let z := I'.pin (b, o) (List.mem_append_right _ (List.mem_append_right _ (mem_pinsAt hb e)))
          ⟨z.1, z.2.1⟩
        have hl : σw.length = σ3.length := by rw [← hw3, wipe_length]
        refine ⟨I'.unpinned.weak hl (fun j v e => ?_), T.keep _ _ _ st2 fun b hb o e => (pin' b hb o e).1, fun b hb => ?_⟩
        · rw [← hw3] at e
          exact (wipe_some e).1
        · obtain ⟨o, e, _⟩ := T.obj _ _ st2 b hb
          exact (pin' b hb o e).2
      cases b with
      | false =>
        simp only [Bool.false_eq_true, if_false] at q4 ⊢
        obtain ⟨m', hm', w'⟩ := hNx H4 q4
        obtain ⟨a1, a2, a3⟩ := fin I4
        exact seg_again rfl (ih m' hm' n (i + 1) s₀ s4 H4 (by omega) a1 a2 a3 w')
      | true =>
        simp only [if_true] at q4 ⊢
        have hy : ∀ v, yieldOut ge v = yieldValue v := fun v => by simp only [yieldOut, hco, Bool.false_eq_true, if_false]
        simp only [hy]
        rw [Sem.bind_eq_wrap', Sem.bind_eq_wrap', Sem.wrap_wrap, Sem.wrap_wrap]
        have pe := he.run _ s4 σ3 H4 _ I4 q4
        rw [eP, eW, eE, eX] at pe
        refine seg_wrap ?_
        rw [eA]
        refine thnF pe fun yv s5 ⟨y, H5, I5, r5, k, ek, qs, qn⟩ => ?_
        subst ek
        have r5 : yv = .bool k := r5
        subst r5
        obtain ⟨a1, a2, a3⟩ := fin I5
        obtain ⟨n', rfl⟩ : ∃ n', n = n' + 1 := ⟨n - 1, by omega⟩
        refine seg_at (seg_yield rfl rfl rfl ⟨k, H5, rfl, a1, qs, fun hk s' eh eo hb => ?_⟩)
        obtain ⟨m', hm', w'⟩ := hNx H5 (qn hk)
        exact seg_again rfl (ih m' hm' n' (i + 1) s' s' H5 (by omega) (Inv.same a1 eh eo hb) (by rw [eh]; exact a2) a3 w')
end
end Mi

set_option Elab.async false
set_option linter.all false
set_option maxRecDepth 100000
/-! MiB: all, any of a generator expression. -/
namespace Mi
open PySem PySem.Spec PyProof.Rows L2 GenW
section
variable {X : Cx} {A : Around} {s0 : Shared} {H0 : Hp} {ge : Env} {fp : List Addr} {elt tg iter : Expr} {ifs : List Expr} {scope : Scope} {pos : Pos} {it : Addr} {tn : Nat → Heap → Prop} {J : It} {g : TG} {tt : TT} {te : TE} {vs : List Nat} {σw : L2.St} {stop : Bool} {Qs Qe : Hp → Prop} {Wv : Nat → Nat → Hp → Prop} {pl : List (Addr × Obj)}
theorem seg_start {P : Program} {w : World} {R : GenEnd} {Y : Protocol} {n : Nat} {s₀ s : Shared} (T : Turn P w X.K tg J fp it tn) (st : tn 0 s.heap)
    (loop : Seg (model P w) A R Y n s₀ (.compLoop (.GeneratorExp elt [⟨tg, iter, ifs, 0⟩] scope pos) 0 (.ref it) .none ge) ((model P w).den (.compLoop (.GeneratorExp elt [⟨tg, iter, ifs, 0⟩] scope pos) 0 (.ref it) .none ge)) [] s) :
    Seg (model P w) A R Y n s₀ (.compStart (.GeneratorExp elt [⟨tg, iter, ifs, 0⟩] scope pos) 0 (.ref it) .none ge) ((model P w).den (.compStart (.GeneratorExp elt [⟨tg, iter, ifs, 0⟩] scope pos) 0 (.ref it) .none ge)) [] s := by
  show Seg _ A _ _ _ s₀ _ ((compStart (.GeneratorExp elt [⟨tg, iter, ifs, 0⟩] scope pos) 0 (.ref it) .none ge).onRaise (leaving ge)) [] s
  unfold compStart
  rw [Sem.onRaise_eq_wrap]
  show Seg _ A _ _ _ s₀ _ ((ask >>= _).wrap _ _ _ _) [] s
  refine seg_bind_wrap (wpAny_askSetting ?_)
  split
  · exact seg_again rfl loop
  · first
      | exact seg_bind_wrap (wpAny_rule (seg_bind_wrap (wpAny_standAt (seg_bind_wrap (T.self _ 0 s _ _ st (seg_again rfl loop))))))
      | (refine seg_bind_wrap (wpAny_rule ?_); show Seg _ A _ _ _ s₀ _ ((standAt iter.pos >>= _).wrap _ _ _ _) [] s; exact seg_bind_wrap (wpAny_standAt (seg_bind_wrap (T.self _ 0 s _ _ st (seg_again rfl loop)))))

/-- the generator a, ready to be walked by a consumer whose around is A -/
structure GRdy (P : Program) (w : World) (A : Around) (Xg : Cx) (pl : List (Addr × Obj)) (σw : L2.St) (stop : Bool) (Qs Qe : Hp → Prop) (a : Addr) (gn n : Nat) (s : Shared) : Prop where
  inv : ∃ Hk, Inv Xg pl σw Hk s
  gs : ∃ gs, s.gens[gn]? = some gs ∧ ∀ s', s'.heap = s.heap → s'.os = s.os → AllBare s'.gens → gs.Goes (model P w) A (fun n s₀ r s₁ => r = .ok .next ∧ GenF Xg pl σw Qe n s₀ s₁) (GenY Xg pl σw stop Qs) n (.send .none) s'
theorem IsGen_pl {Xg : Cx} {pl : List (Addr × Obj)} {a : Addr} {gn : Nat} {Hk : Hp} {s : Shared} {o : Obj} (I : Inv Xg pl σw Hk s) (hm : (a, o) ∈ pl) (hg : ∀ h : Heap, h.get? a = some o → h.IsGen a gn) : s.heap.IsGen a gn :=
  hg _ (I.pin (a, o) (List.mem_append_right _ hm)).1
/-- one item more, or the end -/
theorem gen_next {P : Program} {w : World} {Xg : Cx} {a : Addr} {gn n : Nat} {o : Obj} {s : Shared} {Q : Option Value → Shared → Prop} {E : Value → Shared → Prop} (hh : A.handled = none) (hroom : A.depth < recursionLimit) (hm : (a, o) ∈ pl) (hg : ∀ h : Heap, h.get? a = some o → h.IsGen a gn)
    (h : GRdy P w A.in1 Xg pl σw stop Qs Qe a gn n s)
    (hY : ∀ k Hk s', Inv Xg pl σw Hk s' → (k = stop → Qs Hk) → (k ≠ stop → ∃ n', n = n' + 1 ∧ GRdy P w A.in1 Xg pl σw stop Qs Qe a gn n' s') → Q (some (.bool k)) s')
    (hE : ∀ Hk s', Inv Xg pl σw Hk s' → Qe Hk → Q none s') : wpAny (model P w) A (pyNext (.ref a)) Q E s := by
  obtain ⟨⟨Hk, I⟩, gs, hgs, hgo⟩ := h
  have lt : gn < s.gens.size := by
    rcases Nat.lt_or_ge gn s.gens.size with h' | h'
    · exact h'
    · rw [Array.getElem?_eq_none h'] at hgs; cases hgs
  refine wpAny_gsz (n := s.gens.size) (Nat.le_refl _) (wpAny_pyNext_genexpQ hh I.nolimit hroom (IsGen_pl I hm hg) hgs (hgo _ rfl rfl (allBare_setGen I.bare rfl)) (fun v s₁ gs' hb hv hsz => ?_) (fun s₁ hp h' hk hsz => ?_))
  · obtain ⟨k, H1, rfl, I1, qs, qn⟩ := hv
    have lt1 : gn < s₁.gens.size := by rw [setGen_size] at hsz; omega
    have I2 : Inv Xg pl σw H1 (s₁.setGen gn gs') := Inv.same I1 rfl rfl (allBare_setGen I1.bare hb)
    refine hY k H1 _ I2 qs fun hk => ?_
    cases n with
    | zero => exact (qn hk s₁ rfl rfl I1.bare).elim
    | succ n' => exact ⟨n', rfl, ⟨H1, I2⟩, gs', setGen_at lt1, fun s' e1 e2 e3 => qn hk s' e1 e2 e3⟩
  · obtain ⟨H1, I1, q⟩ := hp
    have I2 : Inv Xg pl σw H1 (s₁.setGen gn .finished) := Inv.same I1 rfl rfl (allBare_setGen I1.bare rfl)
    exact hE H1 _ (I2.kept (t' := (s₁.setGen gn .finished).toks) hk) q
theorem all_loopG {P : Program} {w : World} {Xg : Cx} {a : Addr} {gn : Nat} {o : Obj} {R : Result → Shared → Prop} (hh : A.handled = none) (hroom : A.depth < recursionLimit) (hm : (a, o) ∈ pl) (hg : ∀ h : Heap, h.get? a = some o → h.IsGen a gn)
    (hs : ∀ Hk s', Inv Xg pl σw Hk s' → Qs Hk → R (.ok (.ret (.bool false))) s') (he : ∀ Hk s', Inv Xg pl σw Hk s' → Qe Hk → R (.ok (.ret (.bool true))) s') :
    ∀ (n : Nat) (s : Shared), GRdy P w A.in1.in1 Xg pl σw false Qs Qe a gn n s → codeAny (model P w) A (.builtin "all.loop" ⟨[.ref a], []⟩) R s := by
  intro n
  induction n with
  | zero =>
    intro s h
    refine codeAny_builtin F.entry_all_loop ?_
    rw [Around.under_plainId F.plain_all_loop _]
    show wpAny _ A.in1 (pyNext (.ref a) >>= _) _ _ s
    refine wpAny_bind (gen_next (A := A.in1) hh hroom hm hg h (fun k Hk s' I qs qn => ?_) (fun Hk s' I q => wpAny_bind (wpAny_rule (wpAny_pure (he Hk s' I q)))))
    refine wpAny_bind (wpAny_holding (wpAny_truthy_bool ?_))
    refine wpAny_bind (wpAny_letGo ?_)
    cases k with
    | true => obtain ⟨n', h1, _⟩ := qn (by simp); cases h1
    | false =>
      simp only [Bool.false_eq_true, if_false]
      exact wpAny_bind (wpAny_rule (wpAny_pure (hs Hk s' I (qs rfl))))
  | succ n ih =>
    intro s h
    refine codeAny_builtin F.entry_all_loop ?_
    rw [Around.under_plainId F.plain_all_loop _]
    show wpAny _ A.in1 (pyNext (.ref a) >>= _) _ _ s
    refine wpAny_bind (gen_next (A := A.in1) hh hroom hm hg h (fun k Hk s' I qs qn => ?_) (fun Hk s' I q => wpAny_bind (wpAny_rule (wpAny_pure (he Hk s' I q)))))
    refine wpAny_bind (wpAny_holding (wpAny_truthy_bool ?_))
    refine wpAny_bind (wpAny_letGo ?_)
    cases k with
    | true =>
      obtain ⟨n', h1, h2⟩ := qn (by simp)
      cases h1
      simp only [if_true]
      exact wpAny_pure ⟨plainId_quiet F.plain_all_loop _, ih s' h2⟩
    | false =>
      simp only [Bool.false_eq_true, if_false]
      exact wpAny_bind (wpAny_rule (wpAny_pure (hs Hk s' I (qs rfl))))
theorem any_loopG {P : Program} {w : World} {Xg : Cx} {a : Addr} {gn : Nat} {o : Obj} {R : Result → Shared → Prop} (hh : A.handled = none) (hroom : A.depth < recursionLimit) (hm : (a, o) ∈ pl) (hg : ∀ h : Heap, h.get? a = some o → h.IsGen a gn)
    (hs : ∀ Hk s', Inv Xg pl σw Hk s' → Qs Hk → R (.ok (.ret (.bool true))) s') (he : ∀ Hk s', Inv Xg pl σw Hk s' → Qe Hk → R (.ok (.ret (.bool false))) s') :
    ∀ (n : Nat) (s : Shared), GRdy P w A.in1.in1 Xg pl σw true Qs Qe a gn n s → codeAny (model P w) A (.builtin "any.loop" ⟨[.ref a], []⟩) R s := by
  intro n
  induction n with
  | zero =>
    intro s h
    refine codeAny_builtin F.entry_any_loop ?_
    rw [Around.under_plainId F.plain_any_loop _]
    show wpAny _ A.in1 (pyNext (.ref a) >>= _) _ _ s
    refine wpAny_bind (gen_next (A := A.in1) hh hroom hm hg h (fun k Hk s' I qs qn => ?_) (fun Hk s' I q => wpAny_bind (wpAny_rule (wpAny_pure (he Hk s' I q)))))
    refine wpAny_bind (wpAny_holding (wpAny_truthy_bool ?_))
    refine wpAny_bind (wpAny_letGo ?_)
    cases k with
    | false => obtain ⟨n', h1, _⟩ := qn (by simp); cases h1
    | true =>
      simp only [if_true]
      exact wpAny_bind (wpAny_rule (wpAny_pure (hs Hk s' I (qs rfl))))
  | succ n ih =>
    intro s h
    refine codeAny_builtin F.entry_any_loop ?_
    rw [Around.under_plainId F.plain_any_loop _]
    show wpAny _ A.in1 (pyNext (.ref a) >>= _) _ _ s
    refine wpAny_bind (gen_next (A := A.in1) hh hroom hm hg h (fun k Hk s' I qs qn => ?_) (fun Hk s' I q => wpAny_bind (wpAny_rule (wpAny_pure (he Hk s' I q)))))
    refine wpAny_bind (wpAny_holding (wpAny_truthy_bool ?_))
    refine wpAny_bind (wpAny_letGo ?_)
    cases k with
    | false =>
      obtain ⟨n', h1, h2⟩ := qn (by simp)
      cases h1
      simp only [Bool.false_eq_true, if_false]
      exact wpAny_pure ⟨plainId_quiet F.plain_any_loop _, ih s' h2⟩
    | true =>
      simp only [if_true]
      exact wpAny_bind (wpAny_rule (wpAny_pure (hs Hk s' I (qs rfl))))
end
end Mi

set_option Elab.async false
set_option linter.all false
set_option maxRecDepth 100000
/-! MiC: a generator expression is made. -/
namespace Mi
open PySem PySem.Spec PyProof.Rows L2 GenW
section
variable {X : Cx} {pins : List (Addr × Obj)} {σ : L2.St} {H : Hp} {s : Shared} {elt tg iter : Expr} {ifs : List Expr} {scope : Scope} {gpos : Pos} {own : List (Str × Nat)} {g : TG} {tt : TT} {te : TE} {wi : TI} {stop : Bool} {c P : Addr} {k : Nat}
/-- what a generator expression asks of its parts -/
structure GenP (X : Cx) (c P : Addr) (k : Nat) (elt tg iter : Expr) (ifs : List Expr) (scope : Scope) (own : List (Str × Nat)) (wi : TI) (g : TG) (tt : TT) (te : TE) : Prop where
  calm : X.calm = true
  nd : X.N.Nodup
  room : Room (k + 1) X.A
  tab : LamX.TabB X.base X.mg c P
  code : X.env.code = .ref c
  ok : GenOk X.N X.env.scope scope own
  it : PI X tg iter wi
  tgt : ∀ (A' : Around) (s : Shared) (H : Hp) (C : Addr) (cl : List (Str × Addr)) (cd : Value) (fp : List Addr), Room k A' → PG (genCx X A' s H (genEnv scope cl C cd builtinsNs X.env) fp) tg g
  tests : ∀ (A' : Around) (s : Shared) (H : Hp) (C : Addr) (cl : List (Str × Addr)) (cd : Value) (fp : List Addr), Room k A' → PTs (genCx X A' s H (genEnv scope cl C cd builtinsNs X.env) fp) ifs tt
  elt : ∀ (A' : Around) (s : Shared) (H : Hp) (C : Addr) (cl : List (Str × Addr)) (cd : Value) (fp : List Addr), Room k A' → PE (genCx X A' s H (genEnv scope cl C cd builtinsNs X.env) fp) elt te
  fold : ∀ x, genFold iter X.env x = pure x
def tMake (P : Addr) (wi : TI) (g : TG) (tt : TT) (te : TE) (vs : List Nat) (stop : Bool) (Qs Qe : Hp → Prop) (σ : L2.St) (H : Hp) : Prop := wi σ H fun J H1 => ∃ ps, H1 P = some (.tbl ps) ∧ TriplesOk ps.toList ∧ ∀ more, TriplesOk (ps ++ more).toList →
  ∃ Wv m, Wv 0 m (upd H1 P (.tbl (ps ++ more))) ∧ GenT J g tt te vs (wipe σ vs) stop Qs Qe Wv
/-- it is made -/
def GMd (X : Cx) (pins : List (Addr × Obj)) (σ : L2.St) (vs : List Nat) (stop : Bool) (Qs Qe : Hp → Prop) (v : Value) (s5 : Shared) : Prop :=
  ∃ a gn o Xg pl n, v = .ref a ∧ (a, o) ∈ pl ∧ (∀ h : Heap, h.get? a = some o → h.IsGen a gn) ∧ GRdy X.prog X.w X.A.in1.in1 Xg pl (wipe σ vs) stop Qs Qe a gn n s5 ∧ ∀ Hk s', Inv Xg pl (wipe σ vs) Hk s' → Inv X pins σ Hk s'
theorem gen_make (h0 : GenP X c P k elt tg iter ifs scope own wi g tt te) {Qs Qe : Hp → Prop} (I : Inv X pins σ H s) (h : tMake P wi g tt te (own.map (·.2)) stop Qs Qe σ H) :
    wpAny (model X.prog X.w) X.A (eval (.GeneratorExp elt [⟨tg, iter, ifs, 0⟩] scope gpos) X.env) (GMd X pins σ (own.map (·.2)) stop Qs Qe) X.xe s := by
  obtain ⟨hc, hN, hr, TB, hcode, ok, hi, hg, ht, he, hs⟩ := h0
  have hfree : ∀ y ∈ scope.names, y.2 = .free → ∃ c, X.env.cells.lookup y.1 = some c := fun y hy e => by
    rcases ok.free y hy e with k | k
    · exact I.ok.has _ (.inl k)
    · exact I.ok.has _ (.inr k)
  refine wpAny_GeneratorExp_make ok.co (closure_ok hfree) ok.cell ok.dot ok.kind (by have := hr.dp; omega) ?_ hs
  refine thn (hi.run pins s σ H _ I h) fun xv s1 hx => thn hx fun itv s2 h2 => ?_
  obtain ⟨it, fp, tn, J, H2, rfl, I2, T, st2, f2, ps, hP, ht3, q⟩ := h2
  refine ⟨I2.nolimit, ?_⟩
  have hPs : s2.heap.get? P = some { cls := .none, data := .fields ps } := I2.hok P _ hP
  have cd : PySem.W.CodeHd s2.heap c P := TB.code.keeps fun b u e => I2.bk b u e
  have fne : ∀ b ∈ fp, b ≠ P := fun b hb z => by
    have := (f2 b hb).1
    rw [z, hP] at this; cases this
  have cont : ∀ (code : Value) (h3 : Heap) (tk : Nat) (more : Array Value), Heap.ExtBut P s2.heap h3 → h3.get? P = some { cls := .none, data := .fields (ps ++ more) } → TriplesOk (ps ++ more).toList →
      wpAny (model X.prog X.w) X.A (builtinsFor X.env.globals X.env.builtins) (fun bi s₄ =>
        ∀ h', h'.Ns s₄.heap.objs.size (fun y => if y = ".0" then some (.ref it) else none) → Heap.SameBut s₄.heap.objs.size (s₄.heap.push { cls := .type "frame", data := .dict #[] }) h' →
          GMd X pins σ (own.map (·.2)) stop Qs Qe (.ref h'.objs.size) { s₄ with
            gens := s₄.gens.push (.fresh (.compStart (.GeneratorExp elt [⟨tg, iter, ifs, 0⟩] scope gpos) 0 (.ref it) .none (genEnv scope (cloFrom X.env.cells scope.names []) s₄.heap.objs.size code bi X.env))),
            toks := s₄.toks + 1 + 1 + 1,
            heap := h'.push { cls := .type "generator", data := .fields #[.int s₄.gens.size 0, .str "<genexpr>" (s₄.toks + 1), .str (X.env.qual ++ "<genexpr>") (s₄.toks + 1 + 1)] } }) X.xe { s2 with heap := h3, toks := tk } := by
    intro code h3 tk more hx hP3 ht4
    obtain ⟨bm, ob, e1, e2, e3, e4, e5, e6, e7, e8⟩ := TB.bm
    have keep3 : ∀ b u, b ≠ P → s2.heap.get? b = some u → h3.get? b = some u := fun b u hb e => hx b u hb e
    refine wpAny_builtinsFor (m := X.mg) (by rw [I2.ok.glob]; exact (I2.mod.glob.keeps I2.bk).extBut hx TB.gP) e1 e2 (keep3 _ _ e4 (I2.bk _ _ e5)) e6 e7 e8 ?_
    intro h' hn' hs'
    have I4 : Inv X pins σ (upd H2 P (.tbl (ps ++ more))) { s2 with heap := h3, toks := tk } := GxR.inv_tab (h' := h3) (g' := s2.gens) (d' := s2.drawn) (t' := tk) I2 hP keep3 hP3 I2.bare
    obtain ⟨Wv, m0, w0, turn⟩ := q more ht4
    generalize hge : genEnv scope (cloFrom X.env.cells scope.names []) h3.objs.size code builtinsNs X.env = ge
    have hsz : h'.objs.size = h3.objs.size + 1 := by rw [hs'.1, Heap.size_push]
    have keep' : ∀ b o, h3.get? b = some o → h'.get? b = some o := fun b o e => hs'.extBut b o (Nat.ne_of_lt (Heap.lt_size e)) (Heap.get?_push_of_some _ e)
    have f4 : ∀ b ∈ fp, FpOk X pins (upd H2 P (.tbl (ps ++ more))) b ∧ b < h3.objs.size := fun b hb => by
      obtain ⟨o, e, _⟩ := T.obj _ _ st2 b hb
      exact ⟨⟨by rw [upd_ne (fne b hb)]; exact (f2 b hb).1, (f2 b hb).2⟩, Heap.lt_size (keep3 b o (fne b hb) e)⟩
    have hfr : (X.A.in1.in1.over (.compLoop (.GeneratorExp elt [⟨tg, iter, ifs, 0⟩] scope gpos) 0 (.ref it) .none ge) []).frames = some (ge :: X.stack) := by
      show pushEnvs [ge] (pushEnvs [] X.A.frames) = _
      rw [I.ok.frames]; rfl
    have hrm : Room k (X.A.in1.in1.over (.compLoop (.GeneratorExp elt [⟨tg, iter, ifs, 0⟩] scope gpos) 0 (.ref it) .none ge) []) := by
      refine ⟨hr.hd, ?_, ?_⟩
      · have := hr.dp
        show X.A.depth + 0 + 1 + 3 * k + 5 < _
        omega
      · have := hr.un
        show X.A.units + 1 + 1 + 0 + 3 + 16 * k + 200 < _
        omega
    -- the generator, its object at a
    refine ⟨h'.objs.size, s2.gens.size, { cls := .type "generator", data := .fields #[.int s2.gens.size 0, .str "<genexpr>" (tk + 1), .str (X.env.qual ++ "<genexpr>") (tk + 1 + 1)] }, genCx X (X.A.in1.in1.over (.compLoop (.GeneratorExp elt [⟨tg, iter, ifs, 0⟩] scope gpos) 0 (.ref it) .none ge) []) { s2 with heap := h3, toks := tk } (upd H2 P (.tbl (ps ++ more))) ge fp, [(h'.objs.size, { cls := .type "generator", data := .fields #[.int s2.gens.size 0, .str "<genexpr>" (tk + 1), .str (X.env.qual ++ "<genexpr>") (tk + 1 + 1)] })], m0, rfl, by simp, fun h e => ⟨_, _, _, e, rfl, rfl, rfl⟩, ?_, ?_⟩
    · have I5 : ∀ s' : Shared, s'.heap = h'.push { cls := .type "generator", data := .fields #[.int s2.gens.size 0, .str "<genexpr>" (tk + 1), .str (X.env.qual ++ "<genexpr>") (tk + 1 + 1)] } → s'.os = s2.os → AllBare s'.gens →
          Inv (genCx X (X.A.in1.in1.over (.compLoop (.GeneratorExp elt [⟨tg, iter, ifs, 0⟩] scope gpos) 0 (.ref it) .none ge) []) { s2 with heap := h3, toks := tk } (upd H2 P (.tbl (ps ++ more))) ge fp) [(h'.objs.size, { cls := .type "generator", data := .fields #[.int s2.gens.size 0, .str "<genexpr>" (tk + 1), .str (X.env.qual ++ "<genexpr>") (tk + 1 + 1)] })] (wipe σ (own.map (·.2))) (upd H2 P (.tbl (ps ++ more))) s' := fun s' e1 e2 e3 => by
        refine gen_start I4 ok hN f4 hge.symm hfr hr.hd (e2.trans rfl) e3 (fun b o e => by rw [e1]; exact Heap.get?_push_of_some _ (keep' b o e)) (m := fun y => if y = ".0" then some (.ref it) else none) (by rw [e1]; exact hn'.push _) (fun p hp => ?_)
        obtain rfl : p = _ := by simpa using hp
        refine ⟨by rw [e1]; exact Heap.get?_push_size _ rfl, by show h3.objs.size < h'.objs.size; omega, fun v z => by cases z⟩
      have hb5 : AllBare (s2.gens.push (.fresh (.compStart (.GeneratorExp elt [⟨tg, iter, ifs, 0⟩] scope gpos) 0 (.ref it) .none ge))) := I2.bare.push rfl
      refine ⟨⟨_, I5 _ rfl rfl hb5⟩, _, Array.getElem?_push_size .., fun s' e1 e2 e3 => ⟨rfl, ?_⟩⟩
      have I6 := I5 s' e1 e2 e3
      have st6 : tn 0 s'.heap := T.keep _ _ _ st2 fun b hb o e => by rw [e1]; exact Heap.get?_push_of_some _ (keep' b o (keep3 b o (fne b hb) e))
      subst hge
      refine seg_start T st6 (gen_seg rfl hc ok.co T (fun p hp b hb => ?_) (hg _ _ _ _ _ _ _ hrm) (ht _ _ _ _ _ _ _ hrm) (he _ _ _ _ _ _ _ hrm) turn m0 m0 0 s' s' _ (Nat.le_refl _) I6 st6 (fun b hb => (f4 b hb).1.1) w0)
      obtain rfl : p = _ := by simpa using hp
      have := (f4 b hb).2
      exact Nat.ne_of_gt (by show b < h'.objs.size; rw [hsz]; exact Nat.lt_succ_of_lt this)
    · intro Hk s' I'
      exact I4.call' (ch := fp) I'.os I'.base I'.hok I'.bare fun b hb => ⟨(f4 b hb).1.2.2.2.1, (f4 b hb).1.2.1, (f4 b hb).1.2.2.2.2.1, (f4 b hb).1.2.2.2.2.2⟩
  cases hf : codeAmong gpos ps.toList with
  | none =>
    refine wpAny_genexprCodeX hcode (cd.code hPs ht3) (cd.tab hPs) hf fun c' h' tk hx hge hlt hco' _ htab' _ => ?_
    obtain ⟨o1, vs, f1, tf, fl, tg1, inF, tx, t1, op, _, _, _, _, _, _, _, _, _, htr, _⟩ := hco'
    exact cont _ h' tk _ hx htab'.2 htr
  | some cv =>
    refine wpAny_genexprCode_hit hcode (cd.code hPs ht3) hf ?_
    exact cont cv s2.heap s2.toks #[] (Heap.ExtBut.refl _ _) (by simpa using hPs) (by simpa using ht3)
/-- all(..), any(..) of it -/
def tGe (P : Addr) (wi : TI) (g : TG) (tt : TT) (te : TE) (vs : List Nat) (stop : Bool) : TE := fun σ H Q => tMake P wi g tt te vs stop (fun H => Q (.bl stop) H) (fun H => Q (.bl !stop) H) σ H
theorem pe_allG {p pos : Pos} (h0 : GenP X c P k elt tg iter ifs scope own wi g tt te) (hg : Gl X "all") (hm : X.mg "all" = none) (hb : bootBuiltins "all" = some (.builtin "all") := by rfl)
    (he : starEach [.GeneratorExp elt [⟨tg, iter, ifs, 0⟩] scope gpos] X.env = (false, eval (.GeneratorExp elt [⟨tg, iter, ifs, 0⟩] scope gpos) X.env) :: starEach [] X.env := by rfl) :
    PE X (.Call (.Name "all" p) [.GeneratorExp elt [⟨tg, iter, ifs, 0⟩] scope gpos] [] pos) (tGe P wi g tt te (own.map (·.2)) false) := by
  refine ⟨fun pins s σ H Q I h => ?_⟩
  have hr := h0.room
  refine wpAny_Call_Name_kw (ld_blt I hg hm hb ?_)
  refine PyProof.Rows.callWith_builtin1 ?_ he (by rfl)
  rw [he]
  show wpAny _ _ (spliced ((false, eval (.GeneratorExp elt [⟨tg, iter, ifs, 0⟩] scope gpos) X.env) :: backTo pos (starEach [] X.env))) _ _ s
  refine Calls.spliced_cons (thn (gen_make h0 I h) fun v s5 hv => ?_)
  obtain ⟨a, gn, o, Xg, pl, n, rfl, hm, hgn, hrd, hback⟩ := hv
  refine Calls.spliced_nil ?_
  refine call_function_tree F.kind_all F.plain_all F.entry_all (F.args_all1 _) ?_
  unfold Builtin.«all»
  refine wpAny_bind (m := oneArg "all" _) (wpAny_pure ?_)
  obtain ⟨Hk, I5⟩ := hrd.inv
  refine wpAny_bind (wpAny_pyIter_gen (IsGen_pl I5 hm hgn) ?_)
  exact wpAny_pure ⟨plainId_quiet F.plain_all_loop _, all_loopG hr.hd (by have := hr.dp; omega) hm hgn (fun Hk s' I' q => ⟨.bl _, Hk, hback _ _ I', rfl, q⟩) (fun Hk s' I' q => ⟨.bl _, Hk, hback _ _ I', rfl, q⟩) n s5 hrd⟩
theorem pe_anyG {p pos : Pos} (h0 : GenP X c P k elt tg iter ifs scope own wi g tt te) (hg : Gl X "any") (hm : X.mg "any" = none) (hb : bootBuiltins "any" = some (.builtin "any") := by rfl)
    (he : starEach [.GeneratorExp elt [⟨tg, iter, ifs, 0⟩] scope gpos] X.env = (false, eval (.GeneratorExp elt [⟨tg, iter, ifs, 0⟩] scope gpos) X.env) :: starEach [] X.env := by rfl) :
    PE X (.Call (.Name "any" p) [.GeneratorExp elt [⟨tg, iter, ifs, 0⟩] scope gpos] [] pos) (tGe P wi g tt te (own.map (·.2)) true) := by
  refine ⟨fun pins s σ H Q I h => ?_⟩
  have hr := h0.room
  refine wpAny_Call_Name_kw (ld_blt I hg hm hb ?_)
  refine PyProof.Rows.callWith_builtin1 ?_ he (by rfl)
  rw [he]
  show wpAny _ _ (spliced ((false, eval (.GeneratorExp elt [⟨tg, iter, ifs, 0⟩] scope gpos) X.env) :: backTo pos (starEach [] X.env))) _ _ s
  refine Calls.spliced_cons (thn (gen_make h0 I h) fun v s5 hv => ?_)
  obtain ⟨a, gn, o, Xg, pl, n, rfl, hm, hgn, hrd, hback⟩ := hv
  refine Calls.spliced_nil ?_
  refine call_function_tree F.kind_any F.plain_any F.entry_any (F.args_any1 _) ?_
  unfold Builtin.«any»
  refine wpAny_bind (m := oneArg "any" _) (wpAny_pure ?_)
  obtain ⟨Hk, I5⟩ := hrd.inv
  refine wpAny_bind (wpAny_pyIter_gen (IsGen_pl I5 hm hgn) ?_)
  exact wpAny_pure ⟨plainId_quiet F.plain_any_loop _, any_loopG hr.hd (by have := hr.dp; omega) hm hgn (fun Hk s' I' q => ⟨.bl _, Hk, hback _ _ I', rfl, q⟩) (fun Hk s' I' q => ⟨.bl _, Hk, hback _ _ I', rfl, q⟩) n s5 hrd⟩

/-! ### on trees -/
section
variable {G : Gx} {W : WX}
/-- the walk: stop is told at the first item that is it -/
def gaD (stop : Bool) (p : Pat) (ifs : Ev → Store → Res Bool) (elt : Ev → Store → Res D) : List D → Ev → Store → Res Bool
  | [], _, M => .ok (!stop) M
  | x :: xs, env, M => match asgP M p x env with
    | none => .stuck
    | some env1 => (ifs env1 M).bindN fun b M1 => if b = true then (elt env1 M1).bindN fun d M2 => match d with
        | .bl r => if r = stop then .ok stop M2 else gaD stop p ifs elt xs env M2
        | _ => .stuck
      else gaD stop p ifs elt xs env M1
def evGa (stop : Bool) (p : Pat) (own : List Nat) (it : Ev → Store → Res (List D)) (ifs : Ev → Store → Res Bool) (elt : Ev → Store → Res D) : Ev → Store → Res D := fun env M => (it env M).bind fun xs M1 => (gaD stop p ifs elt xs (wipeD env own) M1).bind fun b M2 => .ok (.bl b) M2
/-- a table has grown -/
theorem ext_tbl {ad : Adr} {H : Hp} {M : Store} {ps ps' : Array Value} (hm : RelM G ad H M) (hP : H P = some (.tbl ps)) : Ext G ad H M ad (upd H P (.tbl ps')) M :=
  ⟨{ rsu := fun a h => .inl h, len := Nat.le_refl _, adr := fun _ _ => rfl
     frame := fun a o h al t => by
       rw [upd_ne (fun z => by rw [z, hP] at h; cases h; cases t)]; exact h
     dead := fun a x => .inl x
     tbl := fun a qs h => by
       by_cases z : a = P
       · rw [z]; exact ⟨_, upd_same⟩
       · exact ⟨qs, by rw [upd_ne z]; exact h⟩
     al := fun a h h' => by
       by_cases z : a = P
       · rw [z, upd_same]; simp
       · rw [upd_ne z]; exact h' }, rfl⟩
theorem relM_tbl {ad : Adr} {H : Hp} {M : Store} {ps ps' : Array Value} (hm : RelM G ad H M) (hP : H P = some (.tbl ps)) (ht : TriplesOk ps'.toList) : RelM G ad (upd H P (.tbl ps')) M := by
  have e := (ext_tbl (ps' := ps') hm hP).toExt0
  exact { pur := hm.pur
          ok := fun l o h => by
            have q := hm.ok l o h
            cases o with
            | lst xs => obtain ⟨vs, q1, q2⟩ := q; exact ⟨vs, by rw [upd_ne (fun z => by rw [z, hP] at q1; cases q1)]; exact q1, Reps.ext e hm _ _ q2⟩
            | dct xs => obtain ⟨vs, q1, q2⟩ := q; exact ⟨vs, by rw [upd_ne (fun z => by rw [z, hP] at q1; cases q1)]; exact q1, RepK.ext e hm _ _ q2⟩
          inj := hm.inj
          tab := fun T hT => by
            by_cases z : T = P
            · rw [z]; exact ⟨_, upd_same, ht⟩
            · obtain ⟨qs, q1, q2⟩ := hm.tab T hT
              exact ⟨qs, by rw [upd_ne z]; exact q1, q2⟩
          xd := fun r hr => (upd_ne (fun z => by have y := hm.xd r hr; rw [z, hP] at y; cases y)).trans (hm.xd r hr)
          rsv := fun a ha => by
            obtain ⟨⟨vs, q1⟩, q2⟩ := hm.rsv a ha
            exact ⟨⟨vs, by rw [upd_ne (fun z => by rw [z, hP] at q1; cases q1)]; exact q1⟩, q2⟩ }
theorem ga_run {stop : Bool} {J : It} {p : Pat} {fi : Ev → Store → Res Bool} {fe : Ev → Store → Res D} {xs : List D} {vs : List Nat} {σ : L2.St} {env : Ev} {ad1 : Adr} {H1 : Hp} {M1 : Store} {P : Addr} {ps ps' : Array Value} {W0 : WX0} {β γ : Type} {rel2 : Adr → Hp → Store → β → γ → Prop} {k : Bool → Store → Res β} {Q : γ → Hp → Prop} {Qb : Bool → Hp → Prop}
    (hs : ∀ i ∈ slotsP p, i ∈ vs) (re : RelE G ad1 H1 M1 env σ) (m1 : RelM G ad1 H1 M1) (w1 : Wk G J xs ad1 H1 M1) (hP : H1 P = some (.tbl ps)) (ht : TriplesOk ps'.toList)
    (q1 : PostR G W0 rel2 ad1 H1 M1 ((gaD stop p fi fe xs (wipeD env vs) M1).bind k) Q)
    (hend : ∀ b ad H M, Ext G ad1 H1 M1 ad H M → RelM G ad H M → PostR G W0 rel2 ad1 H1 M1 (k b M) Q → Qb b H) :
    ∃ Wv m, Wv 0 m (upd H1 P (.tbl ps')) ∧ GenT J (tG G p) (tT G WNo fi) (tE G WNo fe) vs (wipe σ vs) stop (Qb stop) (Qb !stop) Wv := by
  have e0 := ext_tbl (ps' := ps') m1 hP
  have mm0 := relM_tbl m1 hP ht
  refine ⟨fun i m H => i + m = xs.length ∧ ∃ ad M, Ext G ad1 H1 M1 ad H M ∧ RelM G ad H M ∧ RelE G ad H M (wipeD env vs) (wipe σ vs) ∧ PostR G W0 rel2 ad1 H1 M1 ((gaD stop p fi fe (xs.drop i) (wipeD env vs) M).bind k) Q,
    xs.length, ⟨by omega, ad1, M1, e0, mm0, (re.ext e0.toExt0 m1).wipe vs, by rw [List.drop_zero]; exact q1⟩, fun i m H ⟨him, ad, M, e, mm, rE, q⟩ => ?_⟩
  obtain ⟨wg, ws⟩ := w1 ad H M e.toExt0 mm i
  by_cases hi : i < xs.length
  · obtain ⟨g1, g2⟩ := wg hi
    refine .inr ⟨by omega, g1, fun H2 => ∃ ad M, Ext G ad1 H1 M1 ad H2 M ∧ RelM G ad H2 M ∧ RelE G ad H2 M (wipeD env vs) (wipe σ vs) ∧ PostR G W0 rel2 ad1 H1 M1 ((gaD stop p fi fe (xs.drop (i + 1)) (wipeD env vs) M).bind k) Q, fun H2 h2 => ⟨m - 1, by omega, by omega, h2⟩, fun x H2 hy => ?_⟩
    obtain ⟨d, hd, ex, mx, rx⟩ := g2 x H2 hy
    have hdrop : xs.drop i = d :: xs.drop (i + 1) := by
      rw [List.drop_eq_getElem_cons hi]
      rw [List.getElem?_eq_getElem hi] at hd
      simp only [Option.some.injEq] at hd
      rw [hd]
    rw [hdrop] at q
    simp only [gaD] at q
    split at q
    · exact q.elim
    · rename_i env1 hasg
      have rE2 := rE.ext ex.toExt0 mm
      refine ⟨d, wipeD env vs, env1, M, ad, rx, rE2, mx, hasg, fun σ3 re3 s3 => ⟨wipe_same s3 hs, ?_⟩⟩
      refine ⟨env1, M, ad, re3, mx, ?_⟩
      cases hfi : fi env1 M with
      | stuck => rw [hfi] at q; exact q.elim
      | exc c fs M2 => rw [hfi] at q; exact q.elim
      | ok b M2 =>
        rw [hfi] at q
        simp only [Res.bindN] at q
        intro ad3 H3 b' e3 m3 eb
        cases (show b = b' from eb)
        have e13 : Ext G ad1 H1 M1 ad3 H3 M2 := (e.trans ex).trans e3
        have rE3 := rE2.ext e3.toExt0 mx
        cases b with
        | false =>
          rw [if_neg (by simp)] at q ⊢
          exact ⟨ad3, M2, e13, m3, rE3, q⟩
        | true =>
          rw [if_pos rfl] at q ⊢
          refine ⟨env1, M2, ad3, re3.ext e3.toExt0 mx, m3, ?_⟩
          cases hfe : fe env1 M2 with
          | stuck => rw [hfe] at q; exact q.elim
          | exc c fs M3 => rw [hfe] at q; exact q.elim
          | ok y M3 =>
            rw [hfe] at q
            simp only [Res.bindN] at q
            intro ad4 H4 yv e4 m4 ry
            have e14 := e13.trans e4
            cases y with
            | bl r =>
              have ry : yv = .bl r := by simpa [relV, Rep] using ry
              refine ⟨r, ry, fun hr => ?_, fun hr => ?_⟩
              · simp only [if_pos hr] at q
                exact hend stop ad4 H4 M3 e14 m4 q
              · simp only [if_neg hr] at q
                exact ⟨ad4, M3, e14, m4, rE3.ext e4.toExt0 m3, q⟩
            | _ => exact q.elim
  · refine .inl ⟨ws (by omega), ?_⟩
    rw [List.drop_of_length_le (by omega)] at q
    simp only [gaD] at q
    exact hend (!stop) ad H M e mm q
/-- what a generator expression asks, on trees -/
abbrev GenQ (G : Gx) (W : WX) (X : Cx) (c P : Addr) (k : Nat) (elt tg iter : Expr) (ifs : List Expr) (scope : Scope) (own : List (Str × Nat)) (p : Pat) (fi : Ev → Store → Res (List D)) (ft : Ev → Store → Res Bool) (fe : Ev → Store → Res D) : Prop :=
  GenP X c P k elt tg iter ifs scope own (tI G W fi) (tG G p) (tT G WNo ft) (tE G WNo fe)
theorem tGe_of {stop : Bool} {p : Pat} {fi : Ev → Store → Res (List D)} {ft : Ev → Store → Res Bool} {fe : Ev → Store → Res D} {vs : List Nat} {P : Addr} (hP : P ∈ G.tabs) (hp : ∀ i ∈ slotsP p, i ∈ vs) {σ : L2.St} {H : Hp} {Q : VK}
    (h : tE G W (evGa stop p vs fi ft fe) σ H Q) : tGe P (tI G W fi) (tG G p) (tT G WNo ft) (tE G WNo fe) vs stop σ H Q := by
  obtain ⟨env, M, ad, re, rm, q⟩ := h
  refine ⟨env, M, ad, re, rm, PostR.imp (PostR.bind (rel := fun ad H M xs J => Wk G J xs ad H M) q) fun J H1 ⟨xs, M1, ad1, e1, m1, w1, q1⟩ => ?_⟩
  obtain ⟨ps, h1, h2⟩ := m1.tab P hP
  refine ⟨ps, h1, h2, fun more h3 => ?_⟩
  exact ga_run (Qb := fun b H => Q (.bl b) H) hp (re.ext e1.toExt0 rm) m1 w1 h1 h3 q1 fun b ad H M e mm q2 => q2 ad H (.bl b) e mm (by simp [relV, Rep])
theorem se_all {elt tg iter : Expr} {ifs : List Expr} {scope : Scope} {own : List (Str × Nat)} {p1 pos gpos : Pos} {c P : Addr} {k : Nat} {p : Pat} {fi : Ev → Store → Res (List D)} {ft : Ev → Store → Res Bool} {fe : Ev → Store → Res D} (h0 : GenQ G W X c P k elt tg iter ifs scope own p fi ft fe) (hP : P ∈ G.tabs) (hp : ∀ i ∈ slotsP p, i ∈ own.map (·.2)) (hg : Gl X "all") (hm : X.mg "all" = none) (hb : bootBuiltins "all" = some (.builtin "all") := by rfl)
    (he : starEach [.GeneratorExp elt [⟨tg, iter, ifs, 0⟩] scope gpos] X.env = (false, eval (.GeneratorExp elt [⟨tg, iter, ifs, 0⟩] scope gpos) X.env) :: starEach [] X.env := by rfl) :
    PE X (.Call (.Name "all" p1) [.GeneratorExp elt [⟨tg, iter, ifs, 0⟩] scope gpos] [] pos) (tE G W (evGa false p (own.map (·.2)) fi ft fe)) := PE.weak (pe_allG h0 hg hm hb he) fun _ _ _ h => tGe_of hP hp h
theorem se_any {elt tg iter : Expr} {ifs : List Expr} {scope : Scope} {own : List (Str × Nat)} {p1 pos gpos : Pos} {c P : Addr} {k : Nat} {p : Pat} {fi : Ev → Store → Res (List D)} {ft : Ev → Store → Res Bool} {fe : Ev → Store → Res D} (h0 : GenQ G W X c P k elt tg iter ifs scope own p fi ft fe) (hP : P ∈ G.tabs) (hp : ∀ i ∈ slotsP p, i ∈ own.map (·.2)) (hg : Gl X "any") (hm : X.mg "any" = none) (hb : bootBuiltins "any" = some (.builtin "any") := by rfl)
    (he : starEach [.GeneratorExp elt [⟨tg, iter, ifs, 0⟩] scope gpos] X.env = (false, eval (.GeneratorExp elt [⟨tg, iter, ifs, 0⟩] scope gpos) X.env) :: starEach [] X.env := by rfl) :
    PE X (.Call (.Name "any" p1) [.GeneratorExp elt [⟨tg, iter, ifs, 0⟩] scope gpos] [] pos) (tE G W (evGa true p (own.map (·.2)) fi ft fe)) := PE.weak (pe_anyG h0 hg hm hb he) fun _ _ _ h => tGe_of hP hp h
end
end
end Mi


set_option Elab.async false
set_option linter.all false
set_option maxRecDepth 100000
/-! MiD: comparisons of any length, as values and as tests. -/
namespace Mi
open PySem PySem.Spec PyProof.Rows L2
section
variable {G : Gx} {W : WX} {X : Cx}
/-- what stands behind the left side -/
structure PCh (G : Gx) (W : WX) (X : Cx) (ops : List CmpOp) (rs : List (Sem Value)) (f : D → Ev → Store → Res D) : Prop where
  val : ∀ (pos : Pos) (pins : List (Addr × Obj)) (s : Shared) (σ : L2.St) (H : Hp) (a : D) (v : V) (u : Value) (env : Ev) (M : Store) (ad : Adr) (Q : VK), Inv X pins σ H s → RelV v u → Rep G ad H M a v → RelE G ad H M env σ → RelM G ad H M →
    PostR G (fun c d H' => W c d σ H') (relV G) ad H M (f a env M) Q → wpAny (model X.prog X.w) X.A (compareChain pos u ops rs) (EP X pins σ Q) X.xe s
  tst : ∀ (pos : Pos) (pins : List (Addr × Obj)) (s : Shared) (σ : L2.St) (H : Hp) (a : D) (v : V) (u : Value) (env : Ev) (M : Store) (ad : Adr) (Q : Bool → Hp → Prop), Inv X pins σ H s → RelV v u → Rep G ad H M a v → RelE G ad H M env σ → RelM G ad H M →
    PostR G (fun c d H' => W c d σ H') relB ad H M ((f a env M).bind fun d M1 => Res.of (trD M1 d) M1) Q → wpAny (model X.prog X.w) X.A (testChain pos u ops rs) (TP X pins σ Q) X.xe s
def chLast (g : Op2) (f2 : Ev → Store → Res D) : D → Ev → Store → Res D := fun a env M => (f2 env M).bind fun b M1 => g a b M1
def chLink (g : Op2) (f2 : Ev → Store → Res D) (rest : D → Ev → Store → Res D) : D → Ev → Store → Res D := fun a env M => (f2 env M).bind fun b M1 => (g a b M1).bind fun d M2 => (Res.of (trD M2 d) M2).bind fun k M3 => if k = true then rest b env M3 else .ok d M3
theorem Res.bind_assoc {α β γ : Type} (r : Res α) (f : α → Store → Res β) (g : β → Store → Res γ) : (r.bind f).bind g = r.bind fun a M => (f a M).bind g := by
  cases r <;> rfl
theorem tru_at {A : Around} {pins : List (Addr × Obj)} {σ : L2.St} {H : Hp} {s : Shared} {ad : Adr} {M : Store} {d : D} {v : V} {u : Value} {k : Bool} {Q : Bool → Hp → Prop} (hK : X.K = G.K) (I : Inv X pins σ H s) (rm : RelM G ad H M) (r : Rep G ad H M d v) (rv : RelV v u) (h : trD M d = some k) (q : Q k H) :
    wpAny (model X.prog X.w) X.A (truthy u) (TP X pins σ Q) X.xe s := tru_ok pins s σ H v u Q I rv ⟨k, by rw [hK]; exact trD_ok rm r h, q⟩
theorem pch_last {op : CmpOp} {b : Expr} {r : R2} {g : Op2} {f2 : Ev → Store → Res D} (hK : X.K = G.K) (ho : OpR X (compareOp op) r) (hs : Sem2 G g r) (hb : PE X b (tE G W f2)) : PCh G W X [op] [eval b X.env] (chLast g f2) where
  val := fun pos pins s σ H a v u env M ad Q I rv ra re rm q => by
    refine chain_last (thn (hb.run pins s σ H _ I (tE_bind re rm q)) fun u2 s1 ⟨y, H1, I1, r1, d, M1, ad1, e1, m1, ry, q1⟩ => ?_)
    exact ho pins s1 σ H1 v y u u2 Q I1 rv r1 (hs _ ad1 H1 M1 a d v y Q m1 (Rep.ext e1.toExt0 rm a v ra) ry q1)
  tst := fun pos pins s σ H a v u env M ad Q I rv ra re rm q => by
    unfold chLast at q
    rw [Res.bind_assoc] at q
    refine test_last (thn (hb.run pins s σ H _ I (tE_bind re rm q)) fun u2 s1 ⟨y, H1, I1, r1, d, M1, ad1, e1, m1, ry, q1⟩ => ?_)
    refine thn (ho pins s1 σ H1 v y u u2 _ I1 rv r1 (hs _ ad1 H1 M1 a d v y _ m1 (Rep.ext e1.toExt0 rm a v ra) ry (PostR.bind (rel := relV G) q1))) fun u3 s2 ⟨z, H2, I2, r2, dz, M2, ad2, e2, m2, rz, q2⟩ => ?_
    obtain ⟨k, hk, q3⟩ := of_post q2
    exact tru_at (A := X.A) hK I2 m2 rz r2 hk (PostR.ret q3 m2 rfl)
theorem pch_link {op op' : CmpOp} {ops : List CmpOp} {b : Expr} {r' : Sem Value} {rs : List (Sem Value)} {r : R2} {g : Op2} {f2 : Ev → Store → Res D} {rest : D → Ev → Store → Res D} (hK : X.K = G.K) (ho : OpR X (compareOp op) r) (hs : Sem2 G g r) (hb : PE X b (tE G W f2)) (hr : PCh G W X (op' :: ops) (r' :: rs) rest) :
    PCh G W X (op :: op' :: ops) (eval b X.env :: r' :: rs) (chLink g f2 rest) where
  val := fun pos pins s σ H a v u env M ad Q I rv ra re rm q => by
    refine chain_link (thn (hb.run pins s σ H _ I (tE_bind re rm q)) fun u2 s1 ⟨y, H1, I1, r1, d, M1, ad1, e1, m1, ry, q1⟩ => ?_)
    refine thn (ho pins s1 σ H1 v y u u2 _ I1 rv r1 (hs _ ad1 H1 M1 a d v y _ m1 (Rep.ext e1.toExt0 rm a v ra) ry (PostR.bind (rel := relV G) q1))) fun u3 s2 ⟨z, H2, I2, r2, dz, M2, ad2, e2, m2, rz, q2⟩ => ?_
    cases hk : trD M2 dz with
    | none => rw [hk] at q2; exact q2.elim
    | some k =>
      rw [hk] at q2
      refine thn (tru_at (A := X.A) (Q := fun t H3 => t = k ∧ H3 = H2) hK I2 m2 rz r2 hk ⟨rfl, rfl⟩) fun t s3 ⟨H3, I3, e5, e6⟩ => ?_
      subst e5 e6
      have q4 : PostR G (fun c d H' => W c d σ H') (relV G) ad2 H3 M2 (if t = true then rest d env M2 else .ok dz M2) Q := q2
      cases t with
      | false =>
        rw [if_neg (by simp)] at q4 ⊢
        exact ⟨z, H3, I3, r2, PostR.ret q4 m2 rz⟩
      | true =>
        rw [if_pos rfl] at q4 ⊢
        exact hr.val pos pins s3 σ H3 d y u2 env M2 ad2 Q I3 r1 (Rep.ext e2.toExt0 m1 d y ry) ((re.ext e1.toExt0 rm).ext e2.toExt0 m1) m2 q4
  tst := fun pos pins s σ H a v u env M ad Q I rv ra re rm q => by
    unfold chLink at q
    rw [Res.bind_assoc] at q
    refine test_link (thn (hb.run pins s σ H _ I (tE_bind re rm q)) fun u2 s1 ⟨y, H1, I1, r1, d, M1, ad1, e1, m1, ry, q1⟩ => ?_)
    rw [Res.bind_assoc] at q1
    refine thn (ho pins s1 σ H1 v y u u2 _ I1 rv r1 (hs _ ad1 H1 M1 a d v y _ m1 (Rep.ext e1.toExt0 rm a v ra) ry (PostR.bind (rel := relV G) q1))) fun u3 s2 ⟨z, H2, I2, r2, dz, M2, ad2, e2, m2, rz, q2⟩ => ?_
    rw [Res.bind_assoc] at q2
    cases hk : trD M2 dz with
    | none => rw [hk] at q2; exact q2.elim
    | some k =>
      rw [hk] at q2
      refine thn (tru_at (A := X.A) (Q := fun t H3 => t = k ∧ H3 = H2) hK I2 m2 rz r2 hk ⟨rfl, rfl⟩) fun t s3 ⟨H3, I3, e5, e6⟩ => ?_
      subst e5 e6
      have q4 : PostR G (fun c d H' => W c d σ H') relB ad2 H3 M2 ((if t = true then rest d env M2 else .ok dz M2).bind fun d M1 => Res.of (trD M1 d) M1) Q := q2
      cases t with
      | false =>
        rw [if_neg (by simp)] at q4 ⊢
        simp only [Res.bind, hk, Res.of] at q4
        exact ⟨H3, I3, PostR.ret q4 m2 rfl⟩
      | true =>
        rw [if_pos rfl] at q4 ⊢
        exact hr.tst pos pins s3 σ H3 d y u2 env M2 ad2 Q I3 r1 (Rep.ext e2.toExt0 m1 d y ry) ((re.ext e1.toExt0 rm).ext e2.toExt0 m1) m2 q4
/-- a chain as a value, as a test -/
def evCh (f1 : Ev → Store → Res D) (ch : D → Ev → Store → Res D) : Ev → Store → Res D := fun env M => (f1 env M).bind fun a M1 => ch a env M1
theorem se_chain {a : Expr} {op op' : CmpOp} {ops : List CmpOp} {b b' : Expr} {es : List Expr} {pos : Pos} {f1 : Ev → Store → Res D} {ch : D → Ev → Store → Res D} (ha : PE X a (tE G W f1)) (hc : PCh G W X (op :: op' :: ops) (eval b X.env :: eval b' X.env :: evalEach es X.env) ch) (hm : lastMarks (op :: op' :: ops) (b :: b' :: es) = false) :
    PE X (.Compare a (op :: op' :: ops) (b :: b' :: es) pos) (tE G W (evCh f1 ch)) := ⟨fun pins s σ H Q I h => by
  obtain ⟨env, M, ad, re, rm, q⟩ := h
  exact Compare_chain (thn (ha.run pins s σ H _ I (tE_bind re rm q)) fun u s1 ⟨x, H1, I1, r1, d, M1, ad1, e1, m1, ry, q1⟩ => hc.val pos pins s1 σ H1 d x u env M1 ad1 Q I1 r1 ry (re.ext e1.toExt0 rm) m1 q1) hm⟩
theorem st_chain {a : Expr} {op op' : CmpOp} {ops : List CmpOp} {b b' : Expr} {es : List Expr} {pos : Pos} {f1 : Ev → Store → Res D} {ch : D → Ev → Store → Res D} (ha : PE X a (tE G W f1)) (hc : PCh G W X (op :: op' :: ops) (eval b X.env :: eval b' X.env :: evalEach es X.env) ch) (hm : lastMarks (op :: op' :: ops) (b :: b' :: es) = false) :
    PT X (.Compare a (op :: op' :: ops) (b :: b' :: es) pos) (tT G W (evTr (evCh f1 ch))) := ⟨fun pins s σ H Q I h => by
  obtain ⟨env, M, ad, re, rm, q⟩ := h
  unfold evTr evCh at q
  rw [Res.bind_assoc] at q
  exact isTrue_chain (thn (ha.run pins s σ H _ I (tE_bind re rm q)) fun u s1 ⟨x, H1, I1, r1, d, M1, ad1, e1, m1, ry, q1⟩ => hc.tst pos pins s1 σ H1 d x u env M1 ad1 Q I1 r1 ry (re.ext e1.toExt0 rm) m1 q1) hm⟩
/-- one comparison as a test -/
theorem st_cmp {op : CmpOp} {a b : Expr} {pos : Pos} {g : Op2} {r : R2} {f1 f2 : Ev → Store → Res D} (hK : X.K = G.K) (ho : OpR X (compareOp op) r) (hs : Sem2 G g r) (ha : PE X a (tE G W f1)) (hb : PE X b (tE G W f2)) (hm : behindInMarks op b = false) : PT X (.Compare a [op] [b] pos) (tT G W (evTr (ev2 g f1 f2))) := ⟨fun pins s σ H Q I h => by
  obtain ⟨env, M, ad, re, rm, q⟩ := h
  unfold evTr ev2 at q
  rw [Res.bind_assoc] at q
  show wpAny _ _ (do testChain pos (← eval a X.env) [op] (markedEach [op] [b] (evalEach [b] X.env))) _ _ s
  have e : markedEach [op] [b] (evalEach [b] X.env) = [eval b X.env] := PyProof.Rows.markedEach_of_false [op] [b] _ (by simpa [lastMarks] using hm)
  rw [e]
  exact wpAny_bind (thn (ha.run pins s σ H _ I (tE_bind re rm q)) fun u s1 ⟨x, H1, I1, r1, d, M1, ad1, e1, m1, ry, q1⟩ => (pch_last hK ho hs hb).tst pos pins s1 σ H1 d x u env M1 ad1 Q I1 r1 ry (re.ext e1.toExt0 rm) m1 q1)⟩
end
end Mi

set_option Elab.async false
set_option linter.all false
set_option maxRecDepth 100000
/-! MiE: short words for a text that is written by a script: names, constants, own defs, looks at scopes. -/
namespace Mi
open PySem PySem.Spec PyProof.Rows L2
def visB (sc : Scope) (x : Str) : Bool := match sc.names.lookup x with
  | some .local => true
  | some .cell => true
  | some .free => true
  | _ => false
theorem vis_by {sc : Scope} {x : Str} (h : visB sc x = true) : Vis sc x := by
  unfold visB at h
  split at h
  · exact .inl ‹_›
  · exact .inr (.inl ‹_›)
  · exact .inr (.inr ‹_›)
  · cases h
def locB (sc : Scope) (x : Str) : Bool := match sc.names.lookup x with
  | some .local => true
  | some .cell => true
  | _ => false
theorem loc_by {sc : Scope} {x : Str} (h : locB sc x = true) : Loc sc x := by
  unfold locB at h
  split at h
  · exact .inl ‹_›
  · exact .inr ‹_›
  · cases h
/-- a name may be stored: the def's own, a comprehension's cell, or a plain local -/
def stoB (X : Cx) (x : Str) : Bool := X.fn x || (match X.env.scope.names.lookup x with | some .local => true | _ => false)
theorem sto_by {X : Cx} {x : Str} (h : stoB X x = true) : X.fn x = true ∨ X.env.scope.names.lookup x = some .local := by
  unfold stoB at h
  rw [Bool.or_eq_true] at h
  rcases h with h | h
  · exact .inl h
  · refine .inr ?_
    split at h
    · assumption
    · cases h
def genC (N : List Str) (sc scope : Scope) (own : List (Str × Nat)) : Bool :=
  (match scope.kind with | .function => true | _ => false) && !scope.isCoroutine && decide (scope.names.lookup (".0" : Str) = some NameKind.local) && (own.all fun p => decide (N[p.2]? = some p.1)) &&
    (scope.names.all fun y => match y.2 with
      | .free => (match sc.names.lookup y.1 with | some .cell => true | some .free => true | _ => false)
      | .local => decide (y.1 ∈ own.map (·.1)) || decide (y.1 ∉ N)
      | .cell => false
      | _ => true)
theorem genOk_by {N : List Str} {sc scope : Scope} {own : List (Str × Nat)} (h : genC N sc scope own = true) : GenOk N sc scope own := by
  unfold genC at h
  simp only [Bool.and_eq_true, List.all_eq_true, decide_eq_true_eq, Bool.not_eq_true'] at h
  obtain ⟨⟨⟨⟨h1, h2⟩, h3⟩, h4⟩, h5⟩ := h
  refine ⟨?_, h2, h3, h4, fun y hy e => ?_, fun y hy e => ?_, fun y hy e => ?_⟩
  · split at h1
    · assumption
    · cases h1
  · have q := h5 y hy
    rw [e] at q; cases q
  · have q := h5 y hy
    rw [e] at q
    simp only at q
    split at q
    · exact .inl ‹_›
    · exact .inr ‹_›
    · cases q
  · have q := h5 y hy
    rw [e] at q
    simp only [Bool.or_eq_true, decide_eq_true_eq] at q
    exact q
section
variable {G : Gx} {W : WX} {X : Cx} {pos : Pos}
/-! ### names, constants -/
theorem v_ (i : Nat) {x : Str} (hN : X.N[i]? = some x) (hv : visB X.env.scope x = true) (hd : (x == ("__debug__" : Str)) = false) (hcd : (x == ("__classdict__" : Str)) = false) : PE X (.Name x pos) (tE G W (evVar i)) := se_var hN (vis_by hv) hd hcd
theorem k_int {i : Int} {j : Nat} : PE X (.Constant (.int i) j pos) (tE G W (evC (.int i))) := se_const pe_int fun ad H M => by simp [Rep]
theorem k_bl {b : Bool} {j : Nat} : PE X (.Constant (.bool b) j pos) (tE G W (evC (.bl b))) := se_const pe_bl fun ad H M => by simp [Rep]
theorem k_non {j : Nat} : PE X (.Constant .none j pos) (tE G W (evC .non)) := se_const pe_non fun ad H M => by simp [Rep]
theorem k_str {x : Str} {j : Nat} : PE X (.Constant (.str x) j pos) (tE G W (evC (.str x))) := se_const pe_str fun ad H M => by simp [Rep]
/-- a module's whole number -/
theorem g_int {x : Str} {i : Int} {t : Tok} (hg : Gl X x) (hm : X.mg x = some (.int i t)) (hd : (x == ("__debug__" : Str)) = false) : PE X (.Name x pos) (tE G W (evC (.int i))) := se_const (pe_glob (v := .int i) hg hm ⟨t, rfl⟩ hd) fun ad H M => by simp [Rep]
/-- a built-in type -/
theorem g_ty {x : Str} {T : String} (hg : Gl X x) (hm : X.mg x = none) (hv : bootBuiltins x = some (.type T)) (hn : x ≠ "__name__") (hd : (x == ("__debug__" : Str)) = false) : PE X (.Name x pos) (tE G W (evC (.ty T))) := se_const (pe_bltn (v := .ty T) hg hm hv rfl hn hd) fun ad H M => by simp [Rep]
def evNeg (f : Ev → Store → Res D) : Ev → Store → Res D := fun env M => (f env M).bind fun d M => match d with
  | .int i => .ok (.int (-i)) M
  | _ => .stuck
theorem se_neg {a : Expr} {f : Ev → Store → Res D} (ha : PE X a (tE G W f)) : PE X (.UnaryOp .USub a pos) (tE G W (evNeg f)) :=
  PE.weak (pe_un un_neg ha) fun σ H Q ⟨env, M, ad, re, rm, q⟩ => by
    refine tE.imp (tE_bind re rm q) fun x H1 ⟨d, M1, ad1, e1, m1, r1, q1⟩ => ?_
    cases d with
    | int i => exact ⟨i, by simpa [Rep] using r1, PostR.ret q1 m1 (by simp [relV, Rep])⟩
    | _ => exact q1.elim
/-- {} -/
theorem se_dct0 : PE X (.Dict [] [] pos) (tE G W (evC .dct0)) :=
  PE.weak pe_dnewK fun σ H Q ⟨env, M, ad, re, rm, q⟩ => fun p hp => by
    refine q ad _ _ (Ext.laid hp rm) (RelM.laid hp rm) ?_
    simp only [relV, Rep]
    exact ⟨p, rfl, upd_same, notAl_new hp rm⟩
/-- list(range(n)), as a list that never changes, and in the store -/
def rgD (n : Int) : List D := (List.range (n - 0).toNat).map fun i => D.int (0 + (i : Nat))
def evLR (f : Ev → Store → Res D) : Ev → Store → Res D := fun env M => (f env M).bind fun d M => match d with
  | .int n => if 0 ≤ n ∧ n ≤ 16777216 then .ok (.lst (rgD n)) M else .stuck
  | _ => .stuck
def evLRN (f : Ev → Store → Res D) : Ev → Store → Res D := fun env M => (f env M).bind fun d M => match d with
  | .int n => if 0 ≤ n ∧ n ≤ 16777216 then .ok (.loc M.length) (M ++ [some (.lst (rgD n))]) else .stuck
  | _ => .stuck
theorem reps_rg {ad : Adr} {H : Hp} {M : Store} : ∀ (l : List Nat), Reps G ad H M (l.map fun i => D.int (0 + (i : Nat))) (l.map fun i => V.int (0 + (i : Nat)))
  | [] => by simp [Reps]
  | i :: l => by simp only [List.map_cons, Reps]; exact ⟨_, _, rfl, by simp [Rep], reps_rg l⟩
theorem pure_rg : ∀ (l : List Nat), pureDs (l.map fun i => D.int (0 + (i : Nat))) = true
  | [] => rfl
  | i :: l => by simp only [List.map_cons, pureDs, pureD, pure_rg l]; rfl
theorem se_LR {a : Expr} {p p2 pos2 : Pos} {f : Ev → Store → Res D} (hc : X.calm = true) (hg : Gl X "list") (hm : X.mg "list" = none) (hg2 : Gl X "range") (hm2 : X.mg "range" = none) (ha : PE X a (tE G W f)) (na : starEach [a] X.env = (false, eval a X.env) :: starEach [] X.env)
    (na2 : starEach [.Call (.Name "range" p2) [a] [] pos2] X.env = (false, eval (.Call (.Name "range" p2) [a] [] pos2) X.env) :: starEach [] X.env) : PE X (.Call (.Name "list" p) [.Call (.Name "range" p2) [a] [] pos2] [] pos) (tE G W (evLR f)) :=
  PE.weak (pe_listRg hc hg hm (prg_1 hg2 hm2 ha na) na2) fun σ H Q ⟨env, M, ad, re, rm, q⟩ => by
    refine tE.imp (tE_bind re rm q) fun x H1 ⟨d, M1, ad1, e1, m1, r1, q1⟩ => ?_
    cases d with
    | int n =>
      obtain ⟨⟨h1, h2⟩, q2⟩ := post_if q1
      exact ⟨n, by simpa [Rep] using r1, RgOk.of_le (by omega) h2 (by omega) h1, end_lst m1 (reps_rg _) q2⟩
    | _ => exact q1.elim
theorem se_LRN {a : Expr} {p p2 pos2 : Pos} {f : Ev → Store → Res D} (hc : X.calm = true) (hg : Gl X "list") (hm : X.mg "list" = none) (hg2 : Gl X "range") (hm2 : X.mg "range" = none) (ha : PE X a (tE G W f)) (na : starEach [a] X.env = (false, eval a X.env) :: starEach [] X.env)
    (na2 : starEach [.Call (.Name "range" p2) [a] [] pos2] X.env = (false, eval (.Call (.Name "range" p2) [a] [] pos2) X.env) :: starEach [] X.env) : PE X (.Call (.Name "list" p) [.Call (.Name "range" p2) [a] [] pos2] [] pos) (tE G W (evLRN f)) :=
  PE.weak (pe_listRg hc hg hm (prg_1 hg2 hm2 ha na) na2) fun σ H Q ⟨env, M, ad, re, rm, q⟩ => by
    refine tE.imp (tE_bind re rm q) fun x H1 ⟨d, M1, ad1, e1, m1, r1, q1⟩ => ?_
    cases d with
    | int n =>
      obtain ⟨⟨h1, h2⟩, q2⟩ := post_if q1
      exact ⟨n, by simpa [Rep] using r1, RgOk.of_le (by omega) h2 (by omega) h1, end_new (pure_rg _) m1 (reps_rg _) q2⟩
    | _ => exact q1.elim
end
/-! ### own defs -/
/-- a def of the text, its code object known -/
structure DefC (K : PySem.W.Frag) (mg : Str → Option Value) (x : Str) (st : Stmt) (f : Addr) (fd : FuncData) (cdv : Value) : Prop where
  ex : ∃ (oc : Value) (od : Option Addr) (kV doc pm : Value) (an : Option Addr) (ct : Value) (osl : Array (Option Value)),
    fd = PySem.W.fnOf x x (defArgs st) (defBody st) (defScope st) .none kV doc pm an cdv ct ∧ K.lookup f = some ⟨oc, od, .func fd, osl⟩
  code : PySem.W.codeIn K cdv x = true
  kp : PySem.W.keepIn K (.ref f) = true
  mgf : mg x = some (.ref f)
section
variable {P : Program} {w : World} {G : Gx} {mg : Str → Option Value} {base : Heap}
/-- a def that may be called by its name: what it is on trees -/
structure Own (P : Program) (w : World) (G : Gx) (mg : Str → Option Value) (base : Heap) (x : Str) (k n : Nat) (fn : FD) : Prop where
  ex : ∃ (f : Addr) (fd : FuncData) (ps : List Str), FnOk P w G.K mg base (L2N.CX P w) k f fd ps (spF G n fn) ∧ mg x = some (.ref f) ∧ PySem.W.keepIn G.K (.ref f) = true ∧ Binds G.K fd ps []
theorem fnC_ok {x : Str} {st : Stmt} {f : Addr} {fd : FuncData} {cdv : Value} {N ps : List Str} {k n : Nat} {keep : Bool} {body : Ev → Store → Out} (F : DefC G.K mg x st f fd cdv) (S : C8.scC N ps (defScope st) = true) (hn : N.length = n) (hps : ps.length ≤ N.length)
    (hbody : ∀ (A : Around) (outer : List Env) (s : Shared) (H : Hp) (E : XK), Room k (A.deeper (envOfC x (defScope st) s.heap.objs.size f cdv)) →
      PSs (cxOf (L2N.CX P w) P w G.K mg base N x (defScope st) f cdv A outer s H E) (defBody st) (tS G (fun c d _ H' => E c d H') body)) :
    FnOk P w G.K mg base (L2N.CX P w) (k + 1) f fd ps (spF G ps.length (runF n keep body)) := by
  obtain ⟨oc, od, kV, doc, pm, an, ct, osl, rfl, lk⟩ := F.ex
  refine fn_of lk F.code (C8.fnScope_by S) (fun vs H Q E h => h.1) (fun A outer s H vs Q E hr h => ?_)
  obtain ⟨hl, ds, M, ad, r, rm, q⟩ := h
  exact ⟨_, hbody A outer s H E hr, ⟨_, M, ad, relE_start hn r, rm, runF_ends rm q⟩⟩
/-- how the arguments bind -/
abbrev BindF (x : Str) (st : Stmt) (ps : List Str) : Prop := ∀ (kV doc pm : Value) (an : Option Addr) (cdv ct : Value) (us : List Value), us.length = ps.length → bindArgs (PySem.W.fnOf x x (defArgs st) (defBody st) (defScope st) .none kV doc pm an cdv ct) ⟨us, []⟩ = pure (ps.zip us)
theorem own_of {x : Str} {st : Stmt} {f : Addr} {fd : FuncData} {cdv : Value} {ps : List Str} {k : Nat} {fn : FD} (F : DefC G.K mg x st f fd cdv) (h : FnOk P w G.K mg base (L2N.CX P w) k f fd ps (spF G ps.length fn)) (hb : BindF x st ps) : Own P w G mg base x k ps.length fn := by
  have h' := h
  obtain ⟨oc, od, kV, doc, pm, an, ct, osl, rfl, lk⟩ := F.ex
  exact ⟨f, _, ps, h', F.mgf, F.kp, .all (hb kV doc pm an cdv ct)⟩
/-- by the head's facts -/
theorem defC_of {K : PySem.W.Frag} {x : Str} {st : Stmt} {fd : FuncData} (F : FunD K x x (defArgs st) (defBody st) (defScope st) [] [] (He.ga K x) fd) (m : mg x = some (.ref (He.ga K x))) : DefC K mg x st (He.ga K x) fd (.ref (He.codeOf K (x, none))) := by
  obtain ⟨oc, od, dV, kV, doc, pm, an, cdv, ct, osl, e, lk, hcd, hD, hK⟩ := F.ex
  have hd : dV = .none := by
    rcases hD with ⟨_, h⟩ | ⟨h, _⟩
    · exact h
    · exact absurd rfl h
  subst hd
  obtain ⟨c, rfl⟩ := He.codeIn_ref hcd
  have ec : He.codeOf K (x, none) = c := by
    have e0 : He.fAd K (x, none) = He.ga K x := rfl
    unfold He.codeOf
    rw [e0, lk, e]
  rw [ec]
  exact ⟨⟨oc, od, kV, doc, pm, an, ct, osl, e, lk⟩, hcd, F.kp, m⟩
theorem tabB_of {K : PySem.W.Frag} {c T : Addr} {cs : List (Addr × Addr)} (h : ∀ p ∈ cs, LamX.TabB base mg p.1 p.2) (hm : (c, T) ∈ cs) : LamX.TabB base mg c T := h (c, T) hm
/-- the law's promise from what the law is on trees -/
theorem sp_law {K : PySem.W.Frag} {cs : List (Addr × Addr)} {fn : FD} {H : Hp} {a : Addr} {ns : List Int} (hG : G.K = K) (hT : G.tabs = cs.map (·.2)) (hX : G.xds = []) (h1 : ∀ p ∈ cs, H p.2 = some (.tbl #[])) (hS : SqL K H a (ns.map V.int)) (h : ∃ M, fn [.scr (ns.map D.int)] [] = .ok (.bl true) M) :
    spF G 1 fn [.ref a] H (fun v _ => v = .bl true) fun _ _ _ => False := by
  obtain ⟨M, hM⟩ := h
  have nAl : ∀ b, ¬ Al ⟨fun _ => 0, fun _ => False⟩ [] b := fun b ⟨l, o, e, _⟩ => by simp at e
  have rints : ∀ l : List Int, Reps G ⟨fun _ => 0, fun _ => False⟩ H [] (l.map D.int) (l.map V.int) := fun l => by
    induction l with
    | nil => simp [Reps]
    | cons i l ih => simp only [List.map_cons, Reps]; exact ⟨_, _, rfl, by simp [Rep], ih⟩
  refine ⟨rfl, [.scr (ns.map D.int)], [], ⟨fun _ => 0, fun _ => False⟩, ?_, ?_, ?_⟩
  · simp only [Reps, Rep]
    refine ⟨.ref a, [], rfl, ⟨a, ns.map V.int, rfl, ?_, rints ns⟩, rfl⟩
    rcases hS with hS | hS
    · exact .inl ⟨hS, nAl a, fun z => z⟩
    · exact .inr (by rw [hG]; exact hS)
  · exact { pur := fun l o e => by simp at e
            ok := fun l o e => by simp at e
            inj := fun l l' o o' e => by simp at e
            tab := fun T hT' => by
              rw [hT] at hT'
              obtain ⟨p, hp, rfl⟩ := List.mem_map.mp hT'
              exact ⟨#[], h1 p hp, trivial⟩
            xd := fun r hr => by rw [hX] at hr; cases hr
            rsv := fun b hb => hb.elim }
  · rw [hM]
    intro ad' H' v e m r
    simpa [relV, Rep] using r
theorem se_own {W : WX} {X : Cx} {k j n : Nat} {x : Str} {p pos : Pos} {e : Expr} {es : List Expr} {fn : FD} {gs : Ev → Store → Res (List D)} (hK : X.K = G.K) (h : Own X.prog X.w G X.mg X.base x k n fn) (hr : Room j X.A) (hk : k ≤ j) (hg : Gl X x) (tk : L2N.Takes X W) (hn : n = (e :: es).length)
    (hlen : ∀ env M ds M', gs env M = .ok ds M' → ds.length = (e :: es).length)
    (ha : PA X (e :: es) (tA G W gs)) (hdb : (x == ("__debug__" : Str)) = false) (he : starEach (e :: es) X.env = (false, eval e X.env) :: starEach es X.env) (hpl : (backTo pos (starEach es X.env)).any (·.1) = false) :
    PE X (.Call (.Name x p) (e :: es) [] pos) (tE G W (evCall fn gs)) := by
  obtain ⟨f, fd, ps, F, hm, hkp, hb⟩ := h.ex
  rw [← hK] at F hkp hb
  exact se_call F (hr.mono hk) hg hm hkp hb tk hn hlen ha hdb he hpl
theorem takesD {K : PySem.W.Frag} {N : List Str} {qual : Str} {scope : Scope} {f : Addr} {cd : Value} {A : Around} {outer : List Env} {s : Shared} {H : Hp} {E : XK} : L2N.Takes (cxOf (L2N.CX P w) P w K mg base N qual scope f cd A outer s H E) (fun c d _ H' => E c d H')  := L2N.takes_of rfl rfl rfl rfl
theorem tk0 {X : Cx} : L2N.Takes X (fun _ _ _ _ => False) := fun _ _ ⟨_, _, _, _, _, _, _, _, _, _, _, _, _, _, _, _, z⟩ => z.elim
end
end Mi


set_option Elab.async false
set_option linter.all false
set_option maxRecDepth 100000
/-! MiF: what the script wants besides. -/
namespace HT
open PySem PySem.Spec PyProof.Rows
section
variable {prog : Program} {w : World} {A : Around} {E : Value → Shared → Prop} {s : Shared}
theorem adjust_rev (n : Nat) : Builtin.Slice.sliceAdjust none none (-1) (n : Int) = ((n : Int) - 1, -1) := by
  unfold Builtin.Slice.sliceAdjust
  simp
theorem places_rev (n : Nat) : Builtin.Slice.slicePlaces ((n : Int) - 1) (-1) (-1) = n := by
  unfold Builtin.Slice.slicePlaces
  have h1 : ¬ ((-1 : Int) > 0) := by decide
  simp only [h1, if_false]
  by_cases h : (n : Int) - 1 > -1
  · simp only [h, if_true]
    have e : -(-1 : Int) = 1 := by decide
    rw [e, Int.ediv_one]
    omega
  · simp only [h, if_false]
    omega
theorem sliceApplied_rev {sl : Addr} {vl vu vs : Value} {n : Nat} {Q : Int × Int × Nat → Shared → Prop} (hs : s.heap.IsSliceOf sl vl vu vs) (pl : IsPart vl none) (pu : IsPart vu none) (ps : IsPart vs (some (-1)))
    (h : Q ((n : Int) - 1, -1, n) s) : wpAny (model prog w) A (Builtin.Slice.sliceApplied (.ref sl) (pure (n : Int))) Q E s := by
  obtain ⟨os, hos, hcs, hds⟩ := id hs
  unfold Builtin.Slice.sliceApplied Builtin.Slice.sliceFields
  refine wpAny_bind (wpAny_bind (wpAny_field hos hds (x := vl) rfl (wpAny_bind (wpAny_field hos hds (x := vu) rfl (wpAny_bind (wpAny_field hos hds (x := vs) rfl (wpAny_pure ?_)))))))
  refine wpAny_bind (slicePart_ ps ?_)
  show wpAny _ _ (if ((-1 : Int) == 0) = true then _ else _) _ _ s
  rw [if_neg (by decide)]
  refine wpAny_bind (slicePart_ pl (wpAny_bind (slicePart_ pu (wpAny_bind (wpAny_pure ?_)))))
  show wpAny _ _ (match Builtin.Slice.sliceAdjust none none (-1) (n : Int) with | (lo, hi) => pure (lo, (-1 : Int), Builtin.Slice.slicePlaces lo hi (-1))) _ _ s
  rw [adjust_rev]
  show wpAny _ _ (pure ((n : Int) - 1, (-1 : Int), Builtin.Slice.slicePlaces ((n : Int) - 1) (-1) (-1))) _ _ s
  rw [places_rev]
  exact wpAny_pure h
theorem pick_rev (xs : Array Value) : ((List.range xs.size).filterMap fun (k : Nat) => xs[(((xs.size : Nat) : Int) - 1 + (k : Int) * (-1)).toNat]?).toArray = xs.toList.reverse.toArray := by
  have e : (fun (k : Nat) => xs[(((xs.size : Nat) : Int) - 1 + (k : Int) * (-1)).toNat]?) = (fun i => xs[i]?) ∘ fun k => xs.size - 1 - k := by
    funext k
    have : (((xs.size : Nat) : Int) - 1 + (k : Int) * (-1)).toNat = xs.size - 1 - k := by omega
    simp only [Function.comp_def, this]
  rw [e, ← List.filterMap_map, PySem.W.krv_range, List.filterMap_reverse, PySem.W.krv_all]
/-- t[::-1] -/
theorem getItem_tuple_rev {t sl : Addr} {items : Array Value} {vl vu vs : Value} {Q : Value → Shared → Prop} (ht : IsTup s.heap t items) (hs : s.heap.IsSliceOf sl vl vu vs) (pl : IsPart vl none) (pu : IsPart vu none) (ps : IsPart vs (some (-1)))
    (h : Q (.ref s.heap.objs.size) { s with heap := s.heap.push { cls := .type "tuple", data := .seq items.toList.reverse.toArray } }) (hsz : items.size ≤ sizeLine) : wpAny (model prog w) A (getItem (.ref t) (.ref sl)) Q E s := by
  have htake : sizeOk (.seq items.toList.reverse.toArray) := by
    show items.toList.reverse.toArray.size ≤ sizeLine
    rw [List.size_toArray, List.length_reverse, Array.length_toList]
    exact hsz
  obtain ⟨os, hos, hcs, hds⟩ := id hs
  have hTs : s.TypeIs (.ref sl) "slice" := ⟨os, hos, hcs⟩
  unfold getItem
  try with_reducible refine wpAny_holding ?_
  first | refine wpAny_bind (wpAny_pure ?_) | skip
  refine wpAny_bind (wpAny_sequenceKey ht.typeIs (by decide) ?_)
  refine wpAny_bind (wpAny_callSpecial?_slot (name := Str.ofString "__getitem__") ht.typeIs PyProof.Rows.slot_tuple_getitem
    (wpAny_call_entry PyProof.Rows.slot_tuple_getitem ht.typeIs entry_tuple_getitem ?_ (args_tuple_getitem _ _)))
  show wpAny _ _ (Builtin.Tuple.tupleItemsOf (.ref t) >>= _) _ _ s
  refine wpAny_bind (tupleItemsOf_ ht ?_)
  refine wpAny_bind (wpAny_typeOf hTs ?_)
  rw [if_pos (by decide)]
  refine wpAny_bind (sliceApplied_rev hs pl pu ps ?_)
  have hno : ¬ ((((items.size : Int) - 1) == 0 && (-1 : Int) == 1 && items.size == items.size) = true) := by
    intro q
    rw [Bool.and_eq_true, Bool.and_eq_true] at q
    exact absurd q.1.2 (by decide)
  show wpAny _ _ (if (((items.size : Int) - 1) == 0 && (-1 : Int) == 1 && items.size == items.size) = true then _ else _) _ _ s
  rw [if_neg hno, pick_rev]
  first
    | exact wpAny_bind (m := Builtin.Tuple.tupleExact _) (wpAny_newObj_type (wpAny_pure ⟨_, rfl, wpAny_pure h⟩) htake)
    | exact wpAny_bind (m := Builtin.Tuple.tupleExact _) (wpAny_newObj_type (wpAny_bind (wpAny_pure (wpAny_pure ⟨_, rfl, wpAny_pure h⟩))) htake)
    | exact wpAny_bind (wpAny_bind (m := Builtin.Tuple.tupleExact _) (wpAny_newObj_type (wpAny_pure (wpAny_pure ⟨_, rfl, wpAny_pure h⟩)) htake))
    | exact wpAny_bind (wpAny_bind (m := Builtin.Tuple.tupleExact _) (wpAny_newObj_type (wpAny_pure ⟨_, rfl, wpAny_pure h⟩) htake))
end
end HT
namespace Mi
open PySem PySem.Spec PyProof.Rows L2
theorem _root_.L2.Room.u0 {k : Nat} {A : Around} (h : Room k A) : A.units < cLine := by have := h.un; omega
theorem _root_.L2.Room.u64 {k : Nat} {A : Around} (h : Room k A) : A.units + 64 < cLine := by have := h.un; omega
theorem _root_.L2.Room.u65 {k : Nat} {A : Around} (h : Room k A) : A.units + 65 < cLine := by have := h.un; omega
section
variable {G : Gx} {W : WX} {X : Cx} {pos : Pos}
theorem op_eqA (hu : X.A.units + 65 < cLine) : OpR X (compareOp .Eq) (rEqD X.K) := op_eqD (by omega)
theorem op_neA (hu : X.A.units + 65 < cLine) : OpR X (compareOp .NotEq) (rNeD X.K) := op_neD (by omega)
theorem call_lenA : CallR X (.builtin "len") (rLen X.K) := call_len
def evSSet (f : Ev → Store → Res D) : Ev → Store → Res D := fun env M => (f env M).bind fun d M1 => biSortSet [d] M1
/-- a[::-1] of a list, of a tuple -/
def evRevA (f : Ev → Store → Res D) : Ev → Store → Res D := fun env M => (f env M).bind fun a M => match a with
  | .tup xs => .ok (.tup xs.reverse) M
  | a => (Res.of (listOf M a) M).bind fun xs M => .ok (.lst xs.reverse) M
/-- of a tuple -/
def tRevT (K : PySem.W.Frag) (te : TE) : TE := fun σ H Q => te σ H fun x H1 => ∃ a xs, x = .ref a ∧ SqT K H1 a xs ∧ ∀ p, H1 p = none → Q (.ref p) (upd H1 p (.tup xs.reverse))
theorem pe_revT {e : Expr} {te : TE} {k : Nat} {p1 p2 p3 pos : Pos} (he : PE X e te) : PE X (.Subscript e (.Slice none none (some (.UnaryOp .USub (.Constant (.int 1) k p1) p2)) p3) pos) (tRevT X.K te) := by
  refine ⟨fun pins s σ H Q I h => ?_⟩
  refine Subscript_ (thn (he.run pins s σ H _ I h) fun v s1 ⟨x, H1, I1, r1, q1⟩ => ?_)
  obtain ⟨a, xs, ex, hx, q⟩ := q1
  subst ex
  cases r1
  have hst : PO X (some (.UnaryOp .USub (.Constant (.int 1) k p1) p2)) (tPart (tUn (rU fun i => .int (-i)) (tC (.int 1)))) := po_some (pe_un un_neg pe_int)
  refine wpAny_Slice (thn (po_none.run pins s1 σ H1 (fun o H2 => o = none ∧ H2 = H1) I1 ⟨rfl, rfl⟩) fun vl s2 ⟨l, H2, I2, pl, el, e2⟩ => ?_)
  subst el e2
  refine thn (po_none.run pins s2 σ H2 (fun o H3 => o = none ∧ H3 = H2) I2 ⟨rfl, rfl⟩) fun vu s3 ⟨u, H3, I3, pu, eu, e3⟩ => ?_
  subst eu e3
  refine thn (hst.run pins s3 σ H3 (fun o H4 => o = some (-1) ∧ H4 = H3) I3 ⟨1, rfl, -1, rfl, rfl, rfl⟩) fun vs s4 ⟨o, H4, I4, ps, eo, e4⟩ => ?_
  subst eo e4
  have I5 : Inv X pins σ H4 { s4 with heap := s4.heap.push { cls := .type "slice", data := .fields #[vl, vu, vs] } } := I4.kept (t' := s4.toks) fun b ob q => Heap.get?_push_of_some _ q
  obtain ⟨its, r, ht, hz⟩ := I5.tuple hx
  have hlen := r.length
  show wpAny (model X.prog X.w) X.A (subscriptTail e (.Slice none none (some (.UnaryOp .USub (.Constant (.int 1) k p1) p2)) p3) (.ref a) (.ref s4.heap.objs.size)) (EP X pins σ Q) X.xe { s4 with heap := s4.heap.push { cls := .type "slice", data := .fields #[vl, vu, vs] } }
  refine tail_any (ops := [.ref a, .ref s4.heap.objs.size]) ht.typeIs (PyProof.Rows.slot_tuple_getitem.lookup) ?_ (by with_unfolding_all rfl)
  refine HT.getItem_tuple_rev ht (Heap.IsSliceOf.new _ vl vu vs) pl pu ps ?_ (by rw [List.size_toArray]; omega)
  refine ⟨.ref _, _, I5.laid (t' := s4.toks) (o := .tup xs.reverse) (fun b ob q => Heap.get?_push_of_some _ q) (Nat.le_refl _) (show ObjOk X.prog X.w _ _ _ (.tup xs.reverse) from ⟨by rw [List.length_reverse]; omega, its.reverse, r.reverse, IsTup.new _ _⟩), rfl, q _ (I5.hok.fresh (Nat.le_refl _))⟩
theorem PE.or {e : Expr} {t t' : TE} (h : PE X e t) (h' : PE X e t') : PE X e (fun σ H Q => t σ H Q ∨ t' σ H Q) := ⟨fun pins s σ H Q I q => by
  rcases q with q | q
  · exact h.run pins s σ H Q I q
  · exact h'.run pins s σ H Q I q⟩
theorem se_revA {e : Expr} {k : Nat} {p1 p2 p3 pos : Pos} {f : Ev → Store → Res D} (hK : X.K = G.K) (ha : PE X e (tE G W f)) : PE X (.Subscript e (.Slice none none (some (.UnaryOp .USub (.Constant (.int 1) k p1) p2)) p3) pos) (tE G W (evRevA f)) := by
  refine PE.weak (PE.or (pe_revT ha) (pe_revL ha)) fun σ H Q ⟨env, M, ad, re, rm, q⟩ => ?_
  unfold evRevA at q
  have lst : ∀ d M1, f env M = .ok d M1 → PostR G (fun c d H' => W c d σ H') (relV G) ad H M ((Res.of (Mi.listOf M1 d) M1).bind fun xs M => .ok (.lst xs.reverse) M) Q → tRevL X.K (tE G W f) σ H Q := fun d M1 hf q => by
    refine ⟨env, M, ad, re, rm, ?_⟩
    rw [hf]
    intro ad' H' v e m r
    obtain ⟨xs, h1, q2⟩ := of_bind (PostR.mono q e)
    obtain ⟨p, vs, rfl, s1, s2⟩ := listOf_ok m r h1
    exact ⟨p, vs, rfl, SqL.of s1, end_lst m (Reps.reverse s2) q2⟩
  cases hf : f env M with
  | ok d M1 =>
    rw [hf] at q
    cases d with
    | tup xs =>
      refine .inl ⟨env, M, ad, re, rm, ?_⟩
      rw [hf]
      intro ad' H' v e m r
      simp only [relV, Rep] at r
      obtain ⟨a, vs, rfl, s1, s2⟩ := r
      exact ⟨a, vs, rfl, by rw [hK]; exact s1, end_tup m (Reps.reverse s2) (PostR.mono q e)⟩
    | _ => exact .inr (lst _ _ hf q)
  | exc c fs M1 =>
    rw [hf] at q
    refine .inl ⟨env, M, ad, re, rm, ?_⟩
    rw [hf]
    exact q
  | stuck => rw [hf] at q; exact q.elim
end
end Mi

set_option Elab.async false
set_option linter.all false
set_option maxRecDepth 100000
/-! MiG: equations by which what a def is on trees is reckoned. -/
namespace Mi
open PySem PySem.Spec PyProof.Rows L2
section
variable {α β : Type} {a : α} {M : Store} {env : Ev}
@[simp] theorem bind_ok {f : α → Store → Res β} : (Res.ok a M).bind f = f a M := (rfl)
@[simp] theorem bindN_ok {f : α → Store → Res β} : (Res.ok a M).bindN f = f a M := (rfl)
@[simp] theorem out_ok {f : α → Store → Out} : (Res.ok a M).out env f = f a M := (rfl)
@[simp] theorem then_nx {f : Ev → Store → Out} : (Out.nx env M).then f = f env M := (rfl)
@[simp] theorem then_ret {f : Ev → Store → Out} {d : D} : (Out.ret d M).then f = .ret d M := (rfl)
@[simp] theorem of_ok : Res.of (some a) M = .ok a M := (rfl)
@[simp] theorem add_int {i j : Int} : opAdd (.int i) (.int j) M = .ok (.int (i + j)) M := (rfl)
@[simp] theorem sub_int {i j : Int} : opSub (.int i) (.int j) M = .ok (.int (i - j)) M := by simp [opSub, opII, CT]
@[simp] theorem xor_int {i j : Int} : opXor (.int i) (.int j) M = .ok (.int (Builtin.bitXor i j)) M := by simp [opXor, opII, CT]
theorem mod_i {i j : Int} (h : 0 < j) : opMod (.int i) (.int j) M = .ok (.int (i % j)) M := by simp [opMod, opII, CPos, h]
theorem fdiv_i {i j : Int} (h : 0 < j) (h2 : j < 1073741824) : opFdiv (.int i) (.int j) M = .ok (.int (i / j)) M := by simp [opFdiv, opII, CDivB, h, h2]
theorem mul_i {i j : Int} (h : CMulB i j) : opMul (.int i) (.int j) M = .ok (.int (i * j)) M := by simp [opMul, h]
@[simp] theorem lt_int {i j : Int} : opLt (.int i) (.int j) M = .ok (.bl (decide (i < j))) M := (rfl)
@[simp] theorem le_int {i j : Int} : opLe (.int i) (.int j) M = .ok (.bl (decide (i ≤ j))) M := (rfl)
@[simp] theorem gt_int {i j : Int} : opGt (.int i) (.int j) M = .ok (.bl (decide (j < i))) M := (rfl)
@[simp] theorem ge_int {i j : Int} : opGe (.int i) (.int j) M = .ok (.bl (decide (j ≤ i))) M := (rfl)
theorem eqv_int {i j : Int} : PyData.eqv (.int i) (.int j) = decide (i = j) := by
  by_cases h : i = j <;> simp [PyData.eqv, h] <;> rfl
theorem shaped_int {i : Int} : SeqAt.shaped (.int i) = true := by unfold SeqAt.shaped; rfl
@[simp] theorem eq_int {i j : Int} : opEq (.int i) (.int j) M = .ok (.bl (decide (i = j))) M := by
  simp [opEq, eqDs, toPyM, toPy, shaped_int, eqv_int]
@[simp] theorem ne_int {i j : Int} : opNe (.int i) (.int j) M = .ok (.bl (!decide (i = j))) M := by
  simp [opNe, eqDs, toPyM, toPy, shaped_int, eqv_int]
@[simp] theorem ix_tup {xs : List D} {i : Int} : opIx (.tup xs) (.int i) M = (Res.of (L2.atI xs i) M).bind fun d M => .ok d M := (rfl)
@[simp] theorem ix_lst {xs : List D} {i : Int} : opIx (.lst xs) (.int i) M = (Res.of (L2.atI xs i) M).bind fun d M => .ok d M := (rfl)
@[simp] theorem ix_scr {xs : List D} {i : Int} : opIx (.scr xs) (.int i) M = (Res.of (L2.atI xs i) M).bind fun d M => .ok d M := (rfl)
@[simp] theorem tr_bl {b : Bool} : trD M (.bl b) = some b := (rfl)
@[simp] theorem tr_int {i : Int} : trD M (.int i) = some (i != 0) := (rfl)
theorem ix_loc {l : Nat} {xs : List D} {i : Int} (h : M[l]? = some (some (.lst xs))) : opIx (.loc l) (.int i) M = (Res.of (L2.atI xs i) M).bind fun d M => .ok d M := by
  simp [opIx, seqOf, Mi.listOf, h]
theorem setD_loc {l : Nat} {xs : List D} {i : Int} {d : D} (h : M[l]? = some (some (.lst xs))) : setD M (.loc l) (.int i) d = (L2.ixN xs.length i).bind fun j => if pureDs (xs.set j d) = true then some (M.set l (some (.lst (xs.set j d)))) else none := by
  simp [setD, h]
theorem lt_of_get {l : Nat} {x : Option Ob} (h : M[l]? = some x) : l < M.length := by
  rcases Nat.lt_or_ge l M.length with q | q
  · exact q
  · rw [List.getElem?_eq_none q] at h; cases h
theorem get_set {l : Nat} {x y : Option Ob} (h : M[l]? = some x) : (M.set l y)[l]? = some y := List.getElem?_set_self (lt_of_get h)
theorem get_set_ne {l l' : Nat} {x : Option Ob} (h : l ≠ l') : (M.set l x)[l']? = M[l']? := List.getElem?_set_ne h
section
variable {f g : Ev → Store → Out} {f1 f2 f3 : Ev → Store → Res D} {b1 b2 : Ev → Store → Res Bool} {gs : Ev → Store → Res (List D)} {op : Op2} {on : OpN} {i : Nat} {d x : D} {p : Pat} {fd : FD} {ch : D → Ev → Store → Res D}
@[simp] theorem sSeq_e : sSeq f g env M = (f env M).then g := (rfl)
@[simp] theorem sIf_e : sIf b1 f g env M = (b1 env M).out env fun k M => if k = true then f env M else g env M := (rfl)
@[simp] theorem sRet_e : sRet f1 env M = (f1 env M).out env fun d M => .ret d M := (rfl)
@[simp] theorem sSet_e : sSet i f1 env M = (f1 env M).out env fun d M => if i < env.length then .nx (env.set i (some d)) M else .stuck := (rfl)
@[simp] theorem sExp_e : sExp f1 env M = (f1 env M).out env fun _ M => .nx env M := (rfl)
@[simp] theorem sNop_e : sNop env M = .nx env M := (rfl)
@[simp] theorem sAsg_e : sAsg p f1 env M = (f1 env M).out env fun d M => match asgP M p d env with | some env' => .nx env' M | none => .stuck := (rfl)
@[simp] theorem sFor_e : sFor p gs f env M = (gs env M).out env fun xs M1 => forD p f xs env M1 := (rfl)
@[simp] theorem evTr_e : evTr f1 env M = (f1 env M).bind fun d M1 => Res.of (trD M1 d) M1 := (rfl)
@[simp] theorem evC_e : evC d env M = .ok d M := (rfl)
theorem evVar_e (h : env[i]? = some (some d)) : evVar i env M = .ok d M := by unfold evVar; rw [h]
@[simp] theorem ev2_e : ev2 op f1 f2 env M = (f1 env M).bind fun a M1 => (f2 env M1).bind fun b M2 => op a b M2 := (rfl)
@[simp] theorem evCall_e : evCall fd gs env M = (gs env M).bind fun ds M => fd ds M := (rfl)
@[simp] theorem evN_e : evN on gs env M = (gs env M).bind fun ds M => on ds M := (rfl)
@[simp] theorem evCons_e : evCons f1 gs env M = (f1 env M).bind fun d M1 => (gs env M1).bind fun ds M2 => .ok (d :: ds) M2 := (rfl)
@[simp] theorem evNil_e : evNil env M = .ok [] M := (rfl)
@[simp] theorem evTup_e : evTup gs env M = (gs env M).bind fun ds M1 => if ds.length ≤ sizeLine then .ok (.tup ds) M1 else .stuck := (rfl)
@[simp] theorem evLst_e : evLst gs env M = (gs env M).bind fun ds M1 => if ds.length ≤ sizeLine then .ok (.lst ds) M1 else .stuck := (rfl)
@[simp] theorem evNew_e : evNew gs env M = (gs env M).bind fun ds M1 => if ds.length ≤ sizeLine ∧ pureDs ds = true then .ok (.loc M1.length) (M1 ++ [some (.lst ds)]) else .stuck := (rfl)
@[simp] theorem evAnd_e : evAnd b1 b2 env M = (b1 env M).bind fun a M1 => if a = true then b2 env M1 else .ok false M1 := (rfl)
@[simp] theorem evOr_e : evOr b1 b2 env M = (b1 env M).bind fun a M1 => if a = true then .ok true M1 else b2 env M1 := (rfl)
@[simp] theorem evNot_e : evNot b1 env M = (b1 env M).bind fun a M1 => .ok (!a) M1 := (rfl)
@[simp] theorem evAndV_e : evAndV f1 f2 env M = (f1 env M).bind fun a M1 => (Res.of (trD M1 a) M1).bind fun k M2 => if k = true then f2 env M2 else .ok a M2 := (rfl)
@[simp] theorem evOrV_e : evOrV f1 f2 env M = (f1 env M).bind fun a M1 => (Res.of (trD M1 a) M1).bind fun k M2 => if k = true then .ok a M2 else f2 env M2 := (rfl)
@[simp] theorem evNotV_e : evNotV f1 env M = (f1 env M).bind fun a M1 => (Res.of (trD M1 a) M1).bind fun k M2 => .ok (.bl (!k)) M2 := (rfl)
@[simp] theorem evCh_e : evCh f1 ch env M = (f1 env M).bind fun a M1 => ch a env M1 := (rfl)
@[simp] theorem chLast_e : chLast op f2 x env M = (f2 env M).bind fun b M1 => op x b M1 := (rfl)
@[simp] theorem chLink_e : chLink op f2 ch x env M = (f2 env M).bind fun b M1 => (op x b M1).bind fun d M2 => (Res.of (trD M2 d) M2).bind fun k M3 => if k = true then ch b env M3 else .ok d M3 := (rfl)
@[simp] theorem evLc_e {own : List Nat} {t : Ev → Store → Res Bool} : evLc p own gs t f1 env M = (gs env M).bind fun xs M1 => (lcD p t f1 xs [] (wipeD env own) M1).bind fun ds M2 => .ok (.lst ds) M2 := (rfl)
@[simp] theorem evIter_e : evIter f1 env M = (f1 env M).bind fun d M => Res.of (itOf d) M := (rfl)
@[simp] theorem evRng_e {r : List D → Option (List D)} : evRng r gs env M = (gs env M).bind fun ds M => Res.of (r ds) M := (rfl)
@[simp] theorem evM_e {om : OpM} : evM om f1 gs env M = (f1 env M).bind fun d M => if isLst M d = true then (gs env M).bind fun ds M => om d ds M else .stuck := (rfl)
@[simp] theorem sSub_e : sSub f1 f2 f3 env M = (f3 env M).out env fun d M => (f1 env M).out env fun a M => (f2 env M).out env fun i M => match setD M a i d with | some M' => .nx env M' | none => .stuck := (rfl)
@[simp] theorem u_var : evVar i env M = (match env[i]? with | some (some d) => .ok d M | _ => .stuck) := (rfl)
@[simp] theorem u_neg : evNeg f1 env M = (f1 env M).bind fun d M => match d with | .int i => .ok (.int (-i)) M | _ => .stuck := (rfl)
@[simp] theorem u_atI {α : Type} {xs : List α} {k : Int} : L2.atI xs k = (L2.ixN xs.length k).bind fun j => xs[j]? := (rfl)
@[simp] theorem u_ixN {n : Nat} {k : Int} : L2.ixN n k = if 0 ≤ k then (if k < n then some k.toNat else none) else if -(n : Int) ≤ k then some (k + n).toNat else none := (rfl)
@[simp] theorem u_size : sizeLine = 16777216 := sizeLine_eq
/-- a def by its body -/
theorem run_ret {n : Nat} {ds : List D} {d : D} {M' : Store} (h : f (ds.map some ++ List.replicate (n - ds.length) none) M = .ret d M') (hf : frzD M' d = some (d, M')) : runF n false f ds M = .ok d (M'.take M.length) := by
  unfold runF
  rw [h]
  simp only [hf]
  rfl
theorem frz_pure {d : D} (h : pureD d = true) (h2 : ∀ xs, d ≠ .lst xs) : frzD M d = some (d, M) := by
  cases d <;> simp [frzD, h]
  · exact absurd rfl (h2 _)
  · simp [pureD] at h
end
@[simp] theorem take_set1 {α : Type} {M : List α} {l : Nat} {x : α} : (M.set l x).take M.length = M.set l x := List.take_of_length_le (by simp)
end
end Mi

set_option Elab.async false
set_option linter.all false
set_option maxRecDepth 100000
/-! MiH: a whole number added to a name; the first statements beyond k01. -/
namespace Mi
open PySem PySem.Spec PyProof.Rows L2
section
variable {G : Gx} {W : WX} {X : Cx} {pos : Pos}
/-- name += e, both whole numbers -/
def sAugI (i : Nat) (f : Ev → Store → Res D) : Ev → Store → Out := fun env M => match env[i]? with
  | some (some (.int a)) => (f env M).out env fun d M => match d with
    | .int b => if i < env.length then .nx (env.set i (some (.int (a + b)))) M else .stuck
    | _ => .stuck
  | _ => .stuck
theorem st_augI {i : Nat} {x : Str} {e : Expr} {pos' : Pos} {f : Ev → Store → Res D} (hN : X.N.Nodup) (hi : X.N[i]? = some x) (hx : Loc X.env.scope x) (he : PE X e (tE G W f)) (hf : X.fn x = true ∨ X.env.scope.names.lookup x = some .local) :
    PS X (.AugAssign (.Name x pos') .Add e pos) (tS G W (sAugI i f)) :=
  PS.weak (ps_aug hN hi hx he iop_add hf) fun E σ H ⟨env, M, ad, re, rm, q⟩ => by
    unfold sAugI at q
    split at q
    · rename_i a ha
      obtain ⟨v, h1, h2⟩ := re.2 i _ ha
      refine ⟨v, h1, ?_⟩
      refine tE.imp (tE_out re rm q) fun y H1 ⟨d, M1, ad1, e1, m1, r1, q1⟩ => ?_
      cases d with
      | int b =>
        simp only [Rep] at h2 r1
        obtain ⟨hl, q2⟩ := postS_if q1
        exact ⟨a, b, h2, r1, PostS.next q2 m1 ((re.ext e1.toExt0 rm).set (d := .int (a + b)) (v := .int (a + b)) (by simp [Rep]) hl)⟩
      | _ => exact q1.elim
    · exact q.elim
/-- a statement that nothing is told of: where a run comes to it, nothing is proved -/
def sStuck : Ev → Store → Out := fun _ _ => .stuck
theorem st_stuck {st : Stmt} : PS X st (tS G W sStuck) := ⟨fun pins s σ H E I ⟨env, M, ad, re, rm, q⟩ => q.elim⟩
end
end Mi

set_option Elab.async false
set_option linter.all false
set_option maxRecDepth 100000
/-! MiI: refusals: raise, try .. except .. as e: return kind(e); repr; list.count, list.index. -/
namespace Mi
open PySem PySem.Spec PyProof.Rows L2
section
variable {G : Gx} {X : Cx} {W : WX}

/-! ### raise C() -/
/-- what the written part says of a refusal's class without an __init__ of its own -/
structure ExcN (K : PySem.W.Frag) (C : Addr) : Prop where
  exc : PySem.W.excIn K C He.veBase "ValueError.__new__" = true
  kp : PySem.W.keepIn K (.ref C) = true
  sb : PySem.W.subIn K (.ref C) (.type "BaseException") = some true
  ty : PySem.W.typeIn K (.ref C) = some (.type "type")
theorem mk_plain {C : Addr} {x : Str} {p pos : Pos} (T : ExcN X.K C) (hm : X.mg x = some (.ref C)) (hg : Gl X x) (hdb : (x == ("__debug__" : Str)) = false) :
    L2N.PMk X (.Call (.Name x p) [] [] pos) (fun _ H Q => Q (.ref C) none H) := fun pins s σ H Q I h => by
  obtain ⟨bm, N, nm, qn, bs, hdct, sn, sub, ab, col, dd, k0, k1, k2, k3, k5, mN, hC, hN, hni, OT⟩ := exc_obj I.kIn T.exc
  refine wpAny_Call_Name_kw (ld_glob I hg hm (PySem.W.callWith_K0 I.kIn T.kp ?_) hdb)
  exact wpAny_call_exc_subT PySem.F.excBase_ValueError OT hC hN hni (fun h' e made => L2N.mk_of I made (raises_own T.sb T.ty) h (I.hok.gone made.new)) (Nat.zero_le _)
def sRaise (c : Nat) : Ev → Store → Out := fun env M => .exc c [] env M
theorem st_raise {c : Nat} {x : Str} {p pos pos' : Pos} (hc : X.calm = true) (hK : X.K = G.K) (T : ExcN G.K (G.ca c)) (hm : X.mg x = some (.ref (G.ca c))) (tk : L2N.Takes X W) (hg : Gl X x) (hdb : (x == ("__debug__" : Str)) = false) :
    PS X (.Raise (some (.Call (.Name x p) [] [] pos)) none pos') (tS G W (sRaise c)) :=
  PS.weak (L2N.ps_raise hc tk (mk_plain (by rw [hK]; exact T) hm hg hdb)) fun E σ H ⟨env, M, ad, re, rm, q⟩ => q ad H σ _ none Ext.refl rm re ⟨rfl, .inl ⟨rfl, rfl⟩⟩

/-! ### try .. except C as e: suite -/
/-- the slot's name is unbound behind the suite -/
def Out.wipe (i : Nat) : Out → Out
  | .nx env M => .nx (env.set i none) M
  | .bk env M => .bk (env.set i none) M
  | .ct env M => .ct (env.set i none) M
  | .ret d M => .ret d M
  | _ => .stuck
/-- h: what the suite does with an exception of class c -/
def sTry (n i : Nat) (body : Ev → Store → Out) (h : Nat → Ev → Store → Out) : Ev → Store → Out := fun env M => match body env M with
  | .exc c [] env' M' => if c < n ∧ i < env'.length then (h c (env'.set i none) M').wipe i else .stuck
  | .exc _ _ _ _ => .stuck
  | o => o
theorem RelE.unset {ad : Adr} {H : Hp} {M : Store} {env : Ev} {σ : L2.St} {i : Nat} {o : Option V} (re : RelE G ad H M env σ) : RelE G ad H M (env.set i none) (σ.set i o) :=
  ⟨by rw [List.length_set, List.length_set]; exact re.1, fun j d h => by
    by_cases hj : i = j
    · subst hj
      rw [List.getElem?_set] at h
      simp only [if_true] at h
      split at h
      · cases h
      · cases h
    · rw [List.getElem?_set_ne hj] at h
      obtain ⟨v, h1, h2⟩ := re.2 j d h
      exact ⟨v, by rw [List.getElem?_set_ne hj]; exact h1, h2⟩⟩
/-- a suite's reading: slot i holds the exception at a -/
def tSu (G : Gx) (i : Nat) (a : Addr) (f : Ev → Store → Out) : TS := fun E σ H => σ[i]? = some (some (.ref a)) ∧ H a = none ∧ tS G (fun _ _ _ _ => False) f E σ H
theorem PostS.imp {ad : Adr} {H : Hp} {M : Store} {o : Out} {E E' : Ends} (h : PostS G W ad H M o E) (hx : ∀ c d σ H, ¬ W c d σ H) {W' : WX} (i1 : ∀ σ H, E.nx σ H → E'.nx σ H) (i2 : ∀ v H, E.rt v H → E'.rt v H) (i3 : ∀ σ H, E.bk σ H → E'.bk σ H) (i4 : ∀ σ H, E.ct σ H → E'.ct σ H) : PostS G W' ad H M o E' := by
  cases o with
  | nx env M2 => exact fun ad2 H2 v e2 m2 r2 => i1 _ _ (h ad2 H2 v e2 m2 r2)
  | bk env M2 => exact fun ad2 H2 v e2 m2 r2 => i3 _ _ (h ad2 H2 v e2 m2 r2)
  | ct env M2 => exact fun ad2 H2 v e2 m2 r2 => i4 _ _ (h ad2 H2 v e2 m2 r2)
  | ret d M2 => exact fun ad2 H2 v e2 m2 r2 => i2 _ _ (h ad2 H2 v e2 m2 r2)
  | exc c fs env M2 => exact fun ad2 H2 v cls dd e2 m2 r2 r3 => absurd (h ad2 H2 v cls dd e2 m2 r2 r3) (hx _ _ _ _)
  | stuck => exact h
/-- what is wanted behind the suite, told of the suite's own end -/
theorem PostS.wiped {ad : Adr} {H : Hp} {M : Store} {o : Out} {i : Nat} {D : Ends} (h : PostS G W ad H M (o.wipe i) D) {W' : WX} :
    PostS G W' ad H M o { nx := fun σ' H' => D.nx (σ'.set i none) H', rt := D.rt, bk := fun σ' H' => D.bk (σ'.set i none) H', ct := fun σ' H' => D.ct (σ'.set i none) H' } := by
  cases o with
  | nx env M2 => exact fun ad2 H2 v e2 m2 r2 => h ad2 H2 _ e2 m2 r2.unset
  | bk env M2 => exact fun ad2 H2 v e2 m2 r2 => h ad2 H2 _ e2 m2 r2.unset
  | ct env M2 => exact fun ad2 H2 v e2 m2 r2 => h ad2 H2 _ e2 m2 r2.unset
  | ret d M2 => exact fun ad2 H2 v e2 m2 r2 => h ad2 H2 v e2 m2 r2
  | exc c fs env M2 => exact h.elim
  | stuck => exact h.elim
theorem st_try {n i : Nat} {x y : Str} {C : Addr} {body suite : List Stmt} {b₀ : Stmt} {np pos pos' : Pos} {fb : Ev → Store → Out} {h : Nat → Ev → Store → Out} (hs : X.stack = X.env :: X.outer) (hf : X.env.frame = some X.env.locals) (hK : X.K = G.K)
    (hN : X.N.Nodup) (hi : X.N[i]? = some y) (hln : X.env.kindOf y = some .local) (hm : X.mg x = some (.ref C)) (hg : Gl X x) (hdb : (x == ("__debug__" : Str)) = false) (tk : L2N.Takes X W)
    (hex : ∀ c, c < n → PySem.W.exmOne G.K (.ref (G.ca c)) (.ref C) = some true)
    (hb : ∀ (W' : WX) (pn : List (Addr × Obj)) (xe : Value → Shared → Prop), L2N.Takes (X.tr pn xe) W' → PassesOwn (model X.prog X.w) X.A X.env xe → PSs (X.tr pn xe) body (tS G W' fb))
    (hsu : ∀ (c : Nat) (a : Addr) (oe : Obj) (pn : List (Addr × Obj)), c < n → Zc (.ref (G.ca c)) none oe → (∃ vs, oe.data = .fields vs) → PSs (X.suite a ((a, oe) :: pn)) (b₀ :: suite) (tSu G i a (h c))) :
    PS X (.Try body [.ExceptHandler (some (.Name x np)) (some y) (b₀ :: suite) pos'] [] [] pos) (tS G W (sTry n i fb h)) := by
  refine PS.weak (L2N.ps_try_as hs hf hN hi hln ⟨hg, hdb, .inl hm⟩ tk (tb := fun W' => tS G W' fb)
    (ts := fun a cls d E σ H => ∃ c, c < n ∧ cls = .ref (G.ca c) ∧ d = none ∧ tSu G i a (h c) E σ H) hb fun a oe cls d pn hz hv => ⟨fun pins s σ H E I q => ?_⟩) fun E σ H q => ?_
  · obtain ⟨c, hc, rfl, rfl, q⟩ := q
    exact (hsu c a oe pn hc hz.zc hv).run pins s σ H E I q
  · obtain ⟨env, M, ad, re, rm, q⟩ := q
    refine ⟨env, M, ad, re, rm, ?_⟩
    unfold sTry at q
    cases hr : fb env M with
    | nx env' M' => rw [hr] at q; exact q
    | bk env' M' => rw [hr] at q; exact q
    | ct env' M' => rw [hr] at q; exact q
    | ret d M' => rw [hr] at q; exact q
    | stuck => rw [hr] at q; exact q.elim
    | exc c fs env' M' =>
      rw [hr] at q
      cases fs with
      | cons _ _ => exact q.elim
      | nil =>
        simp only at q
        obtain ⟨⟨hc, hl⟩, q⟩ := postS_if q
        intro ad' H' σ' cls dd e m r x
        have e1 : cls = .ref (G.ca c) := x.1
        have e2 : dd = none := by
          rcases x.2 with h | ⟨h, _⟩
          · exact h.2
          · exact absurd rfl h
        subst e1; subst e2
        refine ⟨true, by rw [hK]; exact hex c hc, fun _ a na => ⟨c, hc, rfl, rfl, ?_, na, ?_⟩, fun z => by cases z⟩
        · rw [List.getElem?_set]
          have : i < σ'.length := by rw [← r.1]; exact hl
          simp [this]
        · exact ⟨env'.set i none, M', ad', r.unset, m, PostS.wiped (PostS.mono q e)⟩

/-! ### worlds that differ in what .fn stands for -/
abbrev Gx.fnAt (G : Gx) (f : Nat → Option Addr) : Gx := { G with fa := f }
section
variable {ad ad' : Adr} {H H' : Hp} {M M' : Store} {f g : Nat → Option Addr}
mutual
theorem Rep.fnAt : ∀ (d : D) (v : V), pureD d = true → Rep (G.fnAt f) ad H M d v → Rep (G.fnAt g) ad H M d v
  | .non, _, _, h => by simpa [Rep] using h
  | .bl _, _, _, h => by simpa [Rep] using h
  | .int _, _, _, h => by simpa [Rep] using h
  | .str _, _, _, h => by simpa [Rep] using h
  | .fn _, _, hp, _ => by simp [pureD] at hp
  | .cls _, _, _, h => by simpa [Rep] using h
  | .ty _, _, _, h => by simpa [Rep] using h
  | .dct0, _, _, h => by simpa [Rep] using h
  | .loc _, _, hp, _ => by simp [pureD] at hp
  | .tup xs, _, hp, h => by
    simp only [Rep] at h ⊢
    obtain ⟨a, vs, e1, e2, e3⟩ := h
    exact ⟨a, vs, e1, e2, Reps.fnAt xs vs (by simpa [pureD] using hp) e3⟩
  | .lst xs, _, hp, h => by
    simp only [Rep] at h ⊢
    obtain ⟨a, vs, e1, e2, e3⟩ := h
    exact ⟨a, vs, e1, e2, Reps.fnAt xs vs (by simpa [pureD] using hp) e3⟩
  | .scr xs, _, hp, h => by
    simp only [Rep] at h ⊢
    obtain ⟨a, vs, e1, e2, e3⟩ := h
    exact ⟨a, vs, e1, e2, Reps.fnAt xs vs (by simpa [pureD] using hp) e3⟩
theorem Reps.fnAt : ∀ (ds : List D) (vs : List V), pureDs ds = true → Reps (G.fnAt f) ad H M ds vs → Reps (G.fnAt g) ad H M ds vs
  | [], _, _, h => by simpa [Reps] using h
  | d :: ds, _, hp, h => by
    simp only [Reps] at h ⊢
    obtain ⟨v, r, e1, e2, e3⟩ := h
    simp only [pureDs, Bool.and_eq_true] at hp
    exact ⟨v, r, e1, Rep.fnAt d v hp.1 e2, Reps.fnAt ds r hp.2 e3⟩
end
theorem RepK.fnAt : ∀ (ds : List (Int × D)) (vs : List (Key × V)), pureDs (ds.map (·.2)) = true → RepK (G.fnAt f) ad H M ds vs → RepK (G.fnAt g) ad H M ds vs
  | [], _, _, h => by simpa [RepK] using h
  | (k, d) :: ds, _, hp, h => by
    simp only [RepK] at h ⊢
    obtain ⟨v, r, e1, e2, e3⟩ := h
    simp only [List.map_cons, pureDs, Bool.and_eq_true] at hp
    exact ⟨v, r, e1, Rep.fnAt d v hp.1 e2, RepK.fnAt ds r hp.2 e3⟩
theorem RelM.fnAt (m : RelM (G.fnAt f) ad H M) : RelM (G.fnAt g) ad H M where
  pur := m.pur
  ok := fun l o h => by
    have p := m.pur l o h
    cases o with
    | lst xs =>
      obtain ⟨vs, q1, q2⟩ := m.ok l _ h
      exact ⟨vs, q1, Reps.fnAt _ _ p q2⟩
    | dct xs =>
      obtain ⟨vs, q1, q2⟩ := m.ok l _ h
      exact ⟨vs, q1, RepK.fnAt _ _ p q2⟩
  inj := m.inj
  tab := m.tab
  xd := m.xd
  rsv := m.rsv
theorem Ext.fnAt (e : Ext (G.fnAt f) ad H M ad' H' M') : Ext (G.fnAt g) ad H M ad' H' M' :=
  ⟨⟨e.rsu, e.len, e.adr, e.frame, e.dead, e.tbl, e.al⟩, e.rs⟩
end

/-! ### a def called while an exception is handled -/
/-- what a def f promises where the exception p, of the kind told by Φ, is handled and is its one argument -/
structure FnP (P : Program) (w : World) (K : PySem.W.Frag) (mg : Str → Option Value) (base : Heap) (k : Nat) (f : Addr) (fd : FuncData) (x : Str) (Φ : Obj → Prop) (sp : VK → XK → Hp → Prop) : Prop where
  run : ∀ (A : Around) (outer : List Env) (s : Shared) (H : Hp) (args : Args) (p : Addr × Obj) (Q : VK) (E : XK), L2H.RoomH k A → Φ p.2 → L2H.PinOk outer H s p → Env0 P w K mg base A outer s H → BindsTo s fd args [(x, .ref p.1)] → sp Q E H →
    codeAny (model P w) A (.call (.ref f) args) (CR (L2N.CX P w) outer P w H s Q E) s
/-- the promise: a text -/
def spTxt (G : Gx) (z : Str) : VK → XK → Hp → Prop := fun Q E H => ∃ M ad, RelM G ad H M ∧ PostR G E (relV G) ad H M (.ok (.str z) M) Q
theorem fnP_ok {P : Program} {w : World} {mg : Str → Option Value} {base : Heap} {x v : Str} {st : Stmt} {f : Addr} {fd : FuncData} {cdv : Value} {N : List Str} {k n : Nat} {body : Ev → Store → Out} {Φ : Obj → Prop} {z : Str} (F : DefC G.K mg x st f fd cdv) (S : C8.scC N [v] (defScope st) = true) (hn : N.length = n) (hps : 1 ≤ N.length)
    (hv : ∀ M, runF n false body [.fn 0] M = .ok (.str z) M)
    (hbody : ∀ (A : Around) (outer : List Env) (s : Shared) (H : Hp) (E : XK) (p : Addr × Obj), Φ p.2 → L2H.RoomH k (A.deeper (envOfC x (defScope st) s.heap.objs.size f cdv)) →
      PSs (L2H.cxH (L2N.CX P w) P w G.K mg base N x (defScope st) f cdv A outer s H E p) (defBody st) (tS (G.fnAt fun _ => some p.1) (fun c d _ H' => E c d H') body)) :
    FnP P w G.K mg base (k + 1) f fd v Φ (spTxt G z) := by
  obtain ⟨oc, od, kV, doc, pm, an, ct, osl, rfl, lk⟩ := F.ex
  have SS := C8.fnScope_by S
  constructor
  intro A outer s H args p Q E room hΦ pin env0 bind ⟨M, ad, rm, q⟩
  have inK : G.K.In s.heap := env0.mod.kin.keeps fun b o e => (env0.bs b o e).1
  have noLim : s.heap.NoLimit := env0.mod.nolimit.keeps fun b o e => (env0.bs b o e).1
  have where_ : ∀ y ∈ [(v, Value.ref p.1)], (defScope st).names.lookup y.1 = some .local ∨ ((defScope st).names.lookup y.1 = some .cell ∧ ((cellsFrom (s.heap.objs.size + 1) (defScope st).names []).lookup y.1).isSome = true) := by
    intro y hy
    rw [List.mem_singleton.mp hy]
    exact (SS.par v List.mem_cons_self).imp id fun q => ⟨q, PySem.W.cellsFrom_some _ _ _ (.inl q)⟩
  apply codeAny_call_function room.depth (inK _ _ lk) rfl SS.co SS.gen rfl (PySem.W.codeRec_of inK F.code) (bind _ _ _ _ ?_)
  apply wpAny_newFunctionEnv_cells SS.kind where_
  rintro env rfl s1 begun
  refine ⟨noLim.keeps begun.toInCall.keep, codeAny_func ?_⟩
  have start := L2H.inv_startH (CX := L2N.CX P w) (E := E) (N := N) (cd := cdv) (f := f) (qual := x) (ps := [v]) (us := [.ref p.1]) (vs := [.ref p.1]) SS pin env0 rfl (.cons rfl .nil) begun
  have rm' : RelM (G.fnAt fun _ => some p.1) ad H M := RelM.fnAt (G := G) (f := G.fa) rm
  have ra : Reps (G.fnAt fun _ => some p.1) ad H M [.fn 0] [.ref p.1] := by
    simp only [Reps, Rep]
    exact ⟨_, _, rfl, ⟨p.1, rfl, rfl⟩, rfl⟩
  have q' : PostR (G.fnAt fun _ => some p.1) E (relV (G.fnAt fun _ => some p.1)) ad H M (runF n false body [.fn 0] M) Q := by
    rw [hv M]
    exact fun ad2 H2 u e m r => q ad2 H2 u (Ext.fnAt (G := G) (g := G.fa) e) (RelM.fnAt (G := G) (g := G.fa) m) (by simp only [relV, Rep] at r ⊢; exact r)
  have went := (hbody A outer s H E p hΦ (room.deeper _)).run [] s1 _ H _ start ⟨_, M, ad, relE_start hn ra, rm', runF_ends rm' q'⟩
  refine wpAny_mono went (fun fl s2 h2 => ?_) fun _ _ h2 => h2
  have close : ∀ {σ2 : L2.St} {H2 : Hp} {y : V} {u : Value}, Inv (L2H.cxH (L2N.CX P w) P w G.K mg base N x (defScope st) f cdv A outer s H E p) [] σ2 H2 s2 → RelV y u → Q y H2 → CE outer P w H s Q u s2 :=
    fun J ry qy => ⟨_, _, J.os, J.bare, J.base, J.hok, ry, qy⟩
  match fl, h2 with
  | .ret u, ⟨_, _, _, J, ry, qy⟩ => exact close J ry qy
  | .next, ⟨_, _, J, qy⟩ => exact close (y := .non) (u := .none) J rfl qy
  | .brk, ⟨_, _, _, qy⟩ => exact qy.elim
  | .cont, ⟨_, _, _, qy⟩ => exact qy.elim
/-- kind(e) within the suite that has e -/
theorem pe_kind {i k : Nat} {x v y : Str} {f : Addr} {fd : FuncData} {Φ : Obj → Prop} {sp : VK → XK → Hp → Prop} {a : Addr} {oe : Obj} {pn : List (Addr × Obj)} {q q2 pos : Pos} (F : FnP X.prog X.w X.K X.mg X.base k f fd v Φ sp) (hr : L2H.RoomH k X.A) (hΦ : Φ oe)
    (hb : Binds X.K fd [v] []) (hg : Gl X x) (hm : X.mg x = some (.ref f)) (hk : PySem.W.keepIn X.K (.ref f) = true) (hN : X.N[i]? = some y) (hv : Vis X.env.scope y) (hd : (y == ("__debug__" : Str)) = false) (hcd : (y == ("__classdict__" : Str)) = false) (hdb : (x == ("__debug__" : Str)) = false) :
    PE (X.suite a ((a, oe) :: pn)) (.Call (.Name x q) [.Name y q2] [] pos) (fun σ H Q => σ[i]? = some (some (.ref a)) ∧ sp Q (fun _ _ _ => False) H) := by
  refine ⟨fun pins s σ H Q I ⟨hσ, h⟩ => ?_⟩
  have arg : PA (X.suite a ((a, oe) :: pn)) [.Name y q2] _ := pa_cons (pe_var (X := X.suite a ((a, oe) :: pn)) hN hv hd hcd) pa_nil
  refine wpAny_Call_Name_kw (ld_glob (X := X.suite a ((a, oe) :: pn)) I hg hm ?_ hdb)
  refine PySem.W.callWith_K (K := X.K) (h₀ := X.base) I.ok.mod.kin hk (thn (arg.run pos pins s σ H (fun vs H1 => vs = [V.ref a] ∧ H1 = H) I ⟨_, hσ, rfl, rfl⟩) fun us s1 hap => ?_)
  obtain ⟨vs, H1, I1, r, ev, eH⟩ := hap
  refine ⟨I1.kIn, ?_⟩
  subst ev; subst eH
  match us, r with
  | [u], .cons ru .nil =>
    obtain rfl : u = Value.ref a := ru
    have there := I1.pin (a, oe) (List.mem_append_left _ List.mem_cons_self)
    have pinned : L2H.PinOk X.stack H1 s1 (a, oe) := ⟨there.1, there.2.1, fun hm => (List.mem_cons.mp (I1.stkSub a hm)).elim there.2.2.1 there.2.2.2.1, there.2.2.2.2⟩
    have roomS : L2H.RoomH k (X.suite a ((a, oe) :: pn)).A := ⟨hr.dp, hr.un⟩
    have bound := hb s1 [.ref a] I1.kIn rfl
    rw [List.append_nil] at bound
    refine wpAny_call (codeAny_mono (F.run (X.suite a ((a, oe) :: pn)).A X.stack s1 H1 ⟨[.ref a], []⟩ (a, oe) Q (fun _ _ _ => False) roomS hΦ pinned I1.env0 bound h) fun r s2 hq => ?_)
    match r, hq with
    | .error e, ⟨_, _, _, _, _, _, _, _, _, _, _, _, no⟩ => exact no.elim
    | .ok (.ret u), hq => exact I1.after hq
    | .ok .next, hq => exact hq.elim
    | .ok .brk, hq => exact hq.elim
    | .ok .cont, hq => exact hq.elim
/-- the suite: return kind(e) -/
def hKind (z : Nat → Str) : Nat → Ev → Store → Out := fun c _ M => .ret (.str (z c)) M
theorem su_kind {i : Nat} {a : Addr} {oe : Obj} {pn : List (Addr × Obj)} {e : Expr} {pos : Pos} {z : Str} (h : PE (X.suite a ((a, oe) :: pn)) e (fun σ H Q => σ[i]? = some (some (.ref a)) ∧ spTxt G z Q (fun _ _ _ => False) H)) :
    PSs (X.suite a ((a, oe) :: pn)) [.Return (some e) pos] (tSu G i a fun _ M => .ret (.str z) M) :=
  ⟨fun pins s σ H E I ⟨hσ, _, env, M, ad, _, rm, q⟩ => (pss_one (ps_ret h)).run pins s σ H E I ⟨hσ, M, ad, rm, fun ad2 H2 v e2 m2 r2 => q ad2 H2 v e2 m2 r2⟩⟩

/-! ### isinstance(e, C), the exception e handled -/
def isB (K : PySem.W.Frag) (D : Addr) : Bool := decide (PySem.W.findIn K (.ref D) "__getattribute__" = some (some (.builtin "BaseException.__getattribute__"))) && (decide (PySem.W.findIn K (.ref D) "__getattr__" = some none) && (decide (PySem.W.subIn K (.ref D) (.type "BaseException") = some true) && (PySem.W.hasDictIn K D &&
  (decide (PySem.W.findIn K (.ref D) "__class__" = some (some (.builtin "object.__class__"))) && (decide (PySem.W.specialIn K (.builtin "object.__class__") "__get__" = some (some (.builtin "getset_descriptor.__get__"))) && (decide (PySem.W.takesIn K (.builtin "object.__class__") = some true) && decide (PySem.W.mroIn K D (.type "object") = some true)))))))
theorem isB_ok {K : PySem.W.Frag} {D : Addr} (h : isB K D = true) : ExcC K D := by
  simp only [isB, Bool.and_eq_true, decide_eq_true_eq] at h
  obtain ⟨h1, h2, h3, h4, h5, h6, h7, h8⟩ := h
  exact ⟨h1, h2, h3, h4, h5, h6, h7, h8⟩
theorem call_isP {X : Cx} {p : Addr × Obj} {D : Addr} (C : ExcC X.K D) (hp : p ∈ X.pn) (hz : Zc (.ref D) none p.2) (hf : ∃ vs, p.2.data = .fields vs) : CallR X (.builtin "isinstance") (rIsE X.K D p.1) := by
  rintro pins s σ H _ us Q I r ⟨c, cv, b, rfl, hcv, known, q⟩
  match us, r with
  | [u, t], .cons ru (.cons rt .nil) =>
    obtain rfl : u = .ref p.1 := ru
    obtain rfl := hcv t rt
    have here := (I.pin p (List.mem_append_left _ hp)).1
    have inst : PySem.W.InstAt s.heap p.1 p.2 D none := ⟨here, hz.1, by unfold PySem.W.notCls; obtain ⟨vs, e⟩ := hf; rw [e] <;> trivial, by rw [hz.2]; trivial⟩
    exact PySem.W.kia_one (PySem.W.handS_kitx_exc C.hg C.hk C.hs C.hd C.ha C.hn C.ht C.hm) I.kIn inst known (fun e => nomatch e) fun tk => ⟨.bl b, H, I.kept (t' := tk) fun _ _ e => e, rfl, q⟩
def biIsE (n c : Nat) : OpN := fun ds M => match ds with
  | [.fn _, .cls c'] => if c' < n then .ok (.bl (c == c')) M else .stuck
  | [.fn _, .ty b] => if b = "ValueError" then .ok (.bl true) M else .stuck
  | _ => .stuck
/-- what the written part says of the refusals' classes -/
structure Kinds (K : PySem.W.Frag) (ca : Nat → Addr) (n : Nat) : Prop where
  is : ∀ c, c < n → ExcC K (ca c)
  ve : ∀ c, c < n → PySem.W.kitOne K (.ref (ca c)) (.type "ValueError") = some true
  eq : ∀ c, c < n → ∀ c', c' < n → PySem.W.kitOne K (.ref (ca c)) (.ref (ca c')) = some (c == c')
theorem sem_isE {n c : Nat} {a : Addr} (T : Kinds G.K G.ca n) (hc : c < n) : SemN (G.fnAt fun _ => some a) (biIsE n c) (rIsE G.K (G.ca c) a) := fun W ad H M ds vs Q rm r q => by
  unfold biIsE at q
  split at q
  · rename_i j c'
    obtain ⟨hc', q⟩ := post_if q
    obtain ⟨v, v', rfl, r1, r2⟩ := r.two
    simp only [Rep] at r1 r2
    obtain ⟨b, hb, rfl⟩ := r1
    obtain rfl : a = b := Option.some.inj hb
    subst r2
    exact ⟨_, .ref (G.ca c'), _, rfl, fun u hu => hu, T.eq c hc c' hc', PostR.ret q rm rep_bl⟩
  · rename_i j b'
    obtain ⟨rfl, q⟩ := post_if q
    obtain ⟨v, v', rfl, r1, r2⟩ := r.two
    simp only [Rep] at r1 r2
    obtain ⟨b, hb, rfl⟩ := r1
    obtain rfl : a = b := Option.some.inj hb
    subst r2
    exact ⟨_, .type "ValueError", _, rfl, fun u hu => hu, T.ve c hc, PostR.ret q rm rep_bl⟩
  · exact q.elim
/-- a class by its name -/
theorem g_cls {c : Nat} {x : Str} {pos : Pos} (hg : Gl X x) (hm : X.mg x = some (.ref (G.ca c))) (hd : (x == ("__debug__" : Str)) = false) : PE X (.Name x pos) (tE G W (evC (.cls c))) := se_const (pe_glob (v := .ref (G.ca c)) hg hm rfl hd) fun ad H M => by simp [Rep]

/-! ### l.count(x), l.index(x) -/
def rCountD (K : PySem.W.Frag) : V → List V → Hp → VK → Prop := fun x xs H Q => ∃ (a : Addr) (y : V) (d : PyData) (ds : List PyData), x = V.ref a ∧ xs = [y] ∧ Dp K H (V.ref a) (.list ds) ∧ Dp K H y d ∧ SeqAt.shaped (.list ds) = true ∧ SeqAt.shaped d = true ∧ Q (.int ((ds.countP fun z => PyData.eqv z d : Nat) : Int)) H
theorem countP_map' {α β : Type} (f : α → β) (p : β → Bool) : ∀ l : List α, (l.map f).countP p = l.countP fun a => p (f a)
  | [] => rfl
  | a :: l => by simp [List.countP_cons, countP_map' f p l]
theorem mt_countD (hu : X.A.units + 65 < cLine) : MtR X "list.count" (rCountD X.K) := by
  rintro pins s σ H _ _ v us Q I rx rxs ⟨a, y, d, ds, rfl, rfl, hl, hy, sl, sd, q⟩
  obtain rfl : v = .ref a := rx
  match us, rxs with
  | [uy], .cons ry .nil =>
    obtain ⟨bs, read⟩ := Dp.reads I d y uy hy ry
    have lay : PyData.canLayAll0 ds = true := SeqAt.canLay_of_shaped sl
    have deep : X.A.units + 1 + min (PyData.depthAll ds) d.depth < cLine := room_in_shaped sd hu
    cases hl with
    | lst hs ha =>
      obtain ⟨its, rv, ⟨⟨cls, dd, data, sls⟩, n, ho, hc, hdn, hdt⟩, hlen⟩ := I.list hs
      dsimp only at hc hdt
      subst hc; subst hdt
      obtain ⟨as, all⟩ := Dp.readsAll I ds _ its ha rv
      have same : its.map (SeqAt.readOf s.heap) = ds := SeqAt.readsAll_map ds its as lay all
      refine call_meets PySem.F.slot_list_count ⟨_, ho, rfl⟩ PySem.F.entry_list_count (PySem.F.args_list_count_2 _ _)
        (SeqAt.list_countAt a its.toArray n dd sls uy fun u => PyData.eqv (SeqAt.readOf s.heap u) d) ⟨ho, fun y hy => SeqAt.items_eqAt (vs := its.toArray) (show ReadsAll s.heap its.toArray.toList ds as from all) read lay (SeqAt.canLay_of_shaped sd) deep y hy, ?_⟩
      refine ⟨.int ((ds.countP fun z => PyData.eqv z d : Nat) : Int), H, I.tok _, ⟨s.toks, ?_⟩, q⟩
      have cnt : its.toArray.toList.countP (fun u => PyData.eqv (SeqAt.readOf s.heap u) d) = ds.countP fun z => PyData.eqv z d := by
        rw [← same, countP_map']
      rw [← cnt]
def mCount : OpM := fun d ds M => match ds with
  | [y] => (Res.of ((listOf M d).bind toPys) M).bind fun ps M => (Res.of (toPyM M y) M).bind fun q M => if SeqAt.shaped (.list ps) = true ∧ SeqAt.shaped q = true then .ok (.int ((ps.countP fun z => PyData.eqv z q : Nat) : Int)) M else .stuck
  | _ => .stuck
theorem listOf_dp {ad : Adr} {H : Hp} {M : Store} {d : D} {v : V} {ps : List PyData} (rm : RelM G ad H M) (r : Rep G ad H M d v) (h : (listOf M d).bind toPys = some ps) : ∃ a, v = .ref a ∧ Dp G.K H (.ref a) (.list ps) := by
  simp only [Option.bind_eq_some_iff] at h
  obtain ⟨xs, h1, h2⟩ := h
  obtain ⟨a, vs, rfl, e2, e3⟩ := listOf_ok rm r h1
  exact ⟨a, rfl, .lst (SqL.of e2) (toPys_ok xs vs ps e3 h2)⟩
theorem sem_count : SemM G mCount (rCountD G.K) := fun W ad H M d ds v vs Q rm r rs q => by
  unfold mCount at q
  split at q
  · rename_i y
    obtain ⟨ps, h1, q⟩ := of_bind q
    obtain ⟨p, h2, q⟩ := of_bind q
    obtain ⟨⟨s1, s2⟩, q⟩ := post_if q
    simp only [Reps] at rs
    obtain ⟨u, _, rfl, ru, rfl⟩ := rs
    obtain ⟨a, rfl, dl⟩ := listOf_dp rm r h1
    exact ⟨a, u, p, ps, rfl, rfl, dl, toPyM_ok rm ru h2, s1, s2, PostR.ret q rm rep_int⟩
  · exact q.elim
def mIndex : OpM := fun d ds M => match ds with
  | [y] => (Res.of ((listOf M d).bind toPys) M).bind fun ps M => (Res.of (toPyM M y) M).bind fun q M => if SeqAt.shaped (.list ps) = true ∧ SeqAt.shaped q = true then (Res.of (ps.findIdx? fun z => PyData.eqv z q) M).bind fun j M => .ok (.int (j : Nat)) M else .stuck
  | _ => .stuck
theorem sem_index : SemM G mIndex (rIndexD G.K) := fun W ad H M d ds v vs Q rm r rs q => by
  unfold mIndex at q
  split at q
  · rename_i y
    obtain ⟨ps, h1, q⟩ := of_bind q
    obtain ⟨p, h2, q⟩ := of_bind q
    obtain ⟨⟨s1, s2⟩, q⟩ := post_if q
    obtain ⟨j, h3, q⟩ := of_bind q
    simp only [Reps] at rs
    obtain ⟨u, _, rfl, ru, rfl⟩ := rs
    obtain ⟨a, rfl, dl⟩ := listOf_dp rm r h1
    rw [List.findIdx?_eq_some_iff_getElem] at h3
    obtain ⟨hj, hz, hno⟩ := h3
    refine ⟨a, u, p, ps, j, ps[j], rfl, rfl, dl, toPyM_ok rm ru h2, s1, s2, List.getElem?_eq_getElem hj, hz, fun m z' hm hz' => ?_, PostR.ret q rm rep_int⟩
    obtain ⟨hm2, rfl⟩ := List.getElem?_eq_some_iff.mp hz'
    have := hno m hm
    simpa using this
  · exact q.elim

/-! ### repr(x) of lists and tuples -/
def rReprD (K : PySem.W.Frag) : List V → Hp → VK → Prop := fun xs H Q => ∃ (v : V) (d : PyData), xs = [v] ∧ Dp K H v d ∧ isDisplay d = true ∧ d.showable = true ∧ d.hasDict = false ∧ d.depth ≤ 60 ∧ d.shown.length ≤ sizeLine ∧ Q (.str d.shown) H
theorem call_reprD (hG : X.A.guards = some []) (hu : X.A.units + 65 < cLine) : CallR X (.builtin "repr") (rReprD X.K) := by
  rintro pins s σ H _ us Q I r ⟨v, d, rfl, dp, disp, sh, nd, dep, len, q⟩
  match us, r with
  | [u], .cons ru .nil =>
    obtain ⟨as, read⟩ := Dp.reads I d v u dp ru
    obtain ⟨a, rfl⟩ := isRef_of_reads read disp
    exact repr_of_reads' read sh (PyData.noDict_hsm nd) hG (by omega) (fun _ _ e => e) (fun h' t tk keep => ⟨.str d.shown, H, I.kept (t' := tk) keep, ⟨t, rfl⟩, q⟩) len
def biRepr : OpN := fun ds M => match ds with
  | [d] => (Res.of (toPyM M d) M).bind fun p M => if isDisplay p = true ∧ p.showable = true ∧ p.hasDict = false ∧ p.depth ≤ 60 ∧ p.shown.length ≤ sizeLine then .ok (.str p.shown) M else .stuck
  | _ => .stuck
theorem sem_repr : SemN G biRepr (rReprD G.K) := fun W ad H M ds vs Q rm r q => by
  unfold biRepr at q
  split at q
  · obtain ⟨p, h1, q⟩ := of_bind q
    obtain ⟨⟨c1, c2, c3, c4, c5⟩, q⟩ := post_if q
    simp only [Reps] at r
    obtain ⟨u, _, rfl, ru, rfl⟩ := r
    exact ⟨u, p, rfl, toPyM_ok rm ru h1, c1, c2, c3, c4, c5, PostR.ret q rm rep_str⟩
  · exact q.elim

/-! ### kind(e) by its name; the classes by their names -/
structure OwnK (P : Program) (w : World) (G : Gx) (mg : Str → Option Value) (base : Heap) (x : Str) (n k : Nat) (z : Nat → Str) : Prop where
  ex : ∃ (f : Addr) (fd : FuncData) (v : Str), (∀ c, c < n → FnP P w G.K mg base k f fd v (fun o => Zc (.ref (G.ca c)) none o ∧ ∃ vs, o.data = .fields vs) (spTxt G (z c))) ∧ mg x = some (.ref f) ∧ PySem.W.keepIn G.K (.ref f) = true ∧ Binds G.K fd [v] []
theorem su_own {n k j i c : Nat} {z : Nat → Str} {x y : Str} {a : Addr} {oe : Obj} {pn : List (Addr × Obj)} {q q2 pos pos' : Pos} (hK : X.K = G.K) (h : OwnK X.prog X.w G X.mg X.base x n k z) (hr : Room j X.A) (hk : k ≤ j) (hc : c < n) (hz : Zc (.ref (G.ca c)) none oe) (hv : ∃ vs, oe.data = .fields vs)
    (hg : Gl X x) (hN : X.N[i]? = some y) (vis : Vis X.env.scope y) (hd : (y == ("__debug__" : Str)) = false) (hcd : (y == ("__classdict__" : Str)) = false) (hdb : (x == ("__debug__" : Str)) = false) :
    PSs (X.suite a ((a, oe) :: pn)) [.Return (some (.Call (.Name x q) [.Name y q2] [] pos)) pos'] (tSu G i a (hKind z c)) := by
  obtain ⟨f, fd, v, F, hm, kp, hb⟩ := h.ex
  rw [← hK] at F kp hb
  exact su_kind (pe_kind (F c hc) (L2H.roomH_of (hr.mono hk)) ⟨hz, hv⟩ hb hg hm kp hN vis hd hcd hdb)
theorem own_ofK {P : Program} {w : World} {mg : Str → Option Value} {base : Heap} {x v : Str} {st : Stmt} {f : Addr} {fd : FuncData} {cdv : Value} {n k : Nat} {z : Nat → Str} (F : DefC G.K mg x st f fd cdv)
    (h : ∀ c, c < n → FnP P w G.K mg base k f fd v (fun o => Zc (.ref (G.ca c)) none o ∧ ∃ vs, o.data = .fields vs) (spTxt G (z c))) (hb : BindF x st [v]) : OwnK P w G mg base x n k z := by
  have h' := h
  obtain ⟨oc, od, kV, doc, pm, an, ct, osl, rfl, lk⟩ := F.ex
  exact ⟨f, _, v, h', F.mgf, F.kp, .all (hb kV doc pm an cdv ct)⟩
def kindsB (xs : List Str) (K : PySem.W.Frag) : Bool := xs.all fun x => isB K (He.ga K x) && (decide (PySem.W.kitOne K (.ref (He.ga K x)) (.type "ValueError") = some true) && (decide (PySem.W.exmOne K (.ref (He.ga K x)) (.ref (He.ga K "CubeError")) = some true) &&
  xs.all fun y => decide (PySem.W.kitOne K (.ref (He.ga K x)) (.ref (He.ga K y)) = some (x == y))))
theorem kindsB_ok {xs : List Str} {K : PySem.W.Frag} (hx : ∀ c, c < xs.length → ∀ c', c' < xs.length → (xs.getD c "" == xs.getD c' "") = (c == c')) (h : kindsB xs K = true) :
    Kinds K (fun c => He.ga K (xs.getD c "")) xs.length ∧ ∀ c, c < xs.length → PySem.W.exmOne K (.ref (He.ga K (xs.getD c ""))) (.ref (He.ga K "CubeError")) = some true := by
  have at_ : ∀ c, c < xs.length → xs.getD c "" ∈ xs := fun c hc => by
    rw [List.getD_eq_getElem?_getD, List.getElem?_eq_getElem hc]
    exact List.getElem_mem hc
  have all : ∀ c, c < xs.length → _ := fun c hc => List.all_eq_true.mp h _ (at_ c hc)
  simp only [Bool.and_eq_true, decide_eq_true_eq, List.all_eq_true] at all
  exact ⟨⟨fun c hc => isB_ok (all c hc).1, fun c hc => (all c hc).2.1, fun c hc c' hc' => by rw [(all c hc).2.2.2 _ (at_ c' hc'), hx c hc c' hc']⟩, fun c hc => (all c hc).2.2.1⟩
theorem excN_of {K : PySem.W.Frag} {x : Str} (h : (He.Fa.exc x).ok K = true) : ExcN K (He.ga K x) := let e := He.exc_ok h; ⟨e.1, e.2.1, e.2.2.1, e.2.2.2⟩
end
end Mi
namespace L2H
open PySem L2
theorem RoomH.u0 {k : Nat} {A : Around} (h : RoomH k A) : A.units < cLine := by have := h.un; omega
theorem RoomH.u64 {k : Nat} {A : Around} (h : RoomH k A) : A.units + 64 < cLine := by have := h.un; omega
theorem RoomH.u65 {k : Nat} {A : Around} (h : RoomH k A) : A.units + 65 < cLine := by have := h.un; omega
end L2H


set_option Elab.async false
set_option linter.all false
set_option maxRecDepth 100000
set_option maxHeartbeats 1000000
/-! MiJ: defs that lean on it that no repr is under way; the law's own call there. -/
namespace Mi
open PySem PySem.Spec PyProof.Rows L2
/-- a def's promise where no repr is under way -/
structure FnG (P : Program) (w : World) (K : PySem.W.Frag) (mg : Str → Option Value) (base : Heap) (k : Nat) (f : Addr) (fd : FuncData) (ps : List Str) (sp : Sp) : Prop where
  len : ∀ vs H Q E, sp vs H Q E → vs.length = ps.length
  run : ∀ (A : Around) (outer : List Env) (s : Shared) (H : Hp) (args : Args) (us : List Value) (vs : List V) (Q : VK) (E : XK), Room k A → A.guards = some [] → Env0 P w K mg base A outer s H → BindsTo s fd args (ps.zip us) → Vals vs us → sp vs H Q E →
    codeAny (model P w) A (.call (.ref f) args) (CR (L2N.CX P w) outer P w H s Q E) s
section
variable {P : Program} {w : World} {G : Gx} {mg : Str → Option Value} {base : Heap}
theorem FnG.of {K : PySem.W.Frag} {k : Nat} {f : Addr} {fd : FuncData} {ps : List Str} {sp : Sp} (F : FnOk P w K mg base (L2N.CX P w) k f fd ps sp) : FnG P w K mg base k f fd ps sp :=
  ⟨F.len, fun A outer s H args us vs Q E hr _ => F.run A outer s H args us vs Q E hr⟩
structure OwnG (P : Program) (w : World) (G : Gx) (mg : Str → Option Value) (base : Heap) (x : Str) (k n : Nat) (fn : FD) : Prop where
  ex : ∃ (f : Addr) (fd : FuncData) (ps : List Str), FnG P w G.K mg base k f fd ps (spF G n fn) ∧ mg x = some (.ref f) ∧ PySem.W.keepIn G.K (.ref f) = true ∧ Binds G.K fd ps []
theorem fnG_ok {x : Str} {st : Stmt} {f : Addr} {fd : FuncData} {cdv : Value} {N ps : List Str} {k n : Nat} {keep : Bool} {body : Ev → Store → Out} (F : DefC G.K mg x st f fd cdv) (S : C8.scC N ps (defScope st) = true) (hn : N.length = n) (hps : ps.length ≤ N.length)
    (hbody : ∀ (A : Around) (outer : List Env) (s : Shared) (H : Hp) (E : XK), Room k (A.deeper (envOfC x (defScope st) s.heap.objs.size f cdv)) → (A.deeper (envOfC x (defScope st) s.heap.objs.size f cdv)).guards = some [] →
      PSs (cxOf (L2N.CX P w) P w G.K mg base N x (defScope st) f cdv A outer s H E) (defBody st) (tS G (fun c d _ H' => E c d H') body)) :
    FnG P w G.K mg base (k + 1) f fd ps (spF G ps.length (runF n keep body)) := by
  obtain ⟨oc, od, kV, doc, pm, an, ct, osl, rfl, lk⟩ := F.ex
  have SS := C8.fnScope_by S
  refine ⟨fun vs H Q E h => h.1, ?_⟩
  intro A outer s H args us vs Q E room guard env0 bind rel ⟨lv, ds, M, ad, rds, rm, q⟩
  have inK : G.K.In s.heap := env0.mod.kin.keeps fun b o e => (env0.bs b o e).1
  have noLim : s.heap.NoLimit := env0.mod.nolimit.keeps fun b o e => (env0.bs b o e).1
  have where_ : ∀ y ∈ ps.zip us, (defScope st).names.lookup y.1 = some .local ∨ ((defScope st).names.lookup y.1 = some .cell ∧ ((cellsFrom (s.heap.objs.size + 1) (defScope st).names []).lookup y.1).isSome = true) := by
    rintro ⟨z, u⟩ hy
    exact (SS.par z (List.of_mem_zip hy).1).imp id fun c => ⟨c, PySem.W.cellsFrom_some _ _ _ (.inl c)⟩
  apply codeAny_call_function room.depth (inK _ _ lk) rfl SS.co SS.gen rfl (PySem.W.codeRec_of inK F.code) (bind _ _ _ _ ?_)
  apply wpAny_newFunctionEnv_cells SS.kind where_
  rintro env rfl s1 begun
  refine ⟨noLim.keeps begun.toInCall.keep, codeAny_func ?_⟩
  have start := inv_start (CX := L2N.CX P w) (E := E) (N := N) (cd := cdv) (f := f) (qual := x) SS room.hd env0 lv rel begun
  have went := (hbody A outer s H E (room.deeper _) guard).run [] s1 _ H _ start ⟨_, M, ad, relE_start hn rds, rm, runF_ends rm q⟩
  refine wpAny_mono went (fun fl s2 h2 => ?_) fun _ _ h2 => h2
  have close : ∀ {σ2 : L2.St} {H2 : Hp} {y : V} {u : Value}, Inv (cxOf (L2N.CX P w) P w G.K mg base N x (defScope st) f cdv A outer s H E) [] σ2 H2 s2 → RelV y u → Q y H2 → CE outer P w H s Q u s2 :=
    fun J ry qy => ⟨_, _, J.os, J.bare, J.base, J.hok, ry, qy⟩
  match fl, h2 with
  | .ret u, ⟨_, _, _, J, ry, qy⟩ => exact close J ry qy
  | .next, ⟨_, _, J, qy⟩ => exact close (y := .non) (u := .none) J rfl qy
  | .brk, ⟨_, _, _, qy⟩ => exact qy.elim
  | .cont, ⟨_, _, _, qy⟩ => exact qy.elim
theorem own_ofG {x : Str} {st : Stmt} {f : Addr} {fd : FuncData} {cdv : Value} {ps : List Str} {k : Nat} {fn : FD} (F : DefC G.K mg x st f fd cdv) (h : FnG P w G.K mg base k f fd ps (spF G ps.length fn)) (hb : BindF x st ps) : OwnG P w G mg base x k ps.length fn := by
  have h' := h
  obtain ⟨oc, od, kV, doc, pm, an, ct, osl, rfl, lk⟩ := F.ex
  exact ⟨f, _, ps, h', F.mgf, F.kp, .all (hb kV doc pm an cdv ct)⟩
end
/-- such a def called -/
theorem se_ownG {G : Gx} {W : WX} {X : Cx} {k j n : Nat} {x : Str} {p pos : Pos} {e : Expr} {es : List Expr} {fn : FD} {gs : Ev → Store → Res (List D)} (hK : X.K = G.K) (h : OwnG X.prog X.w G X.mg X.base x k n fn) (hr : Room j X.A) (hG : X.A.guards = some []) (hk : k ≤ j) (hg : Gl X x) (tk : L2N.Takes X W) (hn : n = (e :: es).length)
    (hlen : ∀ env M ds M', gs env M = .ok ds M' → ds.length = (e :: es).length)
    (ha : PA X (e :: es) (tA G W gs)) (hdb : (x == ("__debug__" : Str)) = false) (he : starEach (e :: es) X.env = (false, eval e X.env) :: starEach es X.env) (hpl : (backTo pos (starEach es X.env)).any (·.1) = false) :
    PE X (.Call (.Name x p) (e :: es) [] pos) (tE G W (evCall fn gs)) := by
  obtain ⟨f, fd, ps, F, hm, kp, hb⟩ := h.ex
  rw [← hK] at F kp hb
  refine ⟨fun pins s σ H Q I ⟨env, M, ad, re, rm, q⟩ => ?_⟩
  have pre : tA G W gs σ H fun vs H1 => spF G n fn vs H1 Q (WE W σ) := by
    refine ⟨env, M, ad, re, rm, ?_⟩
    have b := PostR.bind (rel := relVs G) q
    cases hgs : gs env M with
    | ok ds0 M0 =>
      rw [hgs] at b
      intro ad2 H2 v e2 m2 r2
      obtain ⟨ds, M', ad', e1, m1, r1, q1⟩ := b ad2 H2 v e2 m2 r2
      refine ⟨?_, ds, M', ad', r1, m1, q1⟩
      rw [hn, ← hlen env M ds0 M0 hgs]
      exact Reps.length _ _ r2
    | exc c fs M0 => rw [hgs] at b; exact b
    | stuck => rw [hgs] at b; exact b.elim
  refine wpAny_Call_Name_kw (ld_glob I hg hm ?_ hdb)
  refine PySem.W.callWith_K (h₀ := X.base) I.ok.mod.kin kp (thn (ha.run pos pins s σ H _ I pre) fun us s1 hap => ?_) he hpl
  obtain ⟨vs, H1, I1, rel, sp1⟩ := hap
  refine ⟨I1.kIn, ?_⟩
  have many : (us ++ ([] : List Value)).length = ps.length := by rw [List.append_nil, ← rel.length]; exact F.len _ _ _ _ sp1
  have bound := hb s1 us I1.kIn many
  rw [List.append_nil] at bound
  refine wpAny_call (codeAny_mono (F.run X.A X.stack s1 H1 ⟨us, []⟩ us vs Q (WE W σ) (hr.mono hk) hG I1.env0 bound rel sp1) fun r s2 end_ => ?_)
  match r, end_ with
  | .error err, end_ => exact L2N.passAt tk σ pins H1 s1 err s2 I1 end_
  | .ok (.ret u), end_ => exact I1.after end_
  | .ok .next, end_ => exact end_.elim
  | .ok .brk, end_ => exact end_.elim
  | .ok .cont, end_ => exact end_.elim
end Mi
namespace Mi
open PySem PySem.Spec PyProof.Rows L2
/-- what a law keeps, told at the heap h where the test begins -/
structure LawG (l : PySem.W.OpenLaw) (w : World) (K : PySem.W.Frag) (k n : Nat) (x : Str) (mg : Str → Option Value) (fa : Addr) (h : Heap) (fd : FuncData) (cs : List (Addr × Addr)) (sp : Sp) : Prop where
  emp : ∀ p ∈ cs, h.get? p.2 = some { cls := .none, data := .fields #[] }
  out : ∀ p ∈ cs, K.lookup p.2 = none
  hd : ∀ p ∈ cs, PySem.W.codeHdIn K p.1 p.2 = true
  bind : ∀ (s : Shared) (u : Value), BindsTo s fd ⟨[u], []⟩ [(x, u)]
  prom : ∀ (H : Hp) (a : Addr) (ns : List Int), ns.length ≤ n → (∀ z ∈ ns, Builtin.Int.intBits z ≤ 1048576) → (∀ p ∈ cs, H p.2 = some (.tbl #[])) → SqL K H a (ns.map V.int) → sp [.ref a] H (fun v _ => v = .bl true) fun _ _ _ => False
  fn : ∀ base : Heap, K.In base → base.Ns mainGlobals mg → (∀ p ∈ cs, LamX.TabB base mg p.1 p.2) → FnG l.prog w K mg base k fa fd [x] sp
/-- the tracked heap at the law's entry: the tables, the script -/
def entryH (K : PySem.W.Frag) (ts : List Addr) (a : Addr) (lo : Obj) (xs : List V) : Hp := fun b => if b ∈ ts then some (.tbl #[]) else if b = a ∧ K.lookup a = none then some (.frz lo (.lst xs)) else none
theorem entryH_none {K : PySem.W.Frag} {ts : List Addr} {a b : Addr} {lo : Obj} {xs : List V} (h1 : b ∉ ts) (h2 : ¬ (b = a ∧ K.lookup a = none)) : entryH K ts a lo xs b = none := by
  unfold entryH; rw [if_neg h1, if_neg h2]
theorem entryH_some {K : PySem.W.Frag} {ts : List Addr} {a b : Addr} {lo : Obj} {xs : List V} {u : HO} (h : entryH K ts a lo xs b = some u) : (b ∈ ts ∧ u = .tbl #[]) ∨ (b = a ∧ K.lookup a = none ∧ u = .frz lo (.lst xs)) := by
  unfold entryH at h
  by_cases h1 : b ∈ ts
  · rw [if_pos h1] at h; exact .inl ⟨h1, (Option.some.inj h).symm⟩
  · rw [if_neg h1] at h
    by_cases h2 : b = a ∧ K.lookup a = none
    · rw [if_pos h2] at h; exact .inr ⟨h2.1, h2.2, (Option.some.inj h).symm⟩
    · rw [if_neg h2] at h; cases h
theorem walkG {l : PySem.W.OpenLaw} {n k : Nat} {q : Program} {loose : List Str} {XP : (Str → Option Value) → Heap → Prop} {YP : World → Heap → Prop} {d : DefRec} {x : Str} (hn : l.most = some n) (hz : n ≤ sizeLine) (hdf : d.params.defaults = []) (room : Room k callerA)
    (F : ∀ (w : World) (mg : Str → Option Value) (fa : Addr) (h : Heap), YP w h → h.Ns mainGlobals mg → mg d.name = some (.ref fa) → ∃ (K : PySem.W.Frag) (fd : FuncData) (cs : List (Addr × Addr)) (sp : Sp), K.In h ∧ LawG l w K k n x mg fa h fd cs sp) :
    PySem.W.WalkO q loose XP YP l.row.toRowW d [] (fun f vs => PySem.call f vs) := by
  refine Att.attach_callB hn hdf ?_
  intro w s₀ s mg mb fa o pm cd doc a vs ns G Y _ _ _ hmg script whole few bits calm
  obtain ⟨K, fd, cs, sp, inK, L⟩ := F w mg fa _ Y G.T.g hmg
  generalize hts : cs.map (·.2) = ts
  have tabs : ∀ b, b ∈ ts → s.heap.get? b = some { cls := .none, data := .fields #[] } := by
    rintro b hb
    rw [← hts] at hb
    obtain ⟨p, hp, rfl⟩ := List.mem_map.mp hb
    exact L.emp p hp
  have tabIn : ∀ p ∈ cs, p.2 ∈ ts := fun p hp => hts ▸ List.mem_map.mpr ⟨p, hp, rfl⟩
  have notTab : a ∉ ts := fun ha => by
    have e := (tabs a ha).symm.trans script
    injection e with e; injection e with _ _ e; cases e
  let lo : Obj := { cls := .type "list", data := .seq vs.toArray }
  let H : Hp := entryH K ts a lo (ns.map V.int)
  have sizes := whole.length
  have rel := vals_ints whole
  -- objects that are not tracked stand in the base
  have under : ∀ {b : Addr} {u : Obj}, s.heap.get? b = some u → u.data ≠ .fields #[] → (∀ its m, u.data ≠ .seq its m) → (hidT s.heap H).get? b = some u := by
    intro b u hb h1 h2
    refine hidT_get hb (entryH_none (fun ht => ?_) fun ⟨ha, _⟩ => ?_)
    · rw [tabs b ht] at hb
      exact h1 (by rw [← Option.some.inj hb])
    · rw [ha, script] at hb
      exact h2 vs.toArray 0 (by rw [← Option.some.inj hb])
  have spaces : ∀ {b : Addr} {m : Str → Option Value}, s.heap.Ns b m → (hidT s.heap H).Ns b m := fun ⟨u, es, ep, h1, h2, h3⟩ =>
    ⟨u, es, ep, under h1 (by rw [h2]; exact fun e => nomatch e) (by rw [h2]; exact fun _ _ e => nomatch e), h2, h3⟩
  have inB : K.In (hidT s.heap H) := fun b u hb => hidT_get (inK b u hb) (entryH_none (fun ht => by
    rw [← hts] at ht
    obtain ⟨p, hp, rfl⟩ := List.mem_map.mp ht
    rw [L.out p hp] at hb; cases hb) fun ⟨ha, hk⟩ => by rw [ha, hk] at hb; cases hb)
  have module : L2.Mod K mg (hidT s.heap H) := ⟨inB, spaces G.T.g, ⟨mb, spaces G.T.b, G.T.builtins⟩, G.T.nolimit.imp fun _ h => ⟨spaces h.1, h.2⟩⟩
  have tables : ∀ p ∈ cs, LamX.TabB (hidT s.heap H) mg p.1 p.2 := by
    intro p hp
    obtain ⟨m0, es0, ep0, glob, globD, _⟩ := G.T.g
    obtain ⟨bm, ob, b1, b2, b3, b4, b5, b6⟩ := G.T.bmain
    refine ⟨PySem.W.codeHd_of_K inB (L.hd p hp), ⟨bm, ob, b1, b2, ?_, ?_, under b3 ?_ ?_, b4, b5, b6⟩, ?_⟩
    · rintro rfl
      rw [glob] at b3
      rw [Option.some.inj b3, b6] at globD
      cases globD
    · rintro rfl
      rw [L.emp p hp] at b3
      rw [← Option.some.inj b3] at b6
      cases b6
    · rw [b6]; exact fun e => nomatch e
    · rw [b6]; exact fun _ _ e => nomatch e
    · intro e
      rw [e, L.emp p hp] at glob
      rw [← Option.some.inj glob] at globD
      cases globD
  have held : HOk l.prog w H s.heap := by
    intro b u hb
    rcases entryH_some hb with ⟨ht, rfl⟩ | ⟨rfl, _, rfl⟩
    · exact tabs b ht
    · exact ⟨script, by rw [List.length_map]; exact Nat.le_trans few hz, vs, 0, rel, script⟩
  have entry : Env0 l.prog w K mg (hidT s.heap H) callerA [] s H :=
    ⟨rfl, module, fun _ _ e => of_hidT e, Nat.le_of_eq (hidT_size _ _), trivial, fun b hb => absurd (show b ∈ ([] : List Addr) from hb) List.not_mem_nil, held, .of_eq calm⟩
  have listed : SqL K H a (ns.map V.int) := by
    cases hk : K.lookup a with
    | none => exact .inl (.inr ⟨lo, by show entryH K ts a lo _ a = _; unfold entryH; rw [if_neg notTab, if_pos ⟨rfl, hk⟩]⟩)
    | some u =>
      have e := (inK a u hk).symm.trans script
      obtain rfl := Option.some.inj e
      exact .inr ⟨_, vs.toArray, _, hk, rfl, rfl, rfl, by rw [List.size_toArray, sizes]; exact Nat.le_trans few hz, by simpa using rel⟩
  have tracked : ∀ p ∈ cs, H p.2 = some (.tbl #[]) := fun p hp => if_pos (tabIn p hp)
  refine codeAny_mono ((L.fn _ inB (spaces G.T.g) tables).run callerA [] s H ⟨[.ref a], []⟩ [.ref a] [.ref a] _ _ room rfl entry (L.bind s (.ref a)) (.cons rfl .nil) (L.prom H a ns few bits tracked listed)) ?_
  intro r s2 hr
  match r, hr with
  | .error e, ⟨_, _, _, _, _, _, _, _, _, _, _, _, no⟩ => exact no.elim
  | .ok .next, no => exact no.elim
  | .ok .brk, no => exact no.elim
  | .ok .cont, no => exact no.elim
  | .ok (.ret u), ⟨v, H2, os, bare, un, held2, ru, hv⟩ =>
    obtain rfl : v = V.bl true := hv
    obtain rfl : u = Value.bool true := ru
    have noFr : ∀ b : Addr, b ∉ frs ([] : List Env) := fun b z => absurd (show b ∈ ([] : List Addr) from z) List.not_mem_nil
    have stays : ∀ b u, b ∉ ts → s.heap.get? b = some u → s2.heap.get? b = some u := by
      intro b u hb hu
      by_cases hl : b = a ∧ K.lookup a = none
      · have e : H b = some (.frz lo (.lst (ns.map V.int))) := by show entryH K ts a lo _ b = _; unfold entryH; rw [if_neg hb, if_pos hl]
        have e2 := (held2 b _ (un.frzs b lo _ e)).1
        rw [hl.1, script] at hu
        rw [e2, ← Option.some.inj hu]
      · exact un.keep b u hu (entryH_none hb hl) (noFr b) List.not_mem_nil
    have grows : ∀ p ∈ cs, ∃ more : Array Value, s2.heap.get? p.2 = some { cls := .none, data := .fields more } := fun p hp =>
      let ⟨more, e⟩ := un.tbls p.2 #[] (tracked p hp)
      ⟨_, held2 p.2 _ e⟩
    refine ⟨rfl, ⟨fun b u hb => ?_, fun b u hb => ?_⟩, os, bare⟩
    · by_cases ht : b ∈ ts
      · rw [← hts] at ht
        obtain ⟨p, hp, rfl⟩ := List.mem_map.mp ht
        obtain ⟨more, hm⟩ := grows p hp
        rw [L.emp p hp] at hb
        rw [← Option.some.inj hb]
        exact .inr (.inl ⟨((PySem.W.codeHd_of_K inK (L.hd p hp)).tab (L.emp p hp)).isCodeTable, rfl, #[], more, rfl, by rw [Array.empty_append]; exact hm⟩)
      · exact .inl (stays b u ht hb)
    · by_cases ht : b ∈ ts
      · rw [← hts] at ht
        obtain ⟨p, hp, rfl⟩ := List.mem_map.mp ht
        exact let ⟨_, hm⟩ := grows p hp; ⟨_, hm⟩
      · exact ⟨u, stays b u ht hb⟩
end Mi

set_option Elab.async false
set_option linter.all false
set_option maxRecDepth 100000
set_option maxHeartbeats 2000000
/-! MiK: sorted({.. for .. in ..}), the members tuples of ints; len(set(t)) of a tuple of ints. -/
namespace Mi
open PySem PySem.Spec PyProof.Rows L2
section
variable {X : Cx} {pins : List (Addr × Obj)} {σ : L2.St} {H : Hp} {s : Shared}
/-- D.add(x), D a set of tuples of ints -/
theorem tset_add {E : Value → Shared → Prop} {D x : Addr} {L : List (Addr × List Int)} {k : List Int} {Q : Value → Shared → Prop} (I : Inv X pins σ H s) (hD : H D = some (SetTO X.prog X.w D L)) (hL : ∀ p ∈ L, SqT X.K H p.1 (p.2.map V.int)) (hx : SqT X.K H x (k.map V.int)) (few : L.length + 1 < 64) (room : X.A.units + 4 < cLine)
    (next : ∀ s' L', (k ∈ L.map (·.2) → L' = L) → (k ∉ L.map (·.2) → L'.Perm ((x, k) :: L)) → Inv X pins σ (upd H D (SetTO X.prog X.w D L')) s' → Q .none s') : wpAny (model X.prog X.w) X.A (call (.builtin "set.add") [.ref D, .ref x]) Q E s := by
  have there : SetT0 X.prog X.w s.heap D L := (I.hok D _ hD).1
  obtain ⟨es, ep, t, R⟩ := there.full fun p hp => I.isT (hL p hp)
  obtain ⟨o, ho, exact_, _⟩ := R.ob
  have key := I.isT hx
  have isSet : s.TypeIs (.ref D) "set" := ⟨o, ho, exact_.1⟩
  refine wpAny_call_entry PySem.F.slot_set_add isSet PySem.F.entry_set_add ?_ (PySem.F.args_set_add_2 _ _)
  unfold Builtin.«set.add» Builtin.Frozenset.oneOther; simp only [List.isEmpty_nil, bind_assoc]; unfold Builtin.Frozenset.addrOf setAdd
  refine wpAny_bind (wpAny_pure ?_); try dsimp only
  refine wpAny_bind (wpAny_pure ?_); try dsimp only
  refine wpAny_bind (wpAny_holding ?_)
  refine wpAny_bind (wpAny_pyHash_tuple (by show X.A.units + _ < _; omega) key ?_)
  refine add_at (s := { s with toks := s.toks + (k.length + 1) }) (R.keep (fun _ e => e) fun p hp => I.isT (hL p hp)) key (by show X.A.units + _ < _; omega) few fun b h' L' es' ep' t' but R' same more => ?_
  show wpAny _ _ (ret Value.none) _ _ _
  obtain ⟨o', ho', _⟩ := R'.ob
  exact wpAny_pure ⟨_, rfl, next _ L' same more (I.write (e := D) (t' := s.toks + (k.length + 1)) (by rw [hD]; trivial) (.inl rfl) (fun c u hc hu => (but.2 c hc).trans hu) ⟨o', ho'⟩ (setTO_new R'.t0))⟩

/-- {elt for tg in iter if ..}, the members tuples of ints: D the new set -/
def tScT (K : PySem.W.Frag) (P : Program) (w : World) (wi : TI) (g : TG) (tt : TT) (te : TE) (vs : List Nat) : TE := fun σ H Q => wi σ H fun J H1 => ∀ D, H1 D = none → ∃ Wv : Nat → Nat → Hp → Prop, (∃ m, Wv 0 m (upd H1 D (SetTO P w D []))) ∧ ∀ i m H, Wv i m H →
  (J.stop i H ∧ Q (.ref D) H) ∨ (J.go i H ∧ ∃ Nx : Hp → Prop, (∀ H', Nx H' → ∃ m', m' < m ∧ Wv (i + 1) m' H') ∧ ∀ x H', J.yld i H x H' → g x (wipe σ vs) H' fun σ2 H2 => wipe σ2 vs = wipe σ vs ∧ tt σ2 H2 fun b H3 =>
    if b = true then te σ2 H3 fun y H4 => ∃ (a : Addr) (k : List Int) (L : List (Addr × List Int)), y = .ref a ∧ SqT K H4 a (k.map V.int) ∧ H4 D = some (SetTO P w D L) ∧ (∀ p ∈ L, SqT K H4 p.1 (p.2.map V.int)) ∧ L.length + 1 < 64 ∧
      ∀ L', (k ∈ L.map (·.2) → L' = L) → (k ∉ L.map (·.2) → L'.Perm ((a, k) :: L)) → Nx (upd H4 D (SetTO P w D L')) else Nx H3)
theorem pe_scT {elt tg iter : Expr} {ifs : List Expr} {scope : Scope} {own : List (Str × Nat)} {pos : Pos} {wi : TI} {g : TG} {tt : TT} {te : TE} (calm : X.calm = true) (room : X.A.units + 64 < cLine) (nd : X.N.Nodup) (itr : PI X tg iter wi) (blk : BlkOk X.N X.env.scope scope own)
    (hg : ∀ (s : Shared) (H : Hp) (C : Addr) (cl : List (Str × Addr)) (fp : List Addr), PG (X.blk s H scope (compEnvC scope cl C X.env) fp) tg g) (ht : ∀ (s : Shared) (H : Hp) (C : Addr) (cl : List (Str × Addr)) (fp : List Addr), PTs (X.blk s H scope (compEnvC scope cl C X.env) fp) ifs tt)
    (he : ∀ (s : Shared) (H : Hp) (C : Addr) (cl : List (Str × Addr)) (fp : List Addr), PE (X.blk s H scope (compEnvC scope cl C X.env) fp) elt te) (hs : ∀ x, foldedSetIterable iter X.env x = pure x) :
    PE X (.SetComp elt [⟨tg, iter, ifs, 0⟩] scope pos) (tScT X.K X.prog X.w wi g tt te (own.map (·.2))) := by
  constructor
  intro pins s σ H Q I want
  rw [PpSet.eval_SetComp]
  have outer : ∀ y ∈ scope.names, y.2 = .free → ∃ c, X.env.cells.lookup y.1 = some c := fun y hy e => (blk.free y hy e).elim (fun z => I.ok.has _ (.inl z)) fun z => I.ok.has _ (.inr z)
  refine wpAny_comprehension_free (use := none) rfl hs (closure_ok outer) blk.kind (fun y hy e => (blk.uniq y hy).trans (by rw [e])) ?_
  refine thn (itr.run pins s σ H _ I want) fun _ s1 made => thn made ?_
  rintro _ s2 ⟨it, fp, tn, J, H2, rfl, I2, T, at0, foot, want⟩
  refine PpSet.newSet_ok (newEnv_comp ?_)
  -- the new set
  let D := s2.heap.objs.size
  have fresh : H2 D = none := I2.hok.fresh (Nat.le_refl _)
  obtain ⟨Wv, ⟨m0, first⟩, turn⟩ := want D fresh
  let s3 : Shared := { s2 with heap := s2.heap.push { cls := .type "set", dict := none, data := .set #[] 0 (.fresh 0 0 (!X.w.params.followText "set-order")) } }
  let H3 : Hp := upd H2 D (SetTO X.prog X.w D [])
  have grown : ∀ b o, s2.heap.get? b = some o → s3.heap.get? b = some o := fun b o e => Heap.get?_push_of_some _ e
  have I3 : Inv X pins σ H3 s3 := I2.laid (t' := s2.toks) grown (Nat.le_refl _) (setTO_new (setTR_fresh (Heap.get?_push_size _ rfl)).t0)
  have foot3 : ∀ b ∈ fp, FpOk X pins H3 b ∧ b < s3.heap.objs.size := by
    intro b hb
    obtain ⟨o, ho, _⟩ := T.obj _ _ at0 b hb
    have lt : b < D := Heap.lt_size ho
    exact ⟨⟨(upd_ne (Nat.ne_of_lt lt)).trans (foot b hb).1, (foot b hb).2⟩, Heap.lt_size (grown b o ho)⟩
  have at3 : tn 0 s3.heap := T.keep _ _ _ at0 fun b _ o e => grown b o e
  have I4 := block_start I3 blk nd foot3
  have none3 : ∀ b ∈ fp, H3 b = none := fun b hb => (foot3 b hb).1.1
  let C := s3.heap.objs.size
  let ce := compEnvC scope (cellsFrom (C + 1) scope.names (cloFrom X.env.cells scope.names [])) C X.env
  let Y : Cx := X.blk s3 H3 scope ce fp
  let s4 : Shared := { s3 with heap := pushCells (s3.heap.push { cls := .type "dict", data := .dict #[] }) scope.names }
  have at4 : tn 0 s4.heap := T.keep _ _ _ at3 fun b _ o e => pushCells_keeps _ _ _ _ (Heap.get?_push_of_some _ e)
  have feet : ∀ {σ' : L2.St} {H' : Hp} {s' : Shared}, Inv Y [] σ' H' s' → (∀ b ∈ fp, H' b = none) → ∀ b ∈ fp, FpOk Y [] H' b := fun J' hn b hb =>
    ⟨hn b hb, (J'.ok.exf b hb).1, J'.ok.exfs b hb, .inl hb, fun y c e => (J'.ok.exf b hb).2 y c e, fun p hp => absurd (show p ∈ ([] : List (Addr × Obj)) ++ [] from hp) List.not_mem_nil⟩
  let Loop : Nat → Shared → Prop := fun n s' => ∃ i H', Inv Y [] (wipe σ (own.map (·.2))) H' s' ∧ tn i s'.heap ∧ (∀ b ∈ fp, H' b = none) ∧ Wv i n H'
  have loop : codeAny (model X.prog X.w) X.A (.compLoop (.SetComp elt [⟨tg, iter, ifs, 0⟩] scope pos) 0 (.ref it) (.ref D) ce) (compPost (model X.prog X.w) X.A X.xe none (EP X pins σ Q) (.ref D) C) s4 := by
    refine PpSet.compLoopS_any Loop ?_ m0 ⟨0, H3, I4, at4, none3, first⟩
    rintro n s5 ⟨i, H5, I5, at5, none5, w5⟩
    rcases turn i n H5 w5 with ⟨stop, done⟩ | ⟨go, Nx, later, step⟩
    · refine thnF (T.done Y rfl rfl rfl calm i [] s5 _ H5 (fun _ _ => False) I5 (feet I5 none5) at5 stop) ?_
      rintro _ s6 ⟨rfl, I6⟩
      have back : Inv X pins σ H5 s6 := I3.call' (ch := fp) I6.os I6.base I6.hok I6.bare fun b hb => let F := (foot3 b hb).1; ⟨F.2.2.2.1, F.2.1, F.2.2.2.2.1, F.2.2.2.2.2⟩
      obtain ⟨m, names, _⟩ := I6.loc
      have names' : s6.heap.Ns C m := names
      have noC : H5 C = none := I6.free
      refine ⟨m, names', fun h'' but => ?_⟩
      obtain ⟨f0, f1, f2, f3, f4, f5⟩ := I3.fpOk (H' := H5) (b := C) (Nat.le_refl _) noC
      exact ⟨.ref D, H5, back.turned (t' := s6.toks) (fun c o hc e => (but.2 c hc).trans e) f0 f1 f3 f4 f5, rfl, done⟩
    · refine thnF (T.item Y rfl rfl rfl calm i [] s5 _ H5 (fun _ _ => False) I5 (feet I5 none5) at5 go) ?_
      rintro _ s6 ⟨u, rfl, shown⟩
      refine thnF shown ?_
      rintro _ s7 ⟨x, H7, I7, r7, y7, at7, none7⟩
      have I7' := I7.pinned (feet I7 none7) (T.obj _ _ at7)
      refine thnF ((hg s3 H3 C (cellsFrom (C + 1) scope.names (cloFrom X.env.cells scope.names [])) fp).run _ s7 _ H7 x u _ I7' r7 (step x H7 y7)) ?_
      rintro _ s8 ⟨σ8, H8, I8, wiped, q8⟩
      refine thnF ((ht s3 H3 C (cellsFrom (C + 1) scope.names (cloFrom X.env.cells scope.names [])) fp).run _ s8 σ8 H8 _ I8 q8) ?_
      rintro b s9 ⟨H9, I9, q9⟩
      have again : ∀ {s' : Shared} {H' : Hp}, Inv Y ([] ++ pinsAt fp s7.heap) σ8 H' s' → Nx H' → ∃ m, m < n ∧ Loop m s' := by
        intro s' H' J' nx
        obtain ⟨m', less, w'⟩ := later H' nx
        have stand : ∀ b ∈ fp, ∀ o, s7.heap.get? b = some o → s'.heap.get? b = some o ∧ H' b = none := fun b hb o e => let z := J'.pin (b, o) (List.mem_append_right _ (List.mem_append_right _ (mem_pinsAt hb e))); ⟨z.1, z.2.1⟩
        refine ⟨m', less, i + 1, H', (J'.unpinned (pins := [])).weak (by rw [← wiped, wipe_length]) (fun j v e => (wipe_some (by rw [wiped]; exact e)).1), T.keep _ _ _ at7 fun b hb o e => (stand b hb o e).1, fun b hb => ?_, w'⟩
        obtain ⟨o, e, _⟩ := T.obj _ _ at7 b hb
        exact (stand b hb o e).2
      match b, q9 with
      | false, q9 => exact again I9 q9
      | true, q9 =>
        refine thnF ((he s3 H3 C (cellsFrom (C + 1) scope.names (cloFrom X.env.cells scope.names [])) fp).run _ s9 σ8 H9 _ I9 q9) ?_
        rintro z s10 ⟨_, H10, I10, r10, a, k, L, rfl, sq, hD, hL, few, nx⟩
        obtain rfl : z = Value.ref a := r10
        exact tset_add (X := Y) I10 hD hL sq few (by show X.A.units + 4 < cLine; omega) fun s11 L' same more I11 => again I11 (nx L' same more)
  exact PpSet.codeAny_compStart_set loop (T.self X.A 0 _ _ _ at4 loop)
end

/-! ### an object of a kind that no value stands for, changed -/
section
variable {G : Gx} {ad ad1 : Adr} {H H1 : Hp} {M M1 : Store} {D0 : Addr} {o' : HO} {φ : Heap → Prop}
theorem swap_ne {a : Addr} {o : HO} (hD : H D0 = some (.ext φ)) (h : H a = some o) (d : ∀ ψ, o ≠ .ext ψ) : a ≠ D0 := fun z => by
  rw [z, hD] at h
  exact d φ (Option.some.inj h).symm
theorem SqT.swap {K : PySem.W.Frag} (hD : H D0 = some (.ext φ)) {a : Addr} {vs : List V} (h : SqT K H a vs) : SqT K (upd H D0 o') a vs := by
  rcases h with (h | ⟨o, h⟩) | h
  · exact .inl (.inl ((upd_ne (swap_ne hD h fun _ z => nomatch z)).trans h))
  · exact .inl (.inr ⟨o, (upd_ne (swap_ne hD h fun _ z => nomatch z)).trans h⟩)
  · exact .inr h
theorem SqF.swap (hD : H D0 = some (.ext φ)) {a : Addr} {vs : List V} (h : SqF G ad H M a vs) : SqF G ad (upd H D0 o') M a vs := by
  rcases h with ⟨h | ⟨o, h⟩, r⟩ | h
  · exact .inl ⟨.inl ((upd_ne (swap_ne hD h fun _ z => nomatch z)).trans h), r⟩
  · exact .inl ⟨.inr ⟨o, (upd_ne (swap_ne hD h fun _ z => nomatch z)).trans h⟩, r⟩
  · exact .inr h
mutual
theorem Rep.swap (hD : H D0 = some (.ext φ)) : ∀ (d : D) (v : V), Rep G ad H M d v → Rep G ad (upd H D0 o') M d v
  | .non, _, h => by simpa [Rep] using h
  | .bl _, _, h => by simpa [Rep] using h
  | .int _, _, h => by simpa [Rep] using h
  | .str _, _, h => by simpa [Rep] using h
  | .fn _, _, h => by simpa [Rep] using h
  | .cls _, _, h => by simpa [Rep] using h
  | .ty _, _, h => by simpa [Rep] using h
  | .loc _, _, h => by simpa [Rep] using h
  | .dct0, _, h => by
    simp only [Rep] at h ⊢
    obtain ⟨a, e1, e2, na⟩ := h
    exact ⟨a, e1, (upd_ne (swap_ne hD e2 fun _ z => nomatch z)).trans e2, na⟩
  | .tup xs, _, h => by
    simp only [Rep] at h ⊢
    obtain ⟨a, vs, e1, e2, e3⟩ := h
    exact ⟨a, vs, e1, SqT.swap hD e2, Reps.swap hD xs vs e3⟩
  | .lst xs, _, h => by
    simp only [Rep] at h ⊢
    obtain ⟨a, vs, e1, ⟨e2, r⟩, e3⟩ := h
    exact ⟨a, vs, e1, ⟨(upd_ne (swap_ne hD e2 fun _ z => nomatch z)).trans e2, r⟩, Reps.swap hD xs vs e3⟩
  | .scr xs, _, h => by
    simp only [Rep] at h ⊢
    obtain ⟨a, vs, e1, e2, e3⟩ := h
    exact ⟨a, vs, e1, SqF.swap hD e2, Reps.swap hD xs vs e3⟩
theorem Reps.swap (hD : H D0 = some (.ext φ)) : ∀ (ds : List D) (vs : List V), Reps G ad H M ds vs → Reps G ad (upd H D0 o') M ds vs
  | [], _, h => by simpa [Reps] using h
  | d :: ds, _, h => by
    simp only [Reps] at h ⊢
    obtain ⟨v, r, e1, e2, e3⟩ := h
    exact ⟨v, r, e1, Rep.swap hD d v e2, Reps.swap hD ds r e3⟩
end
theorem RepK.swap (hD : H D0 = some (.ext φ)) : ∀ (ds : List (Int × D)) (vs : List (Key × V)), RepK G ad H M ds vs → RepK G ad (upd H D0 o') M ds vs
  | [], _, h => by simpa [RepK] using h
  | (k, d) :: ds, _, h => by
    simp only [RepK] at h ⊢
    obtain ⟨v, r, e1, e2, e3⟩ := h
    exact ⟨v, r, e1, Rep.swap hD d v e2, RepK.swap hD ds r e3⟩
theorem RelM.swap (hD : H D0 = some (.ext φ)) (m : RelM G ad H M) : RelM G ad (upd H D0 o') M where
  pur := m.pur
  ok := fun l o h => by
    have q := m.ok l o h
    cases o with
    | lst xs =>
      obtain ⟨vs, q1, q2⟩ := q
      exact ⟨vs, (upd_ne (swap_ne hD q1 fun _ z => nomatch z)).trans q1, Reps.swap hD _ _ q2⟩
    | dct xs =>
      obtain ⟨vs, q1, q2⟩ := q
      exact ⟨vs, (upd_ne (swap_ne hD q1 fun _ z => nomatch z)).trans q1, RepK.swap hD _ _ q2⟩
  inj := m.inj
  tab := fun P hP => by
    obtain ⟨ps, h1, h2⟩ := m.tab P hP
    exact ⟨ps, (upd_ne (swap_ne hD h1 fun _ z => nomatch z)).trans h1, h2⟩
  xd := fun r hr => (upd_ne (swap_ne hD (m.xd r hr) fun _ z => nomatch z)).trans (m.xd r hr)
  rsv := fun a ha => by
    obtain ⟨⟨vs, h1⟩, h2⟩ := m.rsv a ha
    exact ⟨⟨vs, (upd_ne (swap_ne hD h1 fun _ z => nomatch z)).trans h1⟩, h2⟩
theorem Ext.swap (h0 : H1 D0 = none) (e : Ext G ad1 H1 M1 ad H M) : Ext G ad1 H1 M1 ad (upd H D0 o') M where
  rs := e.rs
  rsu := e.rsu
  len := e.len
  adr := e.adr
  frame := fun a o h n t => (upd_ne (fun z => by rw [z, h0] at h; cases h)).trans (e.frame a o h n t)
  dead := e.dead
  tbl := fun a ps h => let ⟨ps', q⟩ := e.tbl a ps h; ⟨ps', (upd_ne (fun z => by rw [z, h0] at h; cases h)).trans q⟩
  al := fun a h n => by rw [upd_ne (fun z => n (by rw [z]; exact h0))]; exact e.al a h n
theorem RelE.swap {env : Ev} {σ : L2.St} (hD : H D0 = some (.ext φ)) (re : RelE G ad H M env σ) : RelE G ad (upd H D0 o') M env σ := ⟨re.1, fun i d q => let ⟨v, h1, h2⟩ := re.2 i d q; ⟨v, h1, Rep.swap hD d v h2⟩⟩
end

/-! ### sorted({elt for p in it if ifs}) -/
def scD (p : Pat) (ifs : Ev → Store → Res Bool) (elt : Ev → Store → Res D) : List D → List (List Int) → Ev → Store → Res (List (List Int))
  | [], acc, _, M => .ok acc M
  | x :: xs, acc, env, M => match asgP M p x env with
    | none => .stuck
    | some env1 => (ifs env1 M).bindN fun k M1 => if k = true then (elt env1 M1).bindN fun d M2 => match d with
      | .tup ys => (Res.of (intsOf ys) M2).bindN fun is M2 => if acc.length + 1 < 64 then scD p ifs elt xs (acc ++ [is]) env M2 else .stuck
      | _ => .stuck
      else scD p ifs elt xs acc env M1
def evSSC (p : Pat) (own : List Nat) (it : Ev → Store → Res (List D)) (ifs : Ev → Store → Res Bool) (elt : Ev → Store → Res D) : Ev → Store → Res D := fun env M => (it env M).bind fun xs M1 => (scD p ifs elt xs [] (wipeD env own) M1).bind fun ls M2 => if okTups ls = true then .ok (.lst ((sortC (nubL ls)).map tupD)) M2 else .stuck
section
variable {G : Gx} {X : Cx} {W : WX}
/-- L stands for the tuples acc -/
structure Stands (K : PySem.W.Frag) (H : Hp) (L : List (Addr × List Int)) (acc : List (List Int)) : Prop where
  tup : ∀ p ∈ L, SqT K H p.1 (p.2.map V.int)
  mem : ∀ is, is ∈ L.map (·.2) ↔ is ∈ acc
  few : L.length ≤ acc.length
theorem Stands.add {K : PySem.W.Frag} {H H' : Hp} {L L' : List (Addr × List Int)} {acc : List (List Int)} {a : Addr} {k : List Int} (S : Stands K H L acc) (keep : ∀ p : Addr × List Int, SqT K H p.1 (p.2.map V.int) → SqT K H' p.1 (p.2.map V.int)) (hk : SqT K H a (k.map V.int)) (same : k ∈ L.map (·.2) → L' = L) (more : k ∉ L.map (·.2) → L'.Perm ((a, k) :: L)) : Stands K H' L' (acc ++ [k]) := by
  by_cases hm : k ∈ L.map (·.2)
  · have e := same hm
    subst e
    refine ⟨fun p hp => keep p (S.tup p hp), fun is => ?_, by rw [List.length_append]; exact Nat.le_trans S.few (Nat.le_add_right _ _)⟩
    rw [S.mem, List.mem_append, List.mem_singleton]
    exact ⟨.inl, fun h => h.elim id fun e => by rw [e]; exact (S.mem k).mp hm⟩
  · have pm := more hm
    refine ⟨fun p hp => ?_, fun is => ?_, by rw [pm.length_eq, List.length_append]; exact Nat.succ_le_succ S.few⟩
    · rcases List.mem_cons.mp (pm.mem_iff.mp hp) with rfl | hp
      · exact keep (a, k) hk
      · exact keep p (S.tup p hp)
    · rw [(pm.map (·.2)).mem_iff, List.map_cons, List.mem_cons, S.mem, List.mem_append, List.mem_singleton]
      exact Or.comm
theorem sc_run {P : Program} {w : World} {p : Pat} {fi : Ev → Store → Res Bool} {fe : Ev → Store → Res D} {xs : List D} {J : It} {vs : List Nat} {σ : L2.St} {env : Ev} {ad1 : Adr} {H1 : Hp} {M1 : Store} {D0 : Addr} {Qd : Hp → Prop} {W0 : WX0} {β : Type} {rel2 : Adr → Hp → Store → β → V → Prop} {k : List (List Int) → Store → Res β} {Q : VK}
    (hs : ∀ i ∈ slotsP p, i ∈ vs) (re : RelE G ad1 H1 M1 env σ) (m1 : RelM G ad1 H1 M1) (w1 : Wk G J xs ad1 H1 M1) (h0 : H1 D0 = none)
    (q1 : PostR G W0 rel2 ad1 H1 M1 ((scD p fi fe xs [] (wipeD env vs) M1).bind k) Q)
    (hend : ∀ ad H M ls L, Ext G ad1 H1 M1 ad H M → RelM G ad H M → H D0 = some (SetTO P w D0 L) → Stands G.K H L ls → PostR G W0 rel2 ad1 H1 M1 (k ls M) Q → Qd H) :
    ∃ Wv : Nat → Nat → Hp → Prop, (∃ m, Wv 0 m (upd H1 D0 (SetTO P w D0 []))) ∧ ∀ i m H, Wv i m H →
      (J.stop i H ∧ Qd H) ∨ (J.go i H ∧ ∃ Nx : Hp → Prop, (∀ H', Nx H' → ∃ m', m' < m ∧ Wv (i + 1) m' H') ∧ ∀ x H', J.yld i H x H' → tG G p x (wipe σ vs) H' fun σ2 H2 => wipe σ2 vs = wipe σ vs ∧ tT G WNo fi σ2 H2 fun b H3 =>
        if b = true then tE G WNo fe σ2 H3 fun y H4 => ∃ (a : Addr) (k : List Int) (L : List (Addr × List Int)), y = .ref a ∧ SqT G.K H4 a (k.map V.int) ∧ H4 D0 = some (SetTO P w D0 L) ∧ (∀ p ∈ L, SqT G.K H4 p.1 (p.2.map V.int)) ∧ L.length + 1 < 64 ∧
          ∀ L', (k ∈ L.map (·.2) → L' = L) → (k ∉ L.map (·.2) → L'.Perm ((a, k) :: L)) → Nx (upd H4 D0 (SetTO P w D0 L')) else Nx H3) := by
  let At : List D → Hp → Prop := fun rest H => ∃ ad M acc L, Ext G ad1 H1 M1 ad H M ∧ RelM G ad H M ∧ H D0 = some (SetTO P w D0 L) ∧ Stands G.K H L acc ∧ RelE G ad H M (wipeD env vs) (wipe σ vs) ∧ PostR G W0 rel2 ad1 H1 M1 ((scD p fi fe rest acc (wipeD env vs) M).bind k) Q
  have e0 := Ext.laid (o := SetTO P w D0 []) h0 m1
  refine ⟨fun i m H => i + m = xs.length ∧ At (xs.drop i) H, ⟨xs.length, by omega, ad1, M1, [], [], e0, RelM.laid h0 m1, upd_same, ⟨fun p hp => (by cases hp), fun is => Iff.rfl, Nat.le_refl _⟩, (RelE.ext e0.toExt0 m1 re).wipe vs, by rw [List.drop_zero]; exact q1⟩, ?_⟩
  rintro i m H ⟨him, ad, M, acc, L, e, mm, hD, st, rE, q⟩
  obtain ⟨wg, ws⟩ := w1 ad H M e.toExt0 mm i
  have noAl : ∀ {ad : Adr} {H : Hp} {M : Store} {L : List (Addr × List Int)}, RelM G ad H M → H D0 = some (SetTO P w D0 L) → ¬ Al ad M D0 := fun {ad H M L} mm hD ⟨l, o, hl, z⟩ => by
    have r := mm.ok l o hl
    rw [z] at r
    cases o with
    | lst xs => obtain ⟨us, r1, _⟩ := r; rw [hD] at r1; cases r1
    | dct xs => obtain ⟨us, r1, _⟩ := r; rw [hD] at r1; cases r1
  have stay : ∀ {ad ad' : Adr} {H H' : Hp} {M M' : Store} {L : List (Addr × List Int)} {acc : List (List Int)}, Ext G ad H M ad' H' M' → RelM G ad H M → Stands G.K H L acc → Stands G.K H' L acc := fun e mm s => ⟨fun p hp => SqT.ext e.toExt0 mm (s.tup p hp), s.mem, s.few⟩
  by_cases hi : i < xs.length
  · obtain ⟨g1, g2⟩ := wg hi
    refine .inr ⟨g1, At (xs.drop (i + 1)), fun H2 h2 => ⟨m - 1, by omega, by omega, h2⟩, fun x H2 hy => ?_⟩
    obtain ⟨d, hd, ex, mx, rx⟩ := g2 x H2 hy
    have hdrop : xs.drop i = d :: xs.drop (i + 1) := by
      rw [List.drop_eq_getElem_cons hi]
      rw [List.getElem?_eq_getElem hi] at hd
      rw [Option.some.inj hd]
    rw [hdrop] at q
    simp only [scD] at q
    split at q
    · exact q.elim
    · rename_i env1 hasg
      have rE2 := rE.ext ex.toExt0 mm
      have hD2 : H2 D0 = some (SetTO P w D0 L) := ex.frame D0 _ hD (noAl mm hD) rfl
      refine ⟨d, wipeD env vs, env1, M, ad, rx, rE2, mx, hasg, fun σ3 re3 s3 => ⟨wipe_same s3 hs, env1, M, ad, re3, mx, ?_⟩⟩
      cases hfi : fi env1 M with
      | stuck => rw [hfi] at q; exact q.elim
      | exc c fs M2 => rw [hfi] at q; exact q.elim
      | ok b M2 =>
        rw [hfi] at q
        simp only [Res.bindN] at q
        intro ad3 H3 b' e3 m3 eb
        cases (show b = b' from eb)
        have hD3 : H3 D0 = some (SetTO P w D0 L) := e3.frame D0 _ hD2 (noAl mx hD2) rfl
        have e13 : Ext G ad1 H1 M1 ad3 H3 M2 := (e.trans ex).trans e3
        have st3 := stay e3 mx (stay ex mm st)
        have rE3 := rE2.ext e3.toExt0 mx
        cases b with
        | false =>
          rw [if_neg (by simp)] at q ⊢
          exact ⟨ad3, M2, acc, L, e13, m3, hD3, st3, rE3, q⟩
        | true =>
          rw [if_pos rfl] at q ⊢
          refine ⟨env1, M2, ad3, re3.ext e3.toExt0 mx, m3, ?_⟩
          cases hfe : fe env1 M2 with
          | stuck => rw [hfe] at q; exact q.elim
          | exc c fs M3 => rw [hfe] at q; exact q.elim
          | ok y M3 =>
            rw [hfe] at q
            simp only [Res.bindN] at q
            split at q
            · rename_i ys
              cases hys : intsOf ys with
              | none => rw [hys] at q; exact q.elim
              | some is =>
                rw [hys] at q
                simp only [Res.of] at q
                by_cases few : acc.length + 1 < 64
                · rw [if_pos few] at q
                  intro ad4 H4 yv e4 m4 ry
                  have hD4 : H4 D0 = some (SetTO P w D0 L) := e4.frame D0 _ hD3 (noAl m3 hD3) rfl
                  have st4 := stay e4 m3 st3
                  rw [intsOf_eq hys] at ry
                  obtain ⟨a, rfl, ha⟩ := rep_tupI.mp (show Rep G ad4 H4 M3 (tupD is) yv from ry)
                  refine ⟨a, is, L, rfl, ha, hD4, st4.tup, by have := st4.few; omega, fun L' same more => ?_⟩
                  exact ⟨ad4, M3, acc ++ [is], L', Ext.swap h0 (e13.trans e4), RelM.swap hD4 m4, upd_same, st4.add (fun p h => SqT.swap hD4 h) ha same more, RelE.swap hD4 (rE3.ext e4.toExt0 m3), q⟩
                · rw [if_neg few] at q; exact q.elim
            · exact q.elim
  · refine .inl ⟨ws (by omega), ?_⟩
    rw [List.drop_of_length_le (by omega)] at q
    exact hend ad H M acc L e mm hD st q
variable {p p2 pos2 pos : Pos}
theorem se_sortSC {elt tg iter : Expr} {ifs : List Expr} {scope : Scope} {own : List (Str × Nat)} {pt : Pat} {fi : Ev → Store → Res (List D)} {ft : Ev → Store → Res Bool} {fe : Ev → Store → Res D} (hK : X.K = G.K) (hc : X.calm = true) (hu : X.A.units + 64 < cLine) (hgl : Gl X "sorted") (hm : X.mg "sorted" = none) (hN : X.N.Nodup) (hi : PI X tg iter (tI G W fi)) (ok : BlkOk X.N X.env.scope scope own) (hp : ∀ i ∈ slotsP pt, i ∈ own.map (·.2))
    (hg : ∀ (s : Shared) (H : Hp) (C : Addr) (cl : List (Str × Addr)) (fp : List Addr), PG (X.blk s H scope (compEnvC scope cl C X.env) fp) tg (tG G pt)) (ht : ∀ (s : Shared) (H : Hp) (C : Addr) (cl : List (Str × Addr)) (fp : List Addr), PTs (X.blk s H scope (compEnvC scope cl C X.env) fp) ifs (tT G WNo ft))
    (he : ∀ (s : Shared) (H : Hp) (C : Addr) (cl : List (Str × Addr)) (fp : List Addr), PE (X.blk s H scope (compEnvC scope cl C X.env) fp) elt (tE G WNo fe)) (hs : ∀ x, foldedSetIterable iter X.env x = pure x)
    (na : starEach [.SetComp elt [⟨tg, iter, ifs, 0⟩] scope pos2] X.env = (false, eval (.SetComp elt [⟨tg, iter, ifs, 0⟩] scope pos2) X.env) :: starEach [] X.env) (hpl : (backTo pos (starEach [] X.env)).any (·.1) = false) :
    PE X (.Call (.Name "sorted" p) [.SetComp elt [⟨tg, iter, ifs, 0⟩] scope pos2] [] pos) (tE G W (evSSC pt (own.map (·.2)) fi ft fe)) := by
  have inner := pe_scT (pos := pos2) hc hu hN hi ok hg ht he hs
  have whole := pe_callB (cr_sortedT hc) hgl hm (by decide +kernel) (pa_cons inner pa_nil na) (by decide) (by decide) na hpl (pos := pos) (p := p)
  refine PE.weak whole fun σ H Q ⟨env, M, ad, re, rm, q⟩ => ?_
  rw [hK]
  refine ⟨env, M, ad, re, rm, PostR.imp (PostR.bind (rel := fun ad H M xs J => Wk G J xs ad H M) q) fun J H1 ⟨xs, M1, ad1, e1, m1, w1, q1⟩ => fun D0 h0 => ?_⟩
  refine sc_run hp (re.ext e1.toExt0 rm) m1 w1 h0 q1 fun ad2 H2 M2 ls L e2 m2 hD st q2 => ?_
  obtain ⟨hok, q3⟩ := post_if q2
  obtain ⟨dd, hd, hb⟩ := okTups_d hok
  have hbL : ∀ p ∈ L, p.2.length = dd ∧ TS.Bd 64 p.2 := fun p hp => hb p.2 ((st.mem _).mp (List.mem_map_of_mem hp))
  refine ⟨D0, L, dd, 64, rfl, hD, st.tup, hd, hbL, fun L' p pm nd l64 pw hp => ?_⟩
  have perm1 : (L'.map (·.2)).Perm (nubL ls) := (List.perm_ext_iff_of_nodup nd (nodup_nubL ls)).mpr fun m => by rw [mem_nubL, (pm.map (·.2)).mem_iff, st.mem]
  have e3 : L'.map (·.2) = sortC (nubL ls) := sortC_eq (fun m hm => hb m (mem_nubL.mp hm)) perm1 (List.pairwise_map.mpr pw)
  have q4 := PostR.mono q3 e2
  rw [← e3] at q4
  exact end_lst m2 (reps_ks L' fun p hp => st.tup p (pm.mem_iff.mp hp)) q4 p hp

/-! ### len(set(t)) of a tuple of ints -/
def nubN : List Int → List Int
  | [] => []
  | x :: xs => if x ∈ xs then nubN xs else x :: nubN xs
theorem mem_nubN {x : Int} : ∀ {l}, x ∈ nubN l ↔ x ∈ l
  | [] => Iff.rfl
  | y :: ys => by
    unfold nubN
    by_cases h : y ∈ ys
    · rw [if_pos h, mem_nubN, List.mem_cons]
      exact ⟨.inr, fun q => q.elim (fun e => by rw [e]; exact h) id⟩
    · rw [if_neg h, List.mem_cons, List.mem_cons, mem_nubN]
theorem nodup_nubN : ∀ l, (nubN l).Nodup
  | [] => List.Pairwise.nil
  | y :: ys => by
    unfold nubN
    by_cases h : y ∈ ys
    · rw [if_pos h]; exact nodup_nubN ys
    · rw [if_neg h, List.nodup_cons]; exact ⟨fun q => h (mem_nubN.mp q), nodup_nubN ys⟩
def evLenSet (f : Ev → Store → Res D) : Ev → Store → Res D := fun env M => (f env M).bind fun d M => match d with
  | .tup xs => (Res.of (intsOf xs) M).bind fun ns M => if ns.length < 1000 then .ok (.int ((nubN ns).length : Nat)) M else .stuck
  | _ => .stuck
theorem se_lenSet {a : Expr} {f : Ev → Store → Res D} (hK : X.K = G.K) (hc : X.calm = true) (hg : Gl X "len") (hm : X.mg "len" = none) (hg2 : Gl X "set") (hm2 : X.mg "set" = none) (ha : PE X a (tE G W f)) (na : starEach [a] X.env = (false, eval a X.env) :: starEach [] X.env)
    (na2 : starEach [.Call (.Name "set" p2) [a] [] pos2] X.env = (false, eval (.Call (.Name "set" p2) [a] [] pos2) X.env) :: starEach [] X.env) (hpl : (backTo pos2 (starEach [] X.env)).any (·.1) = false) (hpl2 : (backTo pos (starEach [] X.env)).any (·.1) = false) :
    PE X (.Call (.Name "len" p) [.Call (.Name "set" p2) [a] [] pos2] [] pos) (tE G W (evLenSet f)) := by
  refine ⟨fun pins s σ H Q I ⟨env, M, ad, re, rm, q⟩ => ?_⟩
  refine wpAny_Call_Name_kw (ld_blt I hg hm boot_len ?_ (by decide) (by decide))
  refine PyProof.Rows.callWith_builtin1 (PyProof.Rows.args_cons ?_ na2) na2 hpl2
  refine wpAny_Call_Name_kw (ld_blt I hg2 hm2 boot_set ?_ (by decide) (by decide))
  refine PyProof.Rows.callWith_type1 (PyProof.Rows.args_cons (thn (ha.run pins s σ H _ I (tE_bind re rm q)) fun v s1 hap => PyProof.Rows.args_nil ?_) na) na hpl
  obtain ⟨x, H1, I1, rx, d, M1, ad1, e1, m1, rd, q1⟩ := hap
  split at q1
  · rename_i xs
    obtain ⟨ns, hns, q1⟩ := of_bind q1
    obtain ⟨few, q1⟩ := post_if q1
    rw [intsOf_eq hns] at rd
    obtain ⟨b, rfl, hb⟩ := rep_tupI.mp (show Rep G ad1 H1 M1 (tupD ns) x from rd)
    obtain rfl : v = Value.ref b := rx
    rw [← hK] at hb
    obtain ⟨its, rv, tupl, _⟩ := I1.tuple hb
    refine call_set_tupI ns (I1.ok.hd hc) tupl (by simpa using ints_of_vals rv) (by unfold scanBound; omega) fun h' tk c R le keep => PyProof.Rows.args_nil ?_
    obtain ⟨o, es, ep, t, ho, hex, hd, _, ndk, mem, _, hf, hn, _⟩ := R
    have cnt : c = (nubN ns).length := by
      have pm : (es.toList.map keyOf).Perm (nubN ns) := (List.perm_ext_iff_of_nodup ndk (nodup_nubN ns)).mpr fun k => by rw [← mem k, decide_eq_true_eq, mem_nubN]
      have := pm.length_eq
      rw [List.length_map, Array.length_toList] at this
      omega
    have I2 : Inv X pins σ H1 { s1 with heap := h', toks := tk } := I1.kept fun b o e => keep b o e
    exact call_len_set ho hex hd hf (by omega) ⟨.int (nubN ns).length, H1, I2.tok _, ⟨_, by rw [hn, cnt]⟩, PostR.ret q1 m1 rep_int⟩
  · exact q1.elim
end
end Mi


set_option Elab.async false
set_option linter.all false
set_option maxRecDepth 100000
set_option maxHeartbeats 2000000
/-! MiL: sorted(t) of a tuple of ints. -/
namespace Mi
open PySem PySem.Spec PyProof.Rows L2
section
variable {prog : Program} {w : World} {A : Around} {E : Value → Shared → Prop} {s : Shared}
/-- a tuple's items, brought together in a list -/
theorem gather_tup {l : Addr} {vs : List Value} {Q : List Value → Shared → Prop} (hl : s.heap.IsTuple l vs.toArray) (room : vs.length ≤ sizeLine)
    (h : Q vs { s with heap := (s.heap.push (seqObj "list" #[] 0)).update s.heap.objs.size (Obj.mapSeq (· ++ vs.toArray)) }) : wpAny (model prog w) A (collect (.ref l)) Q E s := by
  obtain ⟨o, ho, hc, n, hd⟩ := id hl
  let s1 : Shared := { s with heap := s.heap.push (seqObj "list" #[] 0) }
  have new : s1.heap.get? s.heap.objs.size = some (seqObj "list" #[] 0) := Heap.get?_push_size _ rfl
  have old : s1.heap.get? l = some o := Heap.get?_push_of_some _ ho
  unfold collect; refine wpAny_bind (wpAny_runValue (codeAny_builtin PyProof.Rows.entry_proto_collect' ?_))
  show wpAny _ _ ((newList [] : Sem Value) >>= _) _ _ s
  refine wpAny_bind (wpAny_newList ?_ (Nat.zero_le _))
  refine wpAny_pure ⟨Code.quiet_builtin _ (by decide +kernel), codeAny_builtin PyProof.Rows.entry_list_iadd' ?_⟩
  show wpAny _ _ (Builtin.List.listExtendWith (.ref s.heap.objs.size) (.ref l) (.ref s.heap.objs.size)) _ _ s1
  unfold Builtin.List.listExtendWith; refine wpAny_bind (wpAny_typeOf (T := "tuple") (s := s1) ⟨o, old, hc⟩ ?_)
  rw [if_pos (by rw [beq_self_eq_true (Value.type "tuple"), Bool.or_true])]
  refine wpAny_bind (PyProof.Rows.listItems_at old hd ?_); refine wpAny_bind (PyProof.Rows.listItems_at (xs := #[]) (n := 0) new rfl ?_)
  rw [if_neg (by simp)]
  refine wpAny_bind (PyProof.Rows.listUpdate_at (xs := #[]) (n := 0) new rfl ?_ (Nat.zero_le _) (by simp only [Array.size_append, List.size_toArray]; show 0 + vs.length ≤ _; omega))
  refine wpAny_pure ?_
  refine wpAny_bind (wpAny_load (get?_update_seq new _) ?_)
  show wpAny _ _ (pure ((#[] : Array Value) ++ vs.toArray).toList) Q E _
  have e : ((#[] : Array Value) ++ vs.toArray).toList = vs := by simp
  rw [e]
  exact wpAny_pure h
theorem sorted_tupN {l : Addr} {vs : List Value} {ns : List Int} {Q : Value → Shared → Prop} (hl : s.heap.IsTuple l vs.toArray) (hI : IntsAre vs ns) (room : vs.length ≤ sizeLine)
    (h : ∀ (out : Array Value) (ns' : List Int), IntsAre out.toList ns' → ns'.Perm ns → ns'.Pairwise (· ≤ ·) → Q (.ref (s.heap.objs.size + 1)) { s with heap := PyProof.Rows.sortedAll s.heap vs out }) : wpAny (model prog w) A (call (.builtin "sorted") [.ref l]) Q E s := by
  refine Calls.call_function_entry PyProof.Rows.kind_sorted PyProof.Rows.plain_sorted PyProof.Rows.entry_sorted (PyProof.Rows.args_sorted1 _) ?_
  unfold Builtin.«sorted»; refine wpAny_bind (m := checkCount "sorted" 1 1 _) (wpAny_pure (wpAny_bind (gather_tup hl room (wpAny_bind (wpAny_newList ?_ room)))))
  let h1 := (s.heap.push (seqObj "list" #[] 0)).update s.heap.objs.size (Obj.mapSeq (· ++ vs.toArray))
  have many : h1.objs.size = s.heap.objs.size + 1 := by show ((s.heap.push (seqObj "list" #[] 0)).update s.heap.objs.size _).objs.size = _; rw [Heap.size_update, size_push']
  have new : (h1.push (seqObj "list" vs.toArray 0)).get? (s.heap.objs.size + 1) = some (seqObj "list" vs.toArray 0) := by rw [← many]; exact Heap.get?_push_size _ rfl
  show wpAny _ _ _ _ _ { s with heap := h1.push (seqObj "list" vs.toArray 0) }
  show wpAny _ _ (holding [Value.ref h1.objs.size] _ >>= _) _ _ _
  rw [many]
  refine wpAny_bind (wpAny_holding (wpAny_call_entry PyProof.Rows.slot_list_sort ⟨_, new, rfl⟩ PyProof.Rows.entry_list_sort (PyProof.Rows.list_sort_treeAny new hI room fun out ns' i1 i2 i3 => ⟨_, rfl, ?_⟩) (PyProof.Rows.args_list_sort _)))
  exact wpAny_pure ⟨_, rfl, h out ns' i1 i2 i3⟩
end
section
variable {G : Gx} {X : Cx}
def rSortedTI (K : PySem.W.Frag) : List V → Hp → VK → Prop := fun vs H Q => ∃ (a : Addr) (ns : List Int), vs = [V.ref a] ∧ SqT K H a (ns.map V.int) ∧ ns.length ≤ sizeLine ∧ ∀ (ns' : List Int) (p : Addr), ns'.Perm ns → ns'.Pairwise (· ≤ ·) → H p = none → Q (.ref p) (upd H p (.lst (ns'.map V.int)))
theorem cr_sortedTI : CallR X (.builtin "sorted") (rSortedTI X.K) := by
  rintro pins s σ H _ us Q I r ⟨a, ns, rfl, hs, room, q⟩
  obtain ⟨its, rv, tupl, _⟩ := I.tuple hs
  rw [Vals.ref1 r]
  have many := rv.length
  rw [List.length_map] at many
  refine sorted_tupN tupl (ints_of_vals rv) (by omega) fun out ns' i1 i2 i3 => ?_
  obtain ⟨ep, at_⟩ := PyProof.Rows.sortedAll_at s.heap its out
  have fits : (ns'.map V.int).length ≤ sizeLine := by rw [List.length_map, i2.length_eq]; exact room
  exact ⟨.ref _, upd H (s.heap.objs.size + 1) (.lst (ns'.map V.int)), I.laid (t' := s.toks) (fun _ _ => PyProof.Rows.sortedAll_old) (Nat.le_succ _) ⟨fits, out.toList, ep, vals_of_ints i1, by simpa using at_⟩, rfl, q _ _ i2 i3 (I.hok.fresh (Nat.le_succ _))⟩
/-- sorted(x): lists as before; a tuple of ints -/
def biSortedA : OpN := fun ds M => match ds with
  | [.tup xs] => (Res.of (intsOf xs) M).bind fun ns M => if ns.length ≤ sizeLine then .ok (.lst ((sortI ns).map .int)) M else .stuck
  | ds => biSorted ds M
theorem call_sortedB : CallR X (.builtin "sorted") (fun xs H Q => rSrt X.K xs H Q ∨ rSortedTI X.K xs H Q) := fun pins s σ H xs us Q I rv h => h.elim (call_sortedA pins s σ H xs us Q I rv) (cr_sortedTI pins s σ H xs us Q I rv)
theorem sem_sortedA : SemN G biSortedA (fun xs H Q => rSrt G.K xs H Q ∨ rSortedTI G.K xs H Q) := fun W ad H M ds vs Q rm r q => by
  unfold biSortedA at q
  split at q
  · rename_i xs
    obtain ⟨v, rfl, r1⟩ := r.one
    obtain ⟨ns, h1, q⟩ := of_bind q
    obtain ⟨room, q⟩ := post_if q
    rw [intsOf_eq h1] at r1
    obtain ⟨a, rfl, ha⟩ := rep_tupI.mp (show Rep G ad H M (tupD ns) v from r1)
    refine .inr ⟨a, ns, rfl, ha, room, fun ns' p hp hs hn => ?_⟩
    rw [sortI_eq hp hs]
    exact end_lst rm (Reps.ints _) q p hn
  · exact .inl (sem_sorted W ad H M _ vs Q rm r q)
/-! texts compared -/
def opEqS : Op2 := fun a b M => match a, b with
  | .str i, .str j => .ok (.bl (decide (i = j))) M
  | _, _ => .stuck
def opNeS : Op2 := fun a b M => match a, b with
  | .str i, .str j => .ok (.bl (!decide (i = j))) M
  | _, _ => .stuck
theorem str_iff {i j : Str} : decide (V.str i = V.str j) = decide (i = j) := by
  by_cases h : i = j
  · subst h; simp
  · simp [h]
theorem sem_eqS : Sem2 G opEqS rEq := fun W ad H M a b x y Q rm ra rb q => by
  unfold opEqS at q
  split at q
  · simp only [Rep] at ra rb; subst ra; subst rb
    exact ⟨rfl, by rw [str_iff]; exact PostR.ret q rm rep_bl⟩
  · exact q.elim
theorem sem_neS : Sem2 G opNeS rNe := fun W ad H M a b x y Q rm ra rb q => by
  unfold opNeS at q
  split at q
  · simp only [Rep] at ra rb; subst ra; subst rb
    exact ⟨rfl, by rw [str_iff]; exact PostR.ret q rm rep_bl⟩
  · exact q.elim
end
end Mi

set_option Elab.async false
set_option linter.all false
set_option maxRecDepth 100000
set_option maxHeartbeats 1000000
/-! MiM: loops and set comprehensions over a list that stands in the store. -/
namespace Mi
open PySem PySem.Spec PyProof.Rows L2
section
variable {G : Gx} {X : Cx} {W : WX}
/-- what a turn gets: the item, or its number and it -/
def itemL (en : Bool) (i : Nat) (d : D) : D := if en = true then .tup [.int i, d] else d
def listAt (M : Store) (l : Nat) : Option (List D) := match M[l]? with
  | some (some (.lst xs)) => some xs
  | _ => none
theorem listAt_some {M : Store} {l : Nat} {xs : List D} (h : listAt M l = some xs) : M[l]? = some (some (.lst xs)) := by
  unfold listAt at h
  split at h
  · rename_i ys e; rw [e, Option.some.inj h]
  · cases h
def forL (en : Bool) (p : Pat) (body : Ev → Store → Out) (l : Nat) : Nat → Nat → Ev → Store → Out
  | 0, _, _, _ => .stuck
  | n + 1, i, env, M => match listAt M l with
    | none => .stuck
    | some xs => match xs[i]? with
      | none => .nx env M
      | some x => match asgP M p (itemL en i x) env with
        | none => .stuck
        | some env1 => match body env1 M with
          | .nx e M' => forL en p body l n (i + 1) e M'
          | .ct e M' => forL en p body l n (i + 1) e M'
          | .bk e M' => .nx e M'
          | o => o
theorem forL_none {en : Bool} {p : Pat} {body : Ev → Store → Out} {l n i : Nat} {env : Ev} {M : Store} (h : listAt M l = none) : forL en p body l (n + 1) i env M = .stuck := by
  simp only [forL, h]
def sForL (en : Bool) (p : Pat) (f : Ev → Store → Res D) (body : Ev → Store → Out) : Ev → Store → Out := fun env M => (f env M).out env fun d M1 => match d with
  | .loc l => forL en p body l 1000 0 env M1
  | _ => .stuck
/-- an iterator whose items are those of the list at l -/
def Wl (G : Gx) (en : Bool) (J : It) (l : Nat) (ad : Adr) (H : Hp) (M : Store) : Prop := ∀ (ad' : Adr) (H' : Hp) (M' : Store) (xs : List D) (i : Nat), Ext0 G ad H M ad' H' M' → RelM G ad' H' M' → listAt M' l = some xs →
  (∀ d, xs[i]? = some d → J.go i H' ∧ ∀ x H2, J.yld i H' x H2 → Ext G ad' H' M' ad' H2 M' ∧ RelM G ad' H2 M' ∧ Rep G ad' H2 M' (itemL en i d) x) ∧ (xs[i]? = none → J.stop i H')
theorem wl_plain {ad : Adr} {H : Hp} {M : Store} {l : Nat} (hl : l < M.length) : Wl G false (Itl G.K (ad.at_ l)) l ad H M := fun ad' H' M' xs i e m h => by
  obtain ⟨vs, q1, q2⟩ := m.ok l _ (listAt_some h)
  rw [e.adr l hl] at q1
  have s := SqL.of (K := G.K) q1
  refine ⟨fun d hd => ?_, fun hn => ⟨vs, s, by rw [Reps.length _ _ q2]; exact List.getElem?_eq_none_iff.mp hn⟩⟩
  obtain ⟨v, v1, v2⟩ := Reps.get q2 hd
  refine ⟨⟨vs, v, s, v1⟩, fun x H2 ⟨e1, e2⟩ => ?_⟩
  subst e1
  have := e2 vs s
  rw [v1] at this
  cases this
  exact ⟨Ext.refl, m, v2⟩
theorem wl_enum {ad : Adr} {H : Hp} {M : Store} {l : Nat} (hl : l < M.length) : Wl G true (Ite G.K (ad.at_ l)) l ad H M := fun ad' H' M' xs i e m h => by
  obtain ⟨vs, q1, q2⟩ := m.ok l _ (listAt_some h)
  rw [e.adr l hl] at q1
  have s := SqL.of (K := G.K) q1
  refine ⟨fun d hd => ?_, fun hn => ⟨vs, s, by rw [Reps.length _ _ q2]; exact List.getElem?_eq_none_iff.mp hn⟩⟩
  obtain ⟨v, v1, v2⟩ := Reps.get q2 hd
  refine ⟨⟨vs, v, s, v1⟩, fun x H2 ⟨T, y, e0, e1, e2, e3⟩ => ?_⟩
  subst e0; subst e2
  have := e3 vs s
  rw [v1] at this
  cases this
  exact ⟨Ext.laid e1 m, RelM.laid e1 m, rep_tup e1 m (by simp only [Reps, Rep]; exact ⟨_, _, rfl, rfl, v, [], rfl, v2, rfl⟩)⟩
/-- the loop by such an iterator -/
theorem forL_run {en : Bool} {p : Pat} {fb : Ev → Store → Out} {l : Nat} {J : It} {ad1 : Adr} {H1 : Hp} {M1 : Store} {env : Ev} {σ : L2.St} {E : Ends} (w1 : Wl G en J l ad1 H1 M1) (m1 : RelM G ad1 H1 M1) (re : RelE G ad1 H1 M1 env σ) (q1 : PostS G W ad1 H1 M1 (forL en p fb l 1000 0 env M1) E) :
    ∃ Wv : Nat → Nat → L2.St → Hp → Prop, (∃ m, Wv 0 m σ H1) ∧ ∀ i m σ' H', Wv i m σ' H' → (J.stop i H' ∧ E.nx σ' H') ∨ (J.go i H' ∧ ∃ Nx : L2.St → Hp → Prop, (∀ σ2 H2, Nx σ2 H2 → ∃ m', m' < m ∧ Wv (i + 1) m' σ2 H2) ∧
      ∀ x H2, J.yld i H' x H2 → tG G p x σ' H2 fun σ3 H3 => tS G W fb { nx := Nx, rt := E.rt, bk := E.nx, ct := Nx } σ3 H3) := by
  refine ⟨fun i m σ' H' => ∃ env' M' ad', Ext G ad1 H1 M1 ad' H' M' ∧ RelM G ad' H' M' ∧ RelE G ad' H' M' env' σ' ∧ PostS G W ad' H' M' (forL en p fb l m i env' M') E, ⟨1000, env, M1, ad1, Ext.refl, m1, re, q1⟩, fun i m σ' H' ⟨env', M', ad', e', m', re', q'⟩ => ?_⟩
  cases m with
  | zero => exact q'.elim
  | succ m =>
    simp only [forL] at q'
    cases hl : listAt M' l with
    | none => rw [hl] at q'; exact q'.elim
    | some xs =>
      rw [hl] at q'
      simp only at q'
      obtain ⟨wg, ws⟩ := w1 ad' H' M' xs i e'.toExt0 m' hl
      cases hx : xs[i]? with
      | none =>
        rw [hx] at q'
        exact .inl ⟨ws hx, PostS.next q' m' re'⟩
      | some d =>
        rw [hx] at q'
        simp only at q'
        obtain ⟨g1, g2⟩ := wg d hx
        refine .inr ⟨g1, fun σ2 H2 => ∃ env2 M2 ad2, Ext G ad1 H1 M1 ad2 H2 M2 ∧ RelM G ad2 H2 M2 ∧ RelE G ad2 H2 M2 env2 σ2 ∧ PostS G W ad2 H2 M2 (forL en p fb l m (i + 1) env2 M2) E, fun σ2 H2 h2 => ⟨m, by omega, h2⟩, fun x H2 hy => ?_⟩
        obtain ⟨ex, mx, rx⟩ := g2 x H2 hy
        split at q'
        · exact q'.elim
        · rename_i env1 hasg
          refine ⟨itemL en i d, env', env1, M', ad', rx, re'.ext ex.toExt0 m', mx, hasg, fun σ3 re3 _ => ⟨env1, M', ad', re3, mx, ?_⟩⟩
          have q2 := PostS.mono q' ex
          cases hb : fb env1 M' with
          | nx e2 M2 => rw [hb] at q2; exact fun ad3 H3 σ4 e3 m3 r3 => ⟨e2, M2, ad3, (e'.trans ex).trans e3, m3, r3, PostS.mono q2 e3⟩
          | ct e2 M2 => rw [hb] at q2; exact fun ad3 H3 σ4 e3 m3 r3 => ⟨e2, M2, ad3, (e'.trans ex).trans e3, m3, r3, PostS.mono q2 e3⟩
          | bk e2 M2 => rw [hb] at q2; exact q2
          | ret d2 M2 => rw [hb] at q2; exact q2
          | exc c2 f2 e2 M2 => rw [hb] at q2; exact q2
          | stuck => rw [hb] at q2; exact q2
theorem st_forL {tg iter : Expr} {body : List Stmt} {p : Pat} {f : Ev → Store → Res D} {fb : Ev → Store → Out} {pos : Pos} (hK : X.K = G.K) (hp : PassesOwn (model X.prog X.w) X.A X.env X.xe) (hc : X.calm = true) (he : PE X iter (tE G W f)) (hg : PG X tg (tG G p)) (hb : PSs X body (tS G W fb)) (hfs : ∀ x, foldedSetIterable iter X.env x = pure x) :
    PS X (.For tg iter body [] pos) (tS G W (sForL false p f fb)) :=
  PS.weak (ps_for hp hc (pi_seq he) hg hb (hs := hfs)) fun E σ H ⟨env, M, ad, re, rm, q⟩ => by
    refine tE.imp (tE_out re rm q) fun v H1 ⟨d, M1, ad1, e1, m1, r1, q1⟩ => ?_
    split at q1
    · rename_i l
      simp only [Rep] at r1
      obtain ⟨rfl, hl⟩ := r1
      rw [hK]
      refine ⟨_, rfl, .inl ⟨?_, forL_run (wl_plain hl) m1 (re.ext e1.toExt0 rm) q1⟩⟩
      cases h : listAt M1 l with
      | none => rw [show forL false p fb l 1000 0 env M1 = .stuck from forL_none (n := 999) h] at q1; exact q1.elim
      | some xs =>
        obtain ⟨vs, a, _⟩ := m1.ok l _ (listAt_some h)
        exact ⟨vs, SqL.of a⟩
    · exact q1.elim
theorem st_forE {elts : List Expr} {kk : Nat} {tpos p0 cpos : Pos} {e : Expr} {body : List Stmt} {p : Pat} {f : Ev → Store → Res D} {fb : Ev → Store → Out} {pos : Pos} (hK : X.K = G.K) (hp : PassesOwn (model X.prog X.w) X.A X.env X.xe) (hc : X.calm = true) (hgl : Gl X "enumerate") (hm : X.mg "enumerate" = none) (he : PE X e (tE G W f)) (hs : starEach [e] X.env = [(false, eval e X.env)]) (na : starEach [e] X.env = (false, eval e X.env) :: starEach [] X.env)
    (hg : PG X (.Tuple elts kk tpos) (tG G p)) (hb : PSs X body (tS G W fb)) (hfs : ∀ x, foldedSetIterable (.Call (.Name "enumerate" p0) [e] [] cpos) X.env x = pure x) :
    PS X (.For (.Tuple elts kk tpos) (.Call (.Name "enumerate" p0) [e] [] cpos) body [] pos) (tS G W (sForL true p f fb)) :=
  PS.weak (ps_for hp hc (pi_enum hgl hm (pa_cons he pa_nil na) hs) hg hb (hs := hfs)) fun E σ H ⟨env, M, ad, re, rm, q⟩ => by
    rw [hK]
    refine tE.imp (tE_out re rm q) fun v H1 ⟨d, M1, ad1, e1, m1, r1, q1⟩ => ?_
    split at q1
    · rename_i l
      simp only [Rep] at r1
      obtain ⟨rfl, hl⟩ := r1
      cases h : listAt M1 l with
      | none => rw [show forL true p fb l 1000 0 env M1 = .stuck from forL_none (n := 999) h] at q1; exact q1.elim
      | some xs =>
        obtain ⟨vs, a, _⟩ := m1.ok l _ (listAt_some h)
        exact ⟨_, vs, rfl, SqL.of a, forL_run (wl_enum hl) m1 (re.ext e1.toExt0 rm) q1⟩
    · exact q1.elim
end
end Mi

set_option Elab.async false
set_option linter.all false
set_option maxRecDepth 100000
set_option maxHeartbeats 1000000
/-! MiN: refusals that carry a number: raise C(e), a suite that reads it. -/
namespace Mi
open PySem PySem.Spec PyProof.Rows L2
/-! ### worlds: what .fn stands for, which dicts stand -/
abbrev Gx.at (G : Gx) (f : Nat → Option Addr) (l : List (Addr × List (Str × V))) : Gx := { G with fa := f, xds := l }
mutual
def noFn : D → Bool
  | .fn _ => false
  | .tup xs => noFns xs
  | .lst xs => noFns xs
  | .scr xs => noFns xs
  | _ => true
def noFns : List D → Bool
  | [] => true
  | d :: ds => noFn d && noFns ds
end
mutual
theorem noFn_pure : ∀ d : D, pureD d = true → noFn d = true
  | .tup xs, h => noFns_pure xs (by simpa [pureD] using h)
  | .lst xs, h => noFns_pure xs (by simpa [pureD] using h)
  | .scr xs, h => noFns_pure xs (by simpa [pureD] using h)
  | .fn _, h => by simp [pureD] at h
  | .non, _ => rfl
  | .bl _, _ => rfl
  | .int _, _ => rfl
  | .str _, _ => rfl
  | .cls _, _ => rfl
  | .ty _, _ => rfl
  | .dct0, _ => rfl
  | .loc _, _ => rfl
theorem noFns_pure : ∀ ds : List D, pureDs ds = true → noFns ds = true
  | [], _ => rfl
  | d :: ds, h => by
    simp only [pureDs, Bool.and_eq_true] at h
    simp only [noFns, Bool.and_eq_true]
    exact ⟨noFn_pure d h.1, noFns_pure ds h.2⟩
end
section
variable {G : Gx} {ad ad' : Adr} {H H' : Hp} {M M' : Store} {f g : Nat → Option Addr} {l l' : List (Addr × List (Str × V))}
mutual
theorem Rep.at : ∀ (d : D) (v : V), noFn d = true → Rep (G.at f l) ad H M d v → Rep (G.at g l') ad H M d v
  | .non, _, _, h => by simpa [Rep] using h
  | .bl _, _, _, h => by simpa [Rep] using h
  | .int _, _, _, h => by simpa [Rep] using h
  | .str _, _, _, h => by simpa [Rep] using h
  | .fn _, _, hp, _ => by simp [noFn] at hp
  | .cls _, _, _, h => by simpa [Rep] using h
  | .ty _, _, _, h => by simpa [Rep] using h
  | .dct0, _, _, h => by simpa [Rep] using h
  | .loc _, _, _, h => by simpa [Rep] using h
  | .tup xs, _, hp, h => by
    simp only [Rep] at h ⊢
    obtain ⟨a, vs, e1, e2, e3⟩ := h
    exact ⟨a, vs, e1, e2, Reps.at xs vs (by simpa [noFn] using hp) e3⟩
  | .lst xs, _, hp, h => by
    simp only [Rep] at h ⊢
    obtain ⟨a, vs, e1, e2, e3⟩ := h
    exact ⟨a, vs, e1, e2, Reps.at xs vs (by simpa [noFn] using hp) e3⟩
  | .scr xs, _, hp, h => by
    simp only [Rep] at h ⊢
    obtain ⟨a, vs, e1, e2, e3⟩ := h
    exact ⟨a, vs, e1, e2, Reps.at xs vs (by simpa [noFn] using hp) e3⟩
theorem Reps.at : ∀ (ds : List D) (vs : List V), noFns ds = true → Reps (G.at f l) ad H M ds vs → Reps (G.at g l') ad H M ds vs
  | [], _, _, h => by simpa [Reps] using h
  | d :: ds, _, hp, h => by
    simp only [Reps] at h ⊢
    obtain ⟨v, r, e1, e2, e3⟩ := h
    simp only [noFns, Bool.and_eq_true] at hp
    exact ⟨v, r, e1, Rep.at d v hp.1 e2, Reps.at ds r hp.2 e3⟩
end
theorem RepK.at : ∀ (ds : List (Int × D)) (vs : List (Key × V)), pureDs (ds.map (·.2)) = true → RepK (G.at f l) ad H M ds vs → RepK (G.at g l') ad H M ds vs
  | [], _, _, h => by simpa [RepK] using h
  | (k, d) :: ds, _, hp, h => by
    simp only [RepK] at h ⊢
    obtain ⟨v, r, e1, e2, e3⟩ := h
    simp only [List.map_cons, pureDs, Bool.and_eq_true] at hp
    exact ⟨v, r, e1, Rep.at d v (noFn_pure d hp.1) e2, RepK.at ds r hp.2 e3⟩
theorem RelM.at (m : RelM (G.at f l) ad H M) (hx : ∀ r ∈ l', H r.1 = some (.xd r.2)) : RelM (G.at g l') ad H M where
  pur := m.pur
  ok := fun k o h => by
    have p := m.pur k o h
    cases o with
    | lst xs =>
      obtain ⟨vs, q1, q2⟩ := m.ok k _ h
      exact ⟨vs, q1, Reps.at _ _ (noFns_pure _ p) q2⟩
    | dct xs =>
      obtain ⟨vs, q1, q2⟩ := m.ok k _ h
      exact ⟨vs, q1, RepK.at _ _ p q2⟩
  inj := m.inj
  tab := m.tab
  xd := hx
  rsv := m.rsv
theorem Ext0.at (e : Ext0 (G.at f l) ad H M ad' H' M') : Ext0 (G.at g l') ad H M ad' H' M' := ⟨e.rsu, e.len, e.adr, e.frame, e.dead, e.tbl, e.al⟩
theorem Ext.at (e : Ext (G.at f l) ad H M ad' H' M') : Ext (G.at g l') ad H M ad' H' M' := ⟨e.toExt0.at, e.rs⟩
/-- a dict stands on -/
theorem xd_stays (m : RelM G ad H M) (e : Ext0 G ad H M ad' H' M') {p : Addr} {fs : List (Str × V)} (h : H p = some (.xd fs)) : H' p = some (.xd fs) := by
  refine e.frame p _ h (fun ⟨k, o, h1, h2⟩ => ?_) rfl
  have q := m.ok k o h1
  rw [h2] at q
  cases o with
  | lst xs => obtain ⟨_, q1, _⟩ := q; rw [h] at q1; cases q1
  | dct xs => obtain ⟨_, q1, _⟩ := q; rw [h] at q1; cases q1
def noFnE (env : Ev) : Bool := env.all fun o => match o with
  | some d => noFn d
  | none => true
theorem RelE.at {env : Ev} {σ : L2.St} (h : noFnE env = true) (re : RelE (G.at f l) ad H M env σ) : RelE (G.at g l') ad H M env σ :=
  ⟨re.1, fun i d e => by
    obtain ⟨v, h1, h2⟩ := re.2 i d e
    refine ⟨v, h1, Rep.at d v ?_ h2⟩
    exact List.all_eq_true.mp h _ (List.mem_of_getElem? e)⟩
end

/-! ### isinstance of an exception that may have a dict -/
section
variable {prog : Program} {w : World} {A : Around} {K : PySem.W.Frag} {x D0 : Addr} {ox : Obj} {od : Option Obj}
theorem cls_asked {Bad : Value → Shared → Prop} {Then : Option Value → Shared → Prop} {st : Shared} (C : ExcC K D0) (kin : K.In st.heap) (inst : PySem.W.InstAt st.heap x ox D0 od) (q : Then (some (.ref D0)) { st with toks := st.toks + 1 }) :
    wpAny (model prog w) A (getAttr? (.ref x) "__class__") Then Bad st := by
  have fnd : PySem.W.findObj K D0 od "__class__" = some (.bind (.builtin "getset_descriptor.__get__") (.builtin "object.__class__")) := by
    obtain ⟨cd, e, _⟩ := PySem.W.any_some C.hd
    simp [PySem.W.findObj, e, C.ha, C.hn, C.ht]
  obtain ⟨hp0, g0, d0, t0, os0⟩ := st
  have ty := inst.type (M := model prog w)
  have m1 := PySem.W.looks_findIn (M := model prog w) kin C.hg
  have m2 := PySem.W.looks_findIn (M := model prog w) kin C.hk
  have m3 := PySem.W.looks_find (M := model prog w) kin inst fnd
  have isB0 : PySem.W.Looks (model prog w) hp0 (isInstance (.ref x) (.type "BaseException")) true := ty.andThen (PySem.W.looks_subIn kin C.hs)
  have n2 : (Value.builtin "BaseException.__getattribute__" == Value.builtin "object.__getattribute__") = false := by decide +kernel
  have n1 : (onTheHeap (Value.ref D0) && Value.builtin "BaseException.__getattribute__" == Value.builtin "object.__getattribute__") = false := by rw [n2]; rfl
  unfold getAttr? getAttrBy? getAttrBy
  refine wpAny_bind (wpAny_mkText (wpAny_bind (wpAny_attempt (wpAny_holding (wpAny_bind (ty.at (wpAny_bind (m1.at ?_))))))))
  show wpAny _ _ (if (onTheHeap (Value.ref D0) && _) = true then _ else _) _ _ _
  rw [n1, if_neg Bool.false_ne_true]; unfold getAttrByItsOwn hookBefore
  refine wpAny_bind ?_
  rw [if_pos (show onTheHeap (Value.ref D0) = true from rfl)]
  refine m2.at ?_
  refine wpAny_bind (wpAny_attempt (wpAny_holding ?_)); unfold callGetattribute
  rw [show (false && onTheHeap (Value.builtin "BaseException.__getattribute__")) = false from rfl, if_neg Bool.false_ne_true]; unfold boundAndCalled
  rw [PySem.F.excAttr_ValueError.ga.bind (.ref x)]; refine wpAny_bind (wpAny_pure ?_)
  show wpAny _ _ (call (.builtin "BaseException.__getattribute__") [.ref x, .str "__class__" t0]) _ _ _
  refine wpAny_call (codeAny_call_builtin PySem.F.excAttr_ValueError.ga.plain PySem.F.entry_bexc_ga ?_)
  refine @PySem.W.check_slot (model prog w) _ _ ⟨hp0, g0, d0, t0 + 1, os0⟩ "BaseException.__getattribute__" "BaseException" "__getattribute__" (.ref x) [.str "__class__" t0] [] _ (by decide +kernel) (by decide +kernel) isB0 (PySem.F.args_bexc_ga (.ref x) (.str "__class__" t0)) ?_
  unfold Builtin.«object.__getattribute__»; refine wpAny_bind (wpAny_of_eq (a := ((Value.ref x : Value), [Value.str "__class__" t0])) (by first | rfl | (simp only [slotArgs]; rfl)) ?_)
  refine wpAny_bind (wpAny_pure (wpAny_bind (ty.at (wpAny_bind (m3.at ?_)))))
  show wpAny _ _ (holding [Value.builtin "object.__class__"] (call (.builtin "getset_descriptor.__get__") [.builtin "object.__class__", .ref x, .ref D0]) >>= _) _ _ _
  refine wpAny_bind (wpAny_holding (wpAny_call (PySem.W.class_get (s := ⟨hp0, g0, d0, t0 + 1, os0⟩) (ox := ox) (od := od) kin inst C.hm ?_)))
  refine wpAny_pure ?_
  show wpAny _ _ (handedOut (.ref D0)) _ _ _
  rw [PySem.W.handedOut_of (v := .ref D0) rfl]; first
    | exact wpAny_pure (wpAny_bind (wpAny_pure (wpAny_pure q)))
    | exact wpAny_pure (wpAny_pure q)
    | exact wpAny_pure q
theorem kitX_own (C : ExcC K D0) : PySem.W.KitX K (.ref x) (.ref D0) (fun h => PySem.W.InstAt h x ox D0 od) where
  ca := fun kin inst q => cls_asked C kin inst q
  ty := fun _ _ _ inst => inst.type
  it := fun M h kin _ => by
    obtain ⟨cd, e, _⟩ := PySem.W.any_some C.hd
    unfold PySem.W.clsIn at e
    split at e
    · rename_i look
      intro A2 Q2 E2 s2 keep q
      unfold isType loadHead; refine wpAny_bind (wpAny_loadPart (keep _ _ (kin _ _ look)) (wpAny_pure q))
    · cases e
  ne := fun h tp dd its n sl kin ht => by
    obtain ⟨cd, e, _⟩ := PySem.W.any_some C.hd
    refine Bool.eq_false_iff.mpr fun z => ?_
    obtain rfl : D0 = tp := Value.ref.inj (beq_iff_eq.mp z)
    unfold PySem.W.clsIn at e
    split at e
    · rename_i look
      cases (kin _ _ look).symm.trans ht
    · cases e
end
section
variable {G : Gx}
/-- what the exception's object has for a dict -/
abbrev dOf (l : List (Addr × List (Str × V))) : Option Addr := l.head?.map (·.1)
def rIsX (K : PySem.W.Frag) (D0 a : Addr) (l : List (Addr × List (Str × V))) : List V → Hp → VK → Prop := fun xs H Q => ∃ (c : V) (cv : Value) (b : Bool), xs = [.ref a, c] ∧ (∀ u, RelV c u → u = cv) ∧ PySem.W.kitOne K (.ref D0) cv = some b ∧ (∀ r ∈ l, H r.1 = some (.xd r.2)) ∧ Q (.bl b) H
theorem call_isX {X : Cx} {p : Addr × Obj} {D0 : Addr} {l : List (Addr × List (Str × V))} (C : ExcC X.K D0) (hp : p ∈ X.pn) (hz : Zc (.ref D0) (dOf l) p.2) (hf : ∃ vs, p.2.data = .fields vs) : CallR X (.builtin "isinstance") (rIsX X.K D0 p.1 l) := by
  rintro pins s σ H _ us Q I r ⟨c, cv, b, rfl, hcv, known, hx, q⟩
  match us, r with
  | [u, t], .cons ru (.cons rt .nil) =>
    obtain rfl : u = .ref p.1 := ru
    obtain rfl := hcv t rt
    have here := (I.pin p (List.mem_append_left _ hp)).1
    have nc : PySem.W.notCls p.2 = true := by unfold PySem.W.notCls; obtain ⟨vs, e⟩ := hf; rw [e] <;> trivial
    have inst : ∃ od, PySem.W.InstAt s.heap p.1 p.2 D0 od := by
      cases l with
      | nil => exact ⟨none, here, hz.1, nc, by rw [hz.2]; trivial⟩
      | cons r rest =>
        obtain ⟨mA, hns, hr⟩ : ObjOk X.prog X.w H s.heap r.1 (.xd r.2) := I.hok r.1 _ (hx r List.mem_cons_self)
        obtain ⟨od, ho, hl⟩ := lookIn_ns hns
        exact ⟨some od, here, hz.1, nc, by rw [hz.2]; exact ho⟩
    obtain ⟨od, inst⟩ := inst
    exact PySem.W.kia_one (kitX_own C) I.kIn inst known (fun e => nomatch e) fun tk => ⟨.bl b, H, I.kept (t' := tk) fun _ _ e => e, rfl, q⟩
theorem sem_isX {n c : Nat} {a : Addr} {l : List (Addr × List (Str × V))} (T : Kinds G.K G.ca n) (hc : c < n) : SemN (G.at (fun _ => some a) l) (biIsE n c) (rIsX G.K (G.ca c) a l) := fun W ad H M ds vs Q rm r q => by
  unfold biIsE at q
  split at q
  · rename_i j c'
    obtain ⟨hc', q⟩ := post_if q
    obtain ⟨v, v', rfl, r1, r2⟩ := r.two
    simp only [Rep] at r1 r2
    obtain ⟨b, hb, rfl⟩ := r1
    obtain rfl : a = b := Option.some.inj hb
    subst r2
    exact ⟨_, .ref (G.ca c'), _, rfl, fun u hu => hu, T.eq c hc c' hc', rm.xd, PostR.ret q rm rep_bl⟩
  · rename_i j b'
    obtain ⟨rfl, q⟩ := post_if q
    obtain ⟨v, v', rfl, r1, r2⟩ := r.two
    simp only [Rep] at r1 r2
    obtain ⟨b, hb, rfl⟩ := r1
    obtain rfl : a = b := Option.some.inj hb
    subst r2
    exact ⟨_, .type "ValueError", _, rfl, fun u hu => hu, T.ve c hc, rm.xd, PostR.ret q rm rep_bl⟩
  · exact q.elim
end
end Mi

set_option Elab.async false
set_option linter.all false
set_option maxRecDepth 100000
set_option maxHeartbeats 1000000
/-! MiO: the suite of an except that asks of what kind the refusal is, and its number; raise C(e). -/
namespace Mi
open PySem PySem.Spec PyProof.Rows L2
section
variable {G : Gx} {X : Cx} {W : WX}
/-! ### fields -/
def plainF (fs : List (Str × D)) : Bool := fs.all fun p => match p.2 with
  | .int _ => true
  | _ => false
def fldV : D → V
  | .int k => .int k
  | _ => .non
def fsV (fs : List (Str × D)) : List (Str × V) := fs.map fun p => (p.1, fldV p.2)
theorem fsV_of {ad : Adr} {H : Hp} {M : Store} : ∀ (fs : List (Str × D)) (vs : List (Str × V)), plainF fs = true → vs.map (·.1) = fs.map (·.1) → Reps G ad H M (fs.map (·.2)) (vs.map (·.2)) → vs = fsV fs
  | [], [], _, _, _ => rfl
  | [], _ :: _, _, h, _ => by simp at h
  | _ :: _, [], _, h, _ => by simp at h
  | (k, d) :: fs, (k', v) :: vs, hp, h, r => by
    obtain ⟨h0, hh⟩ := List.cons.inj h
    obtain rfl : k' = k := h0
    have r' : Reps G ad H M (d :: fs.map (·.2)) (v :: vs.map (·.2)) := r
    simp only [Reps] at r'
    obtain ⟨v', vr, e1, r1, r2⟩ := r'
    obtain ⟨e1, e2⟩ := List.cons.inj e1
    obtain rfl : v = v' := e1
    rw [← e2] at r2
    simp only [plainF, List.all_cons, Bool.and_eq_true] at hp
    have rest := fsV_of fs vs hp.2 hh r2
    cases d with
    | int i =>
      simp only [Rep] at r1
      rw [r1, rest]; rfl
    | _ => simp at hp
theorem fsV_look {f : Str} {k : Int} : ∀ {fs : List (Str × D)}, fs.lookup f = some (.int k) → (fsV fs).lookup f = some (.int k)
  | [], h => by simp at h
  | (x, d) :: fs, h => by
    simp only [fsV, List.map_cons, List.lookup_cons] at h ⊢
    cases e : f == x with
    | true => rw [e] at h; simp only [Option.some.injEq] at h ⊢; subst h; rfl
    | false => rw [e] at h; exact fsV_look h
/-- the dicts that go with an exception of such fields -/
def LOk (fs : List (Str × D)) (l : List (Addr × List (Str × V))) : Prop := (fs = [] ∧ l = []) ∨ ∃ dd, l = [(dd, fsV fs)]

/-! ### kind(e) -/
structure FnE (P : Program) (w : World) (G : Gx) (mg : Str → Option Value) (base : Heap) (k : Nat) (f : Addr) (fd : FuncData) (x : Str) (Φ : Obj → List (Addr × List (Str × V)) → Prop) (z : Str) : Prop where
  run : ∀ (A : Around) (outer : List Env) (s : Shared) (H : Hp) (args : Args) (p : Addr × Obj) (l : List (Addr × List (Str × V))) (Q : VK) (E : XK), L2H.RoomH k A → Φ p.2 l → L2H.PinOk outer H s p → Env0 P w G.K mg base A outer s H → BindsTo s fd args [(x, .ref p.1)] →
    (∃ M ad, RelM G ad H M ∧ (∀ r ∈ l, H r.1 = some (.xd r.2)) ∧ PostR G E (relV G) ad H M (.ok (.str z) M) Q) → codeAny (model P w) A (.call (.ref f) args) (CR (L2N.CX P w) outer P w H s Q E) s
theorem fnE_ok {P : Program} {w : World} {mg : Str → Option Value} {base : Heap} {x v : Str} {st : Stmt} {f : Addr} {fd : FuncData} {cdv : Value} {N : List Str} {k n : Nat} {body : Ev → Store → Out} {Φ : Obj → List (Addr × List (Str × V)) → Prop} {z : Str} (F : DefC G.K mg x st f fd cdv) (S : C8.scC N [v] (defScope st) = true) (hn : N.length = n) (hX : G.xds = [])
    (hv : ∀ M, runF n false body [.fn 0] M = .ok (.str z) M)
    (hbody : ∀ (A : Around) (outer : List Env) (s : Shared) (H : Hp) (E : XK) (p : Addr × Obj) (l : List (Addr × List (Str × V))), Φ p.2 l → L2H.RoomH k (A.deeper (envOfC x (defScope st) s.heap.objs.size f cdv)) →
      PSs (L2H.cxH (L2N.CX P w) P w G.K mg base N x (defScope st) f cdv A outer s H E p) (defBody st) (tS (G.at (fun _ => some p.1) l) (fun c d _ H' => E c d H') body)) :
    FnE P w G mg base (k + 1) f fd v Φ z := by
  obtain ⟨oc, od, kV, doc, pm, an, ct, osl, rfl, lk⟩ := F.ex
  have SS := C8.fnScope_by S
  refine ⟨fun A outer s H args p l Q E room hΦ pin env0 bind ⟨M, ad, rm, hl, q⟩ => ?_⟩
  have inK : G.K.In s.heap := env0.mod.kin.keeps fun b o e => (env0.bs b o e).1
  have noLim : s.heap.NoLimit := env0.mod.nolimit.keeps fun b o e => (env0.bs b o e).1
  have where_ : ∀ y ∈ [(v, Value.ref p.1)], (defScope st).names.lookup y.1 = some .local ∨ ((defScope st).names.lookup y.1 = some .cell ∧ ((cellsFrom (s.heap.objs.size + 1) (defScope st).names []).lookup y.1).isSome = true) := by
    intro y hy
    rw [List.mem_singleton.mp hy]
    exact (SS.par v List.mem_cons_self).imp id fun q => ⟨q, PySem.W.cellsFrom_some _ _ _ (.inl q)⟩
  apply codeAny_call_function room.depth (inK _ _ lk) rfl SS.co SS.gen rfl (PySem.W.codeRec_of inK F.code) (bind _ _ _ _ ?_)
  apply wpAny_newFunctionEnv_cells SS.kind where_
  rintro env rfl s1 begun
  refine ⟨noLim.keeps begun.toInCall.keep, codeAny_func ?_⟩
  have start := L2H.inv_startH (CX := L2N.CX P w) (E := E) (N := N) (cd := cdv) (f := f) (qual := x) (ps := [v]) (us := [.ref p.1]) (vs := [.ref p.1]) SS pin env0 rfl (.cons rfl .nil) begun
  have rm' : RelM (G.at (fun _ => some p.1) l) ad H M := RelM.at (G := G) (f := G.fa) (l := G.xds) rm hl
  have ra : Reps (G.at (fun _ => some p.1) l) ad H M [.fn 0] [.ref p.1] := by
    simp only [Reps, Rep]
    exact ⟨_, _, rfl, ⟨p.1, rfl, rfl⟩, rfl⟩
  have q' : PostR (G.at (fun _ => some p.1) l) E (relV (G.at (fun _ => some p.1) l)) ad H M (runF n false body [.fn 0] M) Q := by
    rw [hv M]
    exact fun ad2 H2 u e m r => q ad2 H2 u (Ext.at (G := G) (g := G.fa) (l' := G.xds) e) (RelM.at (G := G) (g := G.fa) (l' := G.xds) m (by rw [hX]; intro r hr; cases hr)) (by simp only [relV, Rep] at r ⊢; exact r)
  have went := (hbody A outer s H E p l hΦ (room.deeper _)).run [] s1 _ H _ start ⟨_, M, ad, relE_start hn ra, rm', runF_ends rm' q'⟩
  refine wpAny_mono went (fun fl s2 h2 => ?_) fun _ _ h2 => h2
  have close : ∀ {σ2 : L2.St} {H2 : Hp} {y : V} {u : Value}, Inv (L2H.cxH (L2N.CX P w) P w G.K mg base N x (defScope st) f cdv A outer s H E p) [] σ2 H2 s2 → RelV y u → Q y H2 → CE outer P w H s Q u s2 :=
    fun J ry qy => ⟨_, _, J.os, J.bare, J.base, J.hok, ry, qy⟩
  match fl, h2 with
  | .ret u, ⟨_, _, _, J, ry, qy⟩ => exact close J ry qy
  | .next, ⟨_, _, J, qy⟩ => exact close (y := .non) (u := .none) J rfl qy
  | .brk, ⟨_, _, _, qy⟩ => exact qy.elim
  | .cont, ⟨_, _, _, qy⟩ => exact qy.elim
def evKind (i : Nat) (z : Str) : Ev → Store → Res D := fun env M => match env[i]? with
  | some (some (.fn _)) => .ok (.str z) M
  | _ => .stuck
/-- what the object of an exception of class c is -/
abbrev PhiE (G : Gx) (c : Nat) : Obj → List (Addr × List (Str × V)) → Prop := fun o l => Zc (.ref (G.ca c)) (dOf l) o ∧ ∃ vs, o.data = .fields vs
structure OwnE (P : Program) (w : World) (G : Gx) (mg : Str → Option Value) (base : Heap) (x : Str) (n k : Nat) (z : Nat → Str) : Prop where
  ex : ∃ (f : Addr) (fd : FuncData) (v : Str), (∀ c, c < n → FnE P w G mg base k f fd v (PhiE G c) (z c)) ∧ mg x = some (.ref f) ∧ PySem.W.keepIn G.K (.ref f) = true ∧ Binds G.K fd [v] []
theorem own_ofE {P : Program} {w : World} {mg : Str → Option Value} {base : Heap} {x v : Str} {st : Stmt} {f : Addr} {fd : FuncData} {cdv : Value} {n k : Nat} {z : Nat → Str} (F : DefC G.K mg x st f fd cdv)
    (h : ∀ c, c < n → FnE P w G mg base k f fd v (PhiE G c) (z c)) (hb : BindF x st [v]) : OwnE P w G mg base x n k z := by
  have h' := h
  obtain ⟨oc, od, kV, doc, pm, an, ct, osl, rfl, lk⟩ := F.ex
  exact ⟨f, _, v, h', F.mgf, F.kp, .all (hb kV doc pm an cdv ct)⟩
theorem se_kind {n k j i c : Nat} {z : Nat → Str} {x y : Str} {a : Addr} {oe : Obj} {pn : List (Addr × Obj)} {l : List (Addr × List (Str × V))} {q q2 pos : Pos} (hK : X.K = G.K) (hX : G.xds = []) (h : OwnE X.prog X.w G X.mg X.base x n k z) (hr : Room j X.A) (hk : k ≤ j) (hc : c < n) (hz : PhiE G c oe l)
    (hg : Gl X x) (hN : X.N[i]? = some y) (hv : Vis X.env.scope y) (hd : (y == ("__debug__" : Str)) = false) (hcd : (y == ("__classdict__" : Str)) = false) (hdb : (x == ("__debug__" : Str)) = false) :
    PE (X.suite a ((a, oe) :: pn)) (.Call (.Name x q) [.Name y q2] [] pos) (tE (G.at (fun _ => some a) l) W (evKind i (z c))) := by
  obtain ⟨f, fd, v, F, hm, kp, hb⟩ := h.ex
  have kp2 : PySem.W.keepIn X.K (.ref f) = true := by rw [hK]; exact kp
  refine ⟨fun pins s σ H Q I ⟨env, M, ad, re, rm, e⟩ => ?_⟩
  unfold evKind at e
  split at e
  · rename_i j hj
    obtain ⟨va, hσ, hva⟩ := re.2 i _ hj
    simp only [Rep] at hva
    obtain ⟨b, hb1, rfl⟩ := hva
    obtain rfl : a = b := Option.some.inj hb1
    have arg : PA (X.suite a ((a, oe) :: pn)) [.Name y q2] _ := pa_cons (pe_var (X := X.suite a ((a, oe) :: pn)) hN hv hd hcd) pa_nil
    refine wpAny_Call_Name_kw (ld_glob (X := X.suite a ((a, oe) :: pn)) I hg hm ?_ hdb)
    refine PySem.W.callWith_K (K := X.K) (h₀ := X.base) I.ok.mod.kin kp2 (thn (arg.run pos pins s σ H (fun vs H1 => vs = [V.ref a] ∧ H1 = H) I ⟨_, hσ, rfl, rfl⟩) fun us s1 hap => ?_)
    obtain ⟨vs, H1, I1, r, ev, eH⟩ := hap
    refine ⟨I1.kIn, ?_⟩
    subst ev; subst eH
    match us, r with
    | [u], .cons ru .nil =>
      obtain rfl : u = Value.ref a := ru
      have there := I1.pin (a, oe) (List.mem_append_left _ List.mem_cons_self)
      have pinned : L2H.PinOk X.stack H1 s1 (a, oe) := ⟨there.1, there.2.1, fun hm => (List.mem_cons.mp (I1.stkSub a hm)).elim there.2.2.1 there.2.2.2.1, there.2.2.2.2⟩
      have roomS : L2H.RoomH k (X.suite a ((a, oe) :: pn)).A := ⟨(L2H.roomH_of (hr.mono hk)).dp, (L2H.roomH_of (hr.mono hk)).un⟩
      have bound := hb s1 [.ref a] (by rw [← hK]; exact I1.kIn) rfl
      rw [List.append_nil] at bound
      have pre : ∃ M ad, RelM G ad H1 M ∧ (∀ r ∈ l, H1 r.1 = some (.xd r.2)) ∧ PostR G (fun _ _ _ => False) (relV G) ad H1 M (.ok (.str (z c)) M) Q :=
        ⟨M, ad, RelM.at (G := G) (g := G.fa) (l' := G.xds) rm (by rw [hX]; intro r hr; cases hr), rm.xd, fun ad2 H2 u e2 m2 r2 => e ad2 H2 u (Ext.at (G := G) (f := G.fa) (l := G.xds) e2) (RelM.at (G := G) (f := G.fa) (l := G.xds) m2 fun r hr => xd_stays rm (Ext0.at (G := G) (f := G.fa) (l := G.xds) e2.toExt0) (rm.xd r hr)) (by simp only [relV, Rep] at r2 ⊢; exact r2)⟩
      have e0 : Env0 X.prog X.w G.K X.mg X.base (X.suite a ((a, oe) :: pn)).A X.stack s1 H1 := by rw [← hK]; exact I1.env0
      refine wpAny_call (codeAny_mono ((F c hc).run (X.suite a ((a, oe) :: pn)).A X.stack s1 H1 ⟨[.ref a], []⟩ (a, oe) l Q (fun _ _ _ => False) roomS hz pinned e0 bound pre) fun r s2 hq => ?_)
      match r, hq with
      | .error e, ⟨_, _, _, _, _, _, _, _, _, _, _, _, no⟩ => exact no.elim
      | .ok (.ret u), hq => exact I1.after hq
      | .ok .next, hq => exact hq.elim
      | .ok .brk, hq => exact hq.elim
      | .ok .cont, hq => exact hq.elim
  · exact e.elim

/-! ### e.number -/
def evFld (i : Nat) (fs : List (Str × D)) (f : Str) : Ev → Store → Res D := fun env M => match env[i]? with
  | some (some (.fn _)) => (match fs.lookup f with
    | some (.int k) => .ok (.int k) M
    | _ => .stuck)
  | _ => .stuck
theorem se_fld {i c : Nat} {fs : List (Str × D)} {f y : Str} {a : Addr} {oe : Obj} {pn : List (Addr × Obj)} {l : List (Addr × List (Str × V))} {q2 pos : Pos} (T : ExcC X.K (G.ca c)) (hno : PySem.W.findIn X.K (.ref (G.ca c)) f = some none) (hz : PhiE G c oe l) (hl : LOk fs l)
    (hN : X.N[i]? = some y) (hv : Vis X.env.scope y) (hd : (y == ("__debug__" : Str)) = false) (hcd : (y == ("__classdict__" : Str)) = false) (hb : attributeBase (.Name y q2) f X.env (eval (.Name y q2) X.env) = eval (.Name y q2) X.env) :
    PE (X.suite a ((a, oe) :: pn)) (.Attribute (.Name y q2) f pos) (tE (G.at (fun _ => some a) l) W (evFld i fs f)) :=
  PE.weak (pe_xf (X := X) ⟨T.hg, T.hk, T.hs, T.hd⟩ hno hz.1 hz.2 (pe_var (X := X.suite a ((a, oe) :: pn)) hN hv hd hcd) hb) fun σ H Q ⟨env, M, ad, re, rm, e⟩ => by
    unfold evFld at e
    split at e
    · rename_i j hj
      obtain ⟨va, hσ, hva⟩ := re.2 i _ hj
      simp only [Rep] at hva
      obtain ⟨b, hb1, rfl⟩ := hva
      obtain rfl : a = b := Option.some.inj hb1
      split at e
      · rename_i k hk
        rcases hl with ⟨rfl, _⟩ | ⟨dd, rfl⟩
        · simp at hk
        · exact ⟨_, hσ, rfl, rfl, dd, fsV fs, .int k, rfl, rm.xd (dd, fsV fs) List.mem_cons_self, fsV_look hk, PostR.ret e rm (by simp [relV, Rep])⟩
      · exact e.elim
    · exact e.elim

/-! ### a def called there with a whole number, that tells a truth -/
structure OwnH (P : Program) (w : World) (G : Gx) (mg : Str → Option Value) (base : Heap) (x : Str) (k n : Nat) (fn : FD) : Prop where
  ex : ∃ (f : Addr) (fd : FuncData) (ps : List Str), L2H.FnH P w G.K mg base (L2N.CX P w) k f fd ps (spF G n fn) ∧ mg x = some (.ref f) ∧ PySem.W.keepIn G.K (.ref f) = true ∧ Binds G.K fd ps []
theorem fnH_ok {P : Program} {w : World} {mg : Str → Option Value} {base : Heap} {x : Str} {st : Stmt} {f : Addr} {fd : FuncData} {cdv : Value} {N ps : List Str} {k n : Nat} {keep : Bool} {body : Ev → Store → Out} (F : DefC G.K mg x st f fd cdv) (S : C8.scC N ps (defScope st) = true) (hn : N.length = n)
    (hbody : ∀ (A : Around) (outer : List Env) (s : Shared) (H : Hp) (E : XK) (p : Addr × Obj), L2H.RoomH k (A.deeper (envOfC x (defScope st) s.heap.objs.size f cdv)) →
      PSs (L2H.cxH (L2N.CX P w) P w G.K mg base N x (defScope st) f cdv A outer s H E p) (defBody st) (tS G (fun c d _ H' => E c d H') body)) :
    L2H.FnH P w G.K mg base (L2N.CX P w) (k + 1) f fd ps (spF G ps.length (runF n keep body)) := by
  obtain ⟨oc, od, kV, doc, pm, an, ct, osl, rfl, lk⟩ := F.ex
  refine L2H.fn_ofH lk F.code (C8.fnScope_by S) (fun vs H Q E h => h.1) (fun A outer s H vs Q E p _ hr h => ?_)
  obtain ⟨hl, ds, M, ad, r, rm, q⟩ := h
  exact ⟨_, hbody A outer s H E p hr, ⟨_, M, ad, relE_start hn r, rm, runF_ends rm q⟩⟩
theorem own_ofH {P : Program} {w : World} {mg : Str → Option Value} {base : Heap} {x : Str} {st : Stmt} {f : Addr} {fd : FuncData} {cdv : Value} {ps : List Str} {k : Nat} {fn : FD} (F : DefC G.K mg x st f fd cdv) (h : L2H.FnH P w G.K mg base (L2N.CX P w) k f fd ps (spF G ps.length fn)) (hb : BindF x st ps) : OwnH P w G mg base x k ps.length fn := by
  have h' := h
  obtain ⟨oc, od, kV, doc, pm, an, ct, osl, rfl, lk⟩ := F.ex
  exact ⟨f, _, ps, h', F.mgf, F.kp, .all (hb kV doc pm an cdv ct)⟩
def evCallI (fn : FD) (g : Ev → Store → Res D) : Ev → Store → Res D := fun env M => (g env M).bind fun d M1 => match d with
  | .int k => (match fn [.int k] M1 with
    | .ok (.bl b) M2 => .ok (.bl b) M2
    | _ => .stuck)
  | _ => .stuck
theorem se_ownI {k j c : Nat} {d : Option Addr} {x : Str} {q pos : Pos} {e : Expr} {fn : FD} {g : Ev → Store → Res D} {a : Addr} {oe : Obj} {pn : List (Addr × Obj)} {l : List (Addr × List (Str × V))} (hK : X.K = G.K) (hX : G.xds = []) (h : OwnH X.prog X.w G X.mg X.base x k 1 fn) (hr : Room j X.A) (hk : k ≤ j) (hz : L2N.Zn (.ref (G.ca c)) d oe) (hf : ∃ vs, oe.data = .fields vs)
    (hg : Gl X x) (ha : PE (X.suite a ((a, oe) :: pn)) e (tE (G.at (fun _ => some a) l) (fun _ _ _ _ => False) g)) (hdb : (x == ("__debug__" : Str)) = false) (he : starEach (e :: []) X.env = (false, eval e X.env) :: starEach [] X.env) :
    PE (X.suite a ((a, oe) :: pn)) (.Call (.Name x q) [e] [] pos) (tE (G.at (fun _ => some a) l) (fun _ _ _ _ => False) (evCallI fn g)) := by
  obtain ⟨f, fd, ps, F, hm, kp, hb⟩ := h.ex
  rw [← hK] at F kp hb
  have hot : L2H.HotC (X.suite a ((a, oe) :: pn)) := by
    obtain ⟨vs, hv⟩ := hf
    exact ⟨(a, oe), ⟨rfl, vs, hv, hz.2.2 vs hv⟩, List.mem_cons_self⟩
  have roomS : L2H.RoomH k (X.suite a ((a, oe) :: pn)).A := ⟨(L2H.roomH_of (hr.mono hk)).dp, (L2H.roomH_of (hr.mono hk)).un⟩
  refine PE.weak (L2H.pe_callH (X := X.suite a ((a, oe) :: pn)) (E := fun _ _ _ _ => False) F roomS hot hg hm kp hb (fun σ pins H s e s' I ⟨_, _, _, _, _, _, _, _, _, _, _, _, no⟩ => no.elim) (pa_cons ha pa_nil he) hdb he rfl) fun σ H Q ⟨env, M, ad, re, rm, q⟩ => ?_
  refine ⟨env, M, ad, re, rm, ?_⟩
  unfold evCallI at q
  have b := PostR.bind (rel := relV (G.at (fun _ => some a) l)) q
  refine PostR.imp b fun u H2 ⟨d1, M1, ad1, e1, m1, r1, q1⟩ => ?_
  show spF G 1 fn [u] H2 Q _
  · split at q1
    · rename_i k
      split at q1
      · rename_i bb M2 hfn
        refine ⟨rfl, [.int k], M1, ad1, ?_, RelM.at (G := G) (g := G.fa) (l' := G.xds) m1 (by rw [hX]; intro r hr; cases hr), ?_⟩
        · have r1' : Rep (G.at (fun _ => some a) l) ad1 H2 M1 (.int k) u := r1
          simp only [Rep] at r1'
          simp only [Reps, Rep]
          exact ⟨_, _, rfl, r1', rfl⟩
        · rw [hfn]
          exact fun ad3 H3 v3 e3 m3 r3 => q1 ad3 H3 v3 (Ext.at (G := G) (f := G.fa) (l := G.xds) e3) (RelM.at (G := G) (f := G.fa) (l := G.xds) m3 fun r hr => xd_stays m1 (Ext0.at (G := G) (f := G.fa) (l := G.xds) e3.toExt0) (m1.xd r hr)) (by simp only [relV, Rep] at r3 ⊢; exact r3)
      · exact q1.elim
    · exact q1.elim
end
end Mi

set_option Elab.async false
set_option linter.all false
set_option maxRecDepth 100000
set_option maxHeartbeats 1000000
/-! MiP: try .. except .. as e with such a suite; raise C(e) where C has its own __init__. -/
namespace Mi
open PySem PySem.Spec PyProof.Rows L2
section
variable {G : Gx} {X : Cx} {W : WX}
def cutE (i : Nat) : Out → Out
  | .nx env M => if noFnE (env.set i none) = true then .nx (env.set i none) M else .stuck
  | .ret d M => if noFn d = true then .ret d M else .stuck
  | _ => .stuck
/-- h: what the suite does with an exception of class c with these fields; slot i has the exception -/
def sTryE (n i : Nat) (body : Ev → Store → Out) (h : Nat → List (Str × D) → Ev → Store → Out) : Ev → Store → Out := fun env M => match body env M with
  | .exc c fs env' M' => if c < n ∧ i < env'.length ∧ plainF fs = true ∧ noFnE env' = true then cutE i (h c fs (env'.set i (some (.fn 0))) M') else .stuck
  | o => o
theorem PostS.cutE {ad : Adr} {H : Hp} {M : Store} {o : Out} {i : Nat} {E : Ends} {f g : Nat → Option Addr} {l l' : List (Addr × List (Str × V))} (hl' : l' = []) (h : PostS (G.at g l') W ad H M (cutE i o) E) {W' : WX} :
    PostS (G.at f l) W' ad H M o { nx := fun σ' H' => E.nx (σ'.set i none) H', rt := E.rt, bk := fun σ' H' => E.bk (σ'.set i none) H', ct := fun σ' H' => E.ct (σ'.set i none) H' } := by
  subst hl'
  have none_ : ∀ {H2 : Hp}, ∀ r ∈ ([] : List (Addr × List (Str × V))), H2 r.1 = some (.xd r.2) := fun r hr => by cases hr
  cases o with
  | nx env M2 =>
    obtain ⟨hn, h⟩ := postS_if h
    exact fun ad2 H2 v e2 m2 r2 => h ad2 H2 _ (Ext.at (G := G) e2) (RelM.at (G := G) m2 none_) (RelE.at (G := G) hn r2.unset)
  | ret d M2 =>
    obtain ⟨hn, h⟩ := postS_if h
    exact fun ad2 H2 v e2 m2 r2 => h ad2 H2 v (Ext.at (G := G) e2) (RelM.at (G := G) m2 none_) (Rep.at (G := G) d v hn r2)
  | bk env M2 => exact h.elim
  | ct env M2 => exact h.elim
  | exc c fs env M2 => exact h.elim
  | stuck => exact h.elim
theorem st_tryE {n i : Nat} {x y : Str} {C : Addr} {body suite : List Stmt} {b₀ : Stmt} {np pos pos' : Pos} {fb : Ev → Store → Out} {h : Nat → List (Str × D) → Ev → Store → Out} (hs : X.stack = X.env :: X.outer) (hf : X.env.frame = some X.env.locals) (hK : X.K = G.K) (hX : G.xds = [])
    (hN : X.N.Nodup) (hi : X.N[i]? = some y) (hln : X.env.kindOf y = some .local) (hm : X.mg x = some (.ref C)) (hg : Gl X x) (hdb : (x == ("__debug__" : Str)) = false) (tk : L2N.Takes X W)
    (hex : ∀ c, c < n → PySem.W.exmOne G.K (.ref (G.ca c)) (.ref C) = some true)
    (hb : ∀ (W' : WX) (pn : List (Addr × Obj)) (xe : Value → Shared → Prop), L2N.Takes (X.tr pn xe) W' → PassesOwn (model X.prog X.w) X.A X.env xe → PSs (X.tr pn xe) body (tS G W' fb))
    (hsu : ∀ (c : Nat) (a : Addr) (oe : Obj) (pn : List (Addr × Obj)) (fs : List (Str × D)) (l : List (Addr × List (Str × V))), c < n → LOk fs l → L2N.Zn (.ref (G.ca c)) (dOf l) oe → (∃ vs, oe.data = .fields vs) → PSs (X.suite a ((a, oe) :: pn)) (b₀ :: suite) (tS (G.at (fun _ => some a) l) (fun _ _ _ _ => False) (h c fs))) :
    PS X (.Try body [.ExceptHandler (some (.Name x np)) (some y) (b₀ :: suite) pos'] [] [] pos) (tS G W (sTryE n i fb h)) := by
  refine PS.weak (L2N.ps_try_as hs hf hN hi hln ⟨hg, hdb, .inl hm⟩ tk (tb := fun W' => tS G W' fb)
    (ts := fun a cls d E σ H => ∃ c fs l, c < n ∧ cls = .ref (G.ca c) ∧ d = dOf l ∧ LOk fs l ∧ tS (G.at (fun _ => some a) l) (fun _ _ _ _ => False) (h c fs) E σ H) hb fun a oe cls d pn hz hv => ⟨fun pins s σ H E I q => ?_⟩) fun E σ H q => ?_
  · obtain ⟨c, fs, l, hc, rfl, rfl, hl, q⟩ := q
    exact (hsu c a oe pn fs l hc hl hz hv).run pins s σ H E I q
  · obtain ⟨env, M, ad, re, rm, q⟩ := q
    refine ⟨env, M, ad, re, rm, ?_⟩
    unfold sTryE at q
    cases hr : fb env M with
    | nx env' M' => rw [hr] at q; exact q
    | bk env' M' => rw [hr] at q; exact q
    | ct env' M' => rw [hr] at q; exact q
    | ret d M' => rw [hr] at q; exact q
    | stuck => rw [hr] at q; exact q.elim
    | exc c fs env' M' =>
      rw [hr] at q
      obtain ⟨⟨hc, hlen, hp, hnf⟩, q⟩ := postS_if q
      intro ad' H' σ' cls dd e m r x
      have e1 : cls = .ref (G.ca c) := x.1
      subst e1
      have hl : ∃ l, LOk fs l ∧ dd = dOf l ∧ ∀ p ∈ l, H' p.1 = some (.xd p.2) := by
        rcases x.2 with ⟨h1, h2⟩ | ⟨_, da, vs, rfl, h2, h3, h4⟩
        · exact ⟨[], .inl ⟨h1, rfl⟩, h2, fun p hp => by cases hp⟩
        · have ev := fsV_of fs vs hp h3 h4
          subst ev
          exact ⟨[(da, fsV fs)], .inr ⟨da, rfl⟩, rfl, fun p hp => by rw [List.mem_singleton.mp hp]; exact h2⟩
      obtain ⟨l, hl1, hl2, hl3⟩ := hl
      refine ⟨true, by rw [hK]; exact hex c hc, fun _ a na => ⟨c, fs, l, hc, rfl, hl2, hl1, ?_⟩, fun z => by cases z⟩
      have re2 : RelE (G.at (fun _ => some a) l) ad' H' M' env' σ' := RelE.at (G := G) (f := G.fa) (l := G.xds) hnf r
      have rm2 : RelM (G.at (fun _ => some a) l) ad' H' M' := RelM.at (G := G) (f := G.fa) (l := G.xds) m hl3
      refine ⟨env'.set i (some (.fn 0)), M', ad', RelE.set re2 (v := .ref a) (by simp only [Rep]; exact ⟨a, rfl, rfl⟩) hlen, rm2, ?_⟩
      exact PostS.cutE (G := G) (g := G.fa) (l' := G.xds) hX (PostS.mono q e)

/-! ### C(e), C with an __init__ that keeps e in a field -/
/-- what such an __init__ does -/
def spI (C : Addr) (fld : Str) : Sp := fun vs H Q _ => ∃ (a : Addr) (v : V), vs = [.ref a, v] ∧ H a = some (exo a C none) ∧ ∀ d, H d = none → d ≠ a → Q .non (upd (upd H d (exd d [(fld, v)])) a (exo a C (some d)))
theorem init_ok {P : Program} {w : World} {K : PySem.W.Frag} {mg : Str → Option Value} {base : Heap} {nm qual fld : Str} {args : Arguments} {body : List Stmt} {scope : Scope} {f C : Addr} {fd : FuncData} {p1 p2 p3 p4 : Pos} (F : FunD K nm qual args body scope [] [] f fd) (hb : body = [.Assign [.Attribute (.Name "self" p1) fld p2] (.Name fld p3) p4])
    (S : C8.scC ["self", fld] ["self", fld] scope = true) (v0 : Vis scope "self") (v1 : Vis scope fld) (d1 : (fld == ("__debug__" : Str)) = false) (d2 : (fld == ("__classdict__" : Str)) = false)
    (hsw : ∀ env, swapsWith (.Name fld p3) (some (.Attribute (.Name "self" p1) fld p2)) p4.line env = pure false) (T : OexC K C) (hno : PySem.W.findIn K (.ref C) fld = some none) :
    FnOk P w K mg base CX0 1 f fd ["self", fld] (spI C fld) := by
  obtain ⟨oc, od, dV, kV, doc, pm, an, cdv, ct, osl, rfl, lk, hcd, hD, hKw⟩ := F.ex
  refine L2.fn_of (CX := CX0) (k := 0) lk hcd (C8.fnScope_by S) (fun vs H Q E h => ?_) (fun A outer s H vs Q E hr h => ?_)
  · obtain ⟨a, v, rfl, _⟩ := h; rfl
  · obtain ⟨a, v, rfl, ha, q⟩ := h
    refine ⟨tOst K fld (tVar 0) (tVar 1), ?_, ?_⟩
    · rw [hb]
      exact pss_one (ps_ost (pe_var (i := 0) rfl v0) (pe_var (i := 1) rfl v1 d1 d2) (hsw _))
    · exact ⟨v, rfl, .ref a, rfl, a, C, rfl, T, hno, .inl ⟨ha, fun d hd hne => q d hd hne⟩⟩
def tMkN (C : Addr) (fld : Str) (te : TE) : L2.St → Hp → XK → Prop := fun σ H Q => te σ H fun v H1 => ∀ d, H1 d = none → Q (.ref C) (some d) (upd H1 d (.xd [(fld, v)]))
/-- what the written part says of C -/
structure InitC (K : PySem.W.Frag) (C fI : Addr) (fld : Str) : Prop where
  oex : OexC K C
  ini : PySem.W.findIn K (.ref C) "__init__" = some (some (.ref fI))
  tyI : PySem.W.typeIn K (.ref fI) = some (.type "function")
theorem mk_own {x fld : Str} {e : Expr} {te : TE} {p pos : Pos} {C fI : Addr} {fd : FuncData} (T : InitC X.K C fI fld) (F : FnOk X.prog X.w X.K X.mg X.base CX0 1 fI fd ["self", fld] (spI C fld)) (hr : Room 2 X.A) (hb : Binds X.K fd ["self", fld] []) (hg : Gl X x) (hm : X.mg x = some (.ref C)) (ha : PE X e te)
    (hdb : (x == ("__debug__" : Str)) = false) (he : starEach (e :: []) X.env = (false, eval e X.env) :: starEach [] X.env) :
    L2N.PMk X (.Call (.Name x p) [e] [] pos) (tMkN C fld te) := by
  intro pins s σ H Q I h
  obtain ⟨n1, n2, n3, n4, bm, n6, n7, n8, n9, n10, k0, k1, k2, k3, k5, look, ve⟩ := T.oex.cls
  have arg : PA X [e] (tCons te tNil) := pa_cons ha pa_nil he
  refine wpAny_Call_Name_kw (ld_glob I hg hm ?_ hdb)
  refine PySem.W.callWith_K (h₀ := X.base) I.ok.mod.kin T.oex.kC (thn (arg.run pos pins s σ H (fun vs H1 => match vs with | [v] => ∀ d, H1 d = none → Q (.ref C) (some d) (upd H1 d (.xd [(fld, v)])) | _ => False) I h) fun us s1 hap => ?_) he rfl
  obtain ⟨vs, H1, I1, rel, q⟩ := hap
  refine ⟨I1.kIn, ?_⟩
  have one : ∃ v, vs = [v] := by
    match vs, q with
    | [], q => exact q.elim
    | [v], _ => exact ⟨v, rfl⟩
    | _ :: _ :: _, q => exact q.elim
  obtain ⟨v, rfl⟩ := one
  match us, rel with
  | [u], .cons ru .nil =>
  show wpAny _ _ (call (.ref C) [u]) _ _ _
  obtain ⟨h0, g0, d0, t0, o0⟩ := s1
  generalize ea : h0.objs.size + 1 = a
  have big : h0.objs.size ≤ a := by omega
  have fresh : H1 a = none := I1.hok.fresh big
  have grown : ∀ b o, h0.get? b = some o → ((h0.push (PySem.W.kdv_tup [u])).push (PySem.HandSPX.excO C h0.objs.size)).get? b = some o := fun b o z => Heap.get?_push_of_some _ (Heap.get?_push_of_some _ z)
  have there : ((h0.push (PySem.W.kdv_tup [u])).push (PySem.HandSPX.excO C h0.objs.size)).get? a = some (PySem.HandSPX.excO C h0.objs.size) := by subst ea; heap_get
  have I2 : Inv X pins σ (upd H1 a (exo a C none)) ⟨(h0.push (PySem.W.kdv_tup [u])).push (PySem.HandSPX.excO C h0.objs.size), g0, d0, t0, o0⟩ := I1.laid (t' := t0) grown big (exo_ok there)
  have sp1 : spI C fld [.ref a, v] (upd H1 a (exo a C none)) (fun y H2 => y = .non ∧ ∃ (d : Addr), H2 a = some (exo a C (some d)) ∧ H2 d = some (exd d [(fld, v)]) ∧ H1 d = none ∧ Q (.ref C) (some d) (upd (del H2 a) d (.xd [(fld, v)]))) (fun _ _ _ => False) := by
    refine ⟨a, v, rfl, upd_same, fun d hd hne => ⟨rfl, d, upd_same, ?_, ?_, ?_⟩⟩
    · rw [upd_ne hne]; exact upd_same
    · rw [upd_ne hne] at hd; exact hd
    · have e1 : upd (del (upd (upd (upd H1 a (exo a C none)) d (exd d [(fld, v)])) a (exo a C (some d))) a) d (.xd [(fld, v)]) = upd H1 d (.xd [(fld, v)]) := by
        funext b
        by_cases h1 : b = d
        · subst h1; rw [upd_same, upd_same]
        · rw [upd_ne h1, upd_ne h1]
          by_cases h2 : b = a
          · subst h2; rw [del_same, fresh]
          · rw [del_ne h2, upd_ne h2, upd_ne h1, upd_ne h2]
      rw [e1]
      rw [upd_ne hne] at hd
      exact q d hd
  have rel2 : Vals [V.ref a, v] [Value.ref a, u] := .cons rfl (.cons ru .nil)
  have bound := hb _ [Value.ref a, u] I2.kIn rfl
  rw [List.append_nil] at bound
  have small : [u].length ≤ sizeLine := by rw [sizeLine_eq]; exact (by decide : 1 ≤ 16777216)
  refine wpAny_call (PySem.HandSPX.call_own PySem.F.excBase_ValueError (fun Y => PySem.HandSPX.refsVE_contains Y bm ve) (I1.kIn _ _ look) (PySem.W.looks_findIn I1.kIn T.ini) (fun self => PySem.W.bind_fn I1.kIn self T.tyI) small ?_)
  refine codeAny_mono (F.run _ X.stack _ _ ⟨Value.ref (h0.objs.size + 1) :: [u], []⟩ [Value.ref a, u] [.ref a, v] _ (fun _ _ _ => False) (hr.make C [u] []) (I2.env0.make C [u] []) (by rw [ea]; exact bound) rel2 sp1) fun r s2 end_ => ?_
  match r, end_ with
  | .error err, end_ => exact end_.elim
  | .ok .next, end_ => exact end_.elim
  | .ok .brk, end_ => exact end_.elim
  | .ok .cont, end_ => exact end_.elim
  | .ok (.ret u2), end_ =>
    obtain ⟨v2, H2, os2, bare2, un2, hok2, rv, ev, d, ea2, ed2, hd1, q2⟩ := end_
    subst ev
    obtain ⟨h2, g2, d2, t2, o2⟩ := s2
    obtain ⟨t3, G3, J, kG, ge, hoe, na⟩ := mk_end0 (d2 := d2) (t2 := t2) I1 big grown un2 hok2 os2 bare2 ea2 ed2 hd1
    refine ⟨rv, ?_⟩
    rw [ea]
    exact ⟨a, _, _, ⟨G3, g2, d2, t2, o2⟩, _, .ref C, some d, rfl, J, kG, ge, hoe, ⟨rfl, rfl, fun vs hv => by cases hv; rfl⟩, rfl, rfl, na, rfl, bare2, raises_own T.oex.exC T.oex.tyC, q2⟩
def sRaiseF (c : Nat) (fld : Str) (f : Ev → Store → Res D) : Ev → Store → Out := fun env M => (f env M).out env fun d M1 => match d with
  | .int k => .exc c [(fld, .int k)] env M1
  | _ => .stuck
theorem st_raiseF {c j : Nat} {x fld : Str} {e : Expr} {f : Ev → Store → Res D} {p pos pos' : Pos} {fI : Addr} {fd : FuncData} (hc : X.calm = true) (hK : X.K = G.K) (T : InitC G.K (G.ca c) fI fld) (F : FnOk X.prog X.w G.K X.mg X.base CX0 1 fI fd ["self", fld] (spI (G.ca c) fld)) (hr : Room j X.A) (hj : 2 ≤ j) (hb : Binds G.K fd ["self", fld] []) (hg : Gl X x) (hm : X.mg x = some (.ref (G.ca c))) (tk : L2N.Takes X W)
    (he : PE X e (tE G W f)) (hdb : (x == ("__debug__" : Str)) = false) (hst : starEach (e :: []) X.env = (false, eval e X.env) :: starEach [] X.env) :
    PS X (.Raise (some (.Call (.Name x p) [e] [] pos)) none pos') (tS G W (sRaiseF c fld f)) := by
  rw [← hK] at T F hb
  refine PS.weak (L2N.ps_raise hc tk (mk_own T F (hr.mono hj) hb hg hm he hdb hst)) fun E σ H ⟨env, M, ad, re, rm, q⟩ => ?_
  refine tE.imp (tE_out re rm q) fun v H1 ⟨d, M1, ad1, e1, m1, r1, q1⟩ => ?_
  split at q1
  · rename_i k
    intro da hda
    simp only [Rep] at r1
    subst r1
    have eL := Ext.laid (o := .xd [(fld, .int k)]) hda m1
    have mL := RelM.laid (o := .xd [(fld, .int k)]) hda m1
    refine q1 ad1 _ σ _ (some da) eL mL ((re.ext e1.toExt0 rm).ext eL.toExt0 m1) ⟨rfl, .inr ⟨by simp, da, [(fld, .int k)], rfl, upd_same, rfl, ?_⟩⟩
    simp only [List.map_cons, List.map_nil, Reps, Rep]
    exact ⟨_, _, rfl, rfl, rfl⟩
  · exact q1.elim
end
end Mi

set_option Elab.async false
set_option linter.all false
set_option maxRecDepth 100000
set_option maxHeartbeats 1000000
/-! MiQ: sorted({..}) over a list that stands in the store; either way of reading; facts of a refusal's class. -/
namespace Mi
open PySem PySem.Spec PyProof.Rows L2
section
variable {G : Gx} {X : Cx} {W : WX}
theorem st_union {st : Stmt} {t t' : TS} (h : PS X st t) (h' : PS X st t') : PS X st (fun E σ H => t E σ H ∨ t' E σ H) := ⟨fun pins s σ H E I q => q.elim (h.run pins s σ H E I) (h'.run pins s σ H E I)⟩
theorem se_union {e : Expr} {t t' : TE} (h : PE X e t) (h' : PE X e t') : PE X e (fun σ H Q => t σ H Q ∨ t' σ H Q) := ⟨fun pins s σ H Q I q => q.elim (h.run pins s σ H Q I) (h'.run pins s σ H Q I)⟩
def isLoc : Res D → Bool
  | .ok (.loc _) _ => true
  | _ => false
def sEither (f : Ev → Store → Res D) (a b : Ev → Store → Out) : Ev → Store → Out := fun env M => if isLoc (f env M) = true then a env M else b env M
theorem st_either {st : Stmt} {f : Ev → Store → Res D} {a b : Ev → Store → Out} (ha : PS X st (tS G W a)) (hb : PS X st (tS G W b)) : PS X st (tS G W (sEither f a b)) :=
  PS.weak (st_union ha hb) fun E σ H ⟨env, M, ad, re, rm, q⟩ => by
    unfold sEither at q
    split at q
    · exact .inl ⟨env, M, ad, re, rm, q⟩
    · exact .inr ⟨env, M, ad, re, rm, q⟩
def evEither (f : Ev → Store → Res D) (a b : Ev → Store → Res D) : Ev → Store → Res D := fun env M => if isLoc (f env M) = true then a env M else b env M
theorem se_either {e : Expr} {f : Ev → Store → Res D} {a b : Ev → Store → Res D} (ha : PE X e (tE G W a)) (hb : PE X e (tE G W b)) : PE X e (tE G W (evEither f a b)) :=
  PE.weak (se_union ha hb) fun E σ H ⟨env, M, ad, re, rm, q⟩ => by
    unfold evEither at q
    split at q
    · exact .inl ⟨env, M, ad, re, rm, q⟩
    · exact .inr ⟨env, M, ad, re, rm, q⟩

/-! ### the set -/
def scL (p : Pat) (ifs : Ev → Store → Res Bool) (elt : Ev → Store → Res D) (l : Nat) : Nat → Nat → List (List Int) → Ev → Store → Res (List (List Int))
  | 0, _, _, _, _ => .stuck
  | n + 1, i, acc, env, M => match listAt M l with
    | none => .stuck
    | some xs => match xs[i]? with
      | none => .ok acc M
      | some x => match asgP M p x env with
        | none => .stuck
        | some env1 => (ifs env1 M).bindN fun k M1 => if k = true then (elt env1 M1).bindN fun d M2 => match d with
          | .tup ys => (Res.of (intsOf ys) M2).bindN fun is M2 => if acc.length + 1 < 64 then scL p ifs elt l n (i + 1) (acc ++ [is]) env M2 else .stuck
          | _ => .stuck
          else scL p ifs elt l n (i + 1) acc env M1
def evSSL (p : Pat) (own : List Nat) (f : Ev → Store → Res D) (ifs : Ev → Store → Res Bool) (elt : Ev → Store → Res D) : Ev → Store → Res D := fun env M => (f env M).bind fun d M1 => match d with
  | .loc l => (scL p ifs elt l 1000 0 [] (wipeD env own) M1).bind fun ls M2 => if okTups ls = true then .ok (.lst ((sortC (nubL ls)).map tupD)) M2 else .stuck
  | _ => .stuck
theorem scL_run {P : Program} {w : World} {p : Pat} {fi : Ev → Store → Res Bool} {fe : Ev → Store → Res D} {l : Nat} {J : It} {vs : List Nat} {σ : L2.St} {env : Ev} {ad1 : Adr} {H1 : Hp} {M1 : Store} {D0 : Addr} {Qd : Hp → Prop} {W0 : WX0} {β : Type} {rel2 : Adr → Hp → Store → β → V → Prop} {k : List (List Int) → Store → Res β} {Q : V → Hp → Prop}
    (hs : ∀ i ∈ slotsP p, i ∈ vs) (re : RelE G ad1 H1 M1 env σ) (m1 : RelM G ad1 H1 M1) (w1 : Wl G false J l ad1 H1 M1) (h0 : H1 D0 = none)
    (q1 : PostR G W0 rel2 ad1 H1 M1 ((scL p fi fe l 1000 0 [] (wipeD env vs) M1).bind k) Q)
    (hend : ∀ ad H M ls L, Ext G ad1 H1 M1 ad H M → RelM G ad H M → H D0 = some (SetTO P w D0 L) → Stands G.K H L ls → PostR G W0 rel2 ad1 H1 M1 (k ls M) Q → Qd H) :
    ∃ Wv : Nat → Nat → Hp → Prop, (∃ m, Wv 0 m (upd H1 D0 (SetTO P w D0 []))) ∧ ∀ i m H, Wv i m H →
      (J.stop i H ∧ Qd H) ∨ (J.go i H ∧ ∃ Nx : Hp → Prop, (∀ H', Nx H' → ∃ m', m' < m ∧ Wv (i + 1) m' H') ∧ ∀ x H', J.yld i H x H' → tG G p x (wipe σ vs) H' fun σ2 H2 => wipe σ2 vs = wipe σ vs ∧ tT G WNo fi σ2 H2 fun b H3 =>
        if b = true then tE G WNo fe σ2 H3 fun y H4 => ∃ (a : Addr) (k : List Int) (L : List (Addr × List Int)), y = .ref a ∧ SqT G.K H4 a (k.map V.int) ∧ H4 D0 = some (SetTO P w D0 L) ∧ (∀ p ∈ L, SqT G.K H4 p.1 (p.2.map V.int)) ∧ L.length + 1 < 64 ∧
          ∀ L', (k ∈ L.map (·.2) → L' = L) → (k ∉ L.map (·.2) → L'.Perm ((a, k) :: L)) → Nx (upd H4 D0 (SetTO P w D0 L')) else Nx H3) := by
  let At : Nat → Nat → Hp → Prop := fun i m H => ∃ ad M acc L, Ext G ad1 H1 M1 ad H M ∧ RelM G ad H M ∧ H D0 = some (SetTO P w D0 L) ∧ Stands G.K H L acc ∧ RelE G ad H M (wipeD env vs) (wipe σ vs) ∧ PostR G W0 rel2 ad1 H1 M1 ((scL p fi fe l m i acc (wipeD env vs) M).bind k) Q
  have e0 := Ext.laid (o := SetTO P w D0 []) h0 m1
  refine ⟨At, ⟨1000, ad1, M1, [], [], e0, RelM.laid h0 m1, upd_same, ⟨fun p hp => (by cases hp), fun is => Iff.rfl, Nat.le_refl _⟩, (RelE.ext e0.toExt0 m1 re).wipe vs, q1⟩, ?_⟩
  rintro i m H ⟨ad, M, acc, L, e, mm, hD, st, rE, q⟩
  cases m with
  | zero => exact q.elim
  | succ m =>
  simp only [scL] at q
  cases hla : listAt M l with
  | none => rw [hla] at q; exact q.elim
  | some xs =>
  rw [hla] at q
  simp only at q
  obtain ⟨wg, ws⟩ := w1 ad H M xs i e.toExt0 mm hla
  have noAl : ∀ {ad : Adr} {H : Hp} {M : Store} {L : List (Addr × List Int)}, RelM G ad H M → H D0 = some (SetTO P w D0 L) → ¬ Al ad M D0 := fun {ad H M L} mm hD ⟨l, o, hl, z⟩ => by
    have r := mm.ok l o hl
    rw [z] at r
    cases o with
    | lst xs => obtain ⟨us, r1, _⟩ := r; rw [hD] at r1; cases r1
    | dct xs => obtain ⟨us, r1, _⟩ := r; rw [hD] at r1; cases r1
  have stay : ∀ {ad ad' : Adr} {H H' : Hp} {M M' : Store} {L : List (Addr × List Int)} {acc : List (List Int)}, Ext G ad H M ad' H' M' → RelM G ad H M → Stands G.K H L acc → Stands G.K H' L acc := fun e mm s => ⟨fun p hp => SqT.ext e.toExt0 mm (s.tup p hp), s.mem, s.few⟩
  cases hx : xs[i]? with
  | none =>
    rw [hx] at q
    exact .inl ⟨ws hx, hend ad H M acc L e mm hD st q⟩
  | some d =>
    rw [hx] at q
    simp only at q
    obtain ⟨g1, g2⟩ := wg d hx
    refine .inr ⟨g1, At (i + 1) m, fun H2 h2 => ⟨m, by omega, h2⟩, fun x H2 hy => ?_⟩
    obtain ⟨ex, mx, rx⟩ := g2 x H2 hy
    split at q
    · exact q.elim
    · rename_i env1 hasg
      have rE2 := rE.ext ex.toExt0 mm
      have hD2 : H2 D0 = some (SetTO P w D0 L) := ex.frame D0 _ hD (noAl mm hD) rfl
      refine ⟨d, wipeD env vs, env1, M, ad, rx, rE2, mx, hasg, fun σ3 re3 s3 => ⟨wipe_same s3 hs, env1, M, ad, re3, mx, ?_⟩⟩
      cases hfi : fi env1 M with
      | stuck => rw [hfi] at q; exact q.elim
      | exc c fs M2 => rw [hfi] at q; exact q.elim
      | ok b M2 =>
        rw [hfi] at q
        simp only [Res.bindN] at q
        intro ad3 H3 b' e3 m3 eb
        cases (show b = b' from eb)
        have hD3 : H3 D0 = some (SetTO P w D0 L) := e3.frame D0 _ hD2 (noAl mx hD2) rfl
        have e13 : Ext G ad1 H1 M1 ad3 H3 M2 := (e.trans ex).trans e3
        have st3 := stay e3 mx (stay ex mm st)
        have rE3 := rE2.ext e3.toExt0 mx
        cases b with
        | false =>
          rw [if_neg (by simp)] at q ⊢
          exact ⟨ad3, M2, acc, L, e13, m3, hD3, st3, rE3, q⟩
        | true =>
          rw [if_pos rfl] at q ⊢
          refine ⟨env1, M2, ad3, re3.ext e3.toExt0 mx, m3, ?_⟩
          cases hfe : fe env1 M2 with
          | stuck => rw [hfe] at q; exact q.elim
          | exc c fs M3 => rw [hfe] at q; exact q.elim
          | ok y M3 =>
            rw [hfe] at q
            simp only [Res.bindN] at q
            split at q
            · rename_i ys
              cases hys : intsOf ys with
              | none => rw [hys] at q; exact q.elim
              | some is =>
                rw [hys] at q
                simp only [Res.of] at q
                by_cases few : acc.length + 1 < 64
                · rw [if_pos few] at q
                  intro ad4 H4 yv e4 m4 ry
                  have hD4 : H4 D0 = some (SetTO P w D0 L) := e4.frame D0 _ hD3 (noAl m3 hD3) rfl
                  have st4 := stay e4 m3 st3
                  rw [intsOf_eq hys] at ry
                  obtain ⟨a, rfl, ha⟩ := rep_tupI.mp (show Rep G ad4 H4 M3 (tupD is) yv from ry)
                  refine ⟨a, is, L, rfl, ha, hD4, st4.tup, by have := st4.few; omega, fun L' same more => ?_⟩
                  exact ⟨ad4, M3, acc ++ [is], L', Ext.swap h0 (e13.trans e4), RelM.swap hD4 m4, upd_same, st4.add (fun p h => SqT.swap hD4 h) ha same more, RelE.swap hD4 (rE3.ext e4.toExt0 m3), q⟩
                · rw [if_neg few] at q; exact q.elim
            · exact q.elim
variable {p p2 pos2 pos : Pos}
theorem se_sortSL {elt tg iter : Expr} {ifs : List Expr} {scope : Scope} {own : List (Str × Nat)} {pt : Pat} {f : Ev → Store → Res D} {ft : Ev → Store → Res Bool} {fe : Ev → Store → Res D} (hK : X.K = G.K) (hc : X.calm = true) (hu : X.A.units + 64 < cLine) (hgl : Gl X "sorted") (hm : X.mg "sorted" = none) (hN : X.N.Nodup) (hi : PE X iter (tE G W f)) (ok : BlkOk X.N X.env.scope scope own) (hp : ∀ i ∈ slotsP pt, i ∈ own.map (·.2))
    (hg : ∀ (s : Shared) (H : Hp) (C : Addr) (cl : List (Str × Addr)) (fp : List Addr), PG (X.blk s H scope (compEnvC scope cl C X.env) fp) tg (tG G pt)) (ht : ∀ (s : Shared) (H : Hp) (C : Addr) (cl : List (Str × Addr)) (fp : List Addr), PTs (X.blk s H scope (compEnvC scope cl C X.env) fp) ifs (tT G WNo ft))
    (he : ∀ (s : Shared) (H : Hp) (C : Addr) (cl : List (Str × Addr)) (fp : List Addr), PE (X.blk s H scope (compEnvC scope cl C X.env) fp) elt (tE G WNo fe)) (hs : ∀ x, foldedSetIterable iter X.env x = pure x)
    (na : starEach [.SetComp elt [⟨tg, iter, ifs, 0⟩] scope pos2] X.env = (false, eval (.SetComp elt [⟨tg, iter, ifs, 0⟩] scope pos2) X.env) :: starEach [] X.env) (hpl : (backTo pos (starEach [] X.env)).any (·.1) = false) :
    PE X (.Call (.Name "sorted" p) [.SetComp elt [⟨tg, iter, ifs, 0⟩] scope pos2] [] pos) (tE G W (evSSL pt (own.map (·.2)) f ft fe)) := by
  have inner := pe_scT (pos := pos2) hc hu hN (pi_seq hi) ok hg ht he hs
  have whole := pe_callB (cr_sortedT hc) hgl hm (by decide +kernel) (pa_cons inner pa_nil na) (by decide) (by decide) na hpl (pos := pos) (p := p)
  refine PE.weak whole fun σ H Q ⟨env, M, ad, re, rm, q⟩ => ?_
  rw [hK]
  unfold evSSL at q
  refine tE.imp (tE_bind re rm q) fun v H1 ⟨d, M1, ad1, e1, m1, r1, q1⟩ => ?_
  cases d with
  | loc l => ?_
  | _ => exact q1.elim
  simp only [Rep] at r1
  simp only at q1
  obtain ⟨rfl, hl⟩ := r1
  have there : ∃ xs, listAt M1 l = some xs := by
    cases h : listAt M1 l with
    | some xs => exact ⟨xs, rfl⟩
    | none =>
      rw [show scL pt ft fe l 1000 0 [] (wipeD env (own.map (·.2))) M1 = .stuck by simp only [scL, h]] at q1
      exact q1.elim
  obtain ⟨xs, hxs⟩ := there
  refine ⟨_, rfl, .inl ⟨?_, fun D0 h0 => ?_⟩⟩
  · obtain ⟨vs, a, _⟩ := m1.ok l _ (listAt_some hxs)
    exact ⟨vs, SqL.of a⟩
  refine scL_run hp (re.ext e1.toExt0 rm) m1 (wl_plain hl) h0 q1 fun ad2 H2 M2 ls L e2 m2 hD st q2 => ?_
  obtain ⟨hok, q3⟩ := post_if q2
  obtain ⟨dd, hd, hb⟩ := okTups_d hok
  have hbL : ∀ p ∈ L, p.2.length = dd ∧ TS.Bd 64 p.2 := fun p hp => hb p.2 ((st.mem _).mp (List.mem_map_of_mem hp))
  refine ⟨D0, L, dd, 64, rfl, hD, st.tup, hd, hbL, fun L' p pm nd l64 pw hp => ?_⟩
  have perm1 : (L'.map (·.2)).Perm (nubL ls) := (List.perm_ext_iff_of_nodup nd (nodup_nubL ls)).mpr fun m => by rw [mem_nubL, (pm.map (·.2)).mem_iff, st.mem]
  have e3 : L'.map (·.2) = sortC (nubL ls) := sortC_eq (fun m hm => hb m (mem_nubL.mp hm)) perm1 (List.pairwise_map.mpr pw)
  have q4 := PostR.mono q3 e2
  rw [← e3] at q4
  exact end_lst m2 (reps_ks L' fun p hp => st.tup p (pm.mem_iff.mp hp)) q4 p hp
end

/-! ### facts of a refusal's class that has an __init__ -/
def clsB (K : PySem.W.Frag) (C : Addr) : Bool := match K.lookup C with
  | some ⟨.type "type", _, .cls cd, sl⟩ => (match cd.mro, sl.toList with
    | .ref C2 :: bm, [_, _, _, _, some (.builtin n), _] => decide (C2 = C) && (decide (n = "ValueError.__new__") && (!cd.hasDel && (cd.hasDict && PySem.HandSPX.refsVE bm)))
    | _, _ => false)
  | _ => false
theorem clsB_ok {K : PySem.W.Frag} {C : Addr} (h : clsB K C = true) : ∃ nm q N bs bm sn sub ab col dd k0 k1 k2 k3 k5, K.lookup C = some (excClassObj nm q C N bs bm true sn sub ab col dd k0 k1 k2 k3 k5 "ValueError.__new__") ∧ PySem.HandSPX.refsVE bm = true := by
  unfold clsB at h
  split at h
  · rename_i dd cd sl look
    split at h
    · rename_i C2 bm k0 k1 k2 k3 n k5 hm hs
      simp only [Bool.and_eq_true, decide_eq_true_eq, Bool.not_eq_true'] at h
      obtain ⟨rfl, rfl, h1, h2, h3⟩ := h
      obtain ⟨nm, bs, mro, ns, qn, hd, sn, sub, ab, col, del⟩ := cd
      dsimp only at hm h1 h2
      subst hm; subst h1; subst h2
      have e : sl = #[k0, k1, k2, k3, some (.builtin "ValueError.__new__"), k5] := by
        obtain ⟨sl⟩ := sl
        have hs' : sl = _ := hs
        rw [hs']
      subst e
      exact ⟨nm, qn, ns, bs, bm, sn, sub, ab, col, dd, k0, k1, k2, k3, k5, look, h3⟩
    · cases h
  · cases h
def initB (x f : Str) (K : PySem.W.Frag) : Bool := clsB K (He.ga K x) && (decide (PySem.W.findIn K (.ref (He.ga K x)) "__setattr__" = some (some (.builtin "object.__setattr__"))) && (decide (PySem.W.subIn K (.ref (He.ga K x)) (.type "BaseException") = some true) && (decide (PySem.W.typeIn K (.ref (He.ga K x)) = some (.type "type")) && (PySem.W.keepIn K (.ref (He.ga K x)) &&
  (decide (PySem.W.findIn K (.ref (He.ga K x)) "__init__" = some (some (.ref (He.ma K (He.ga K x) "__init__")))) && decide (PySem.W.typeIn K (.ref (He.ma K (He.ga K x) "__init__")) = some (.type "function")))))))
theorem initB_ok {x f : Str} {K : PySem.W.Frag} (h : initB x f K = true) : InitC K (He.ga K x) (He.fAd K (x, some "__init__")) f := by
  simp only [initB, Bool.and_eq_true, decide_eq_true_eq] at h
  obtain ⟨h1, h2, h3, h4, h5, h6, h7⟩ := h
  exact ⟨⟨clsB_ok h1, h2, h3, h4, h5⟩, h6, h7⟩
/-- no class of these has such a name -/
def bareB (xs fs : List Str) (K : PySem.W.Frag) : Bool := xs.all fun x => fs.all fun f => decide (PySem.W.findIn K (.ref (He.ga K x)) f = some none)
theorem bareB_ok {xs fs : List Str} {K : PySem.W.Frag} (h : bareB xs fs K = true) {f : Str} (hf : f ∈ fs) : ∀ c, c < xs.length → PySem.W.findIn K (.ref (He.ga K (xs.getD c ""))) f = some none := fun c hc => by
  have m : xs.getD c "" ∈ xs := by
    rw [List.getD_eq_getElem?_getD, List.getElem?_eq_getElem hc]
    exact List.getElem_mem hc
  exact of_decide_eq_true (List.all_eq_true.mp (List.all_eq_true.mp h _ m) f hf)
end Mi

set_option Elab.async false
set_option linter.all false
set_option maxRecDepth 100000
set_option maxHeartbeats 1000000
/-! MiR: what the writer of derivations names. -/
namespace Mi
open PySem PySem.Spec PyProof.Rows L2
section
variable {G : Gx} {X : Cx} {W : WX}
/-- a class whose __init__ keeps one number -/
structure OwnI (P : Program) (w : World) (G : Gx) (mg : Str → Option Value) (base : Heap) (c : Nat) (fld : Str) : Prop where
  ex : ∃ (fI : Addr) (fd : FuncData), InitC G.K (G.ca c) fI fld ∧ FnOk P w G.K mg base CX0 1 fI fd ["self", fld] (spI (G.ca c) fld) ∧ Binds G.K fd ["self", fld] []
theorem st_raiseO {c j : Nat} {x fld : Str} {e : Expr} {f : Ev → Store → Res D} {p pos pos' : Pos} (hc : X.calm = true) (hK : X.K = G.K) (O : OwnI X.prog X.w G X.mg X.base c fld) (hr : Room j X.A) (hj : 2 ≤ j) (hg : Gl X x) (hm : X.mg x = some (.ref (G.ca c))) (tk : L2N.Takes X W)
    (he : PE X e (tE G W f)) (hdb : (x == ("__debug__" : Str)) = false) (hst : starEach (e :: []) X.env = (false, eval e X.env) :: starEach [] X.env) :
    PS X (.Raise (some (.Call (.Name x p) [e] [] pos)) none pos') (tS G W (sRaiseF c fld f)) := by
  obtain ⟨fI, fd, T, F, hb⟩ := O.ex
  exact st_raiseF hc hK T F hr hj hb hg hm tk he hdb hst
theorem bindsI_of {K : PySem.W.Frag} {nm qual : Str} {args : Arguments} {body : List Stmt} {scope : Scope} {f : Addr} {fd : FuncData} {ps : List Str} (F : FunD K nm qual args body scope [] [] f fd)
    (hb : ∀ (kV doc pm : Value) (an : Option Addr) (cdv ct : Value) (us : List Value), us.length = ps.length → bindArgs (PySem.W.fnOf nm qual args body scope .none kV doc pm an cdv ct) ⟨us, []⟩ = pure (ps.zip us)) : Binds K fd ps [] := by
  obtain ⟨oc, od, dV, kV, doc, pm, an, cdv, ct, osl, rfl, lk, hcd, hD, hK⟩ := F.ex
  have hd : dV = .none := by
    rcases hD with ⟨_, h⟩ | ⟨h, _⟩
    · exact h
    · exact absurd rfl h
  subst hd
  exact .all (hb kV doc pm an cdv ct)
end
/-- the j-th row of a class's text -/
def rowOf (s : Stmt) (j : Nat) : Stmt := match s with
  | .ClassDef _ _ _ b .. => b.getD j s
  | _ => s
end Mi

set_option Elab.async false
set_option linter.all false
set_option maxRecDepth 100000
set_option maxHeartbeats 1000000
/-! MiS: lists of lists whose inner lists are written: [x] * n in the store; repr of a list of lists of the store. -/
namespace Mi
open PySem PySem.Spec PyProof.Rows L2
section
variable {G : Gx}
def opMulN : Op2 := fun a b M => match b with
  | .int k => (Res.of (listOf M a) M).bind fun xs M => if (-(2 ^ 63) ≤ k ∧ k < 2 ^ 63 ∧ xs.length * k.toNat ≤ sizeLine) ∧ pureDs (List.replicate k.toNat xs).flatten = true then .ok (.loc M.length) (M ++ [some (.lst (List.replicate k.toNat xs).flatten)]) else .stuck
  | _ => .stuck
theorem sem_mulN : Sem2 G opMulN rRep := fun W ad H M a b x y Q rm ra rb q => by
  unfold opMulN at q
  split at q
  · rename_i k
    simp only [Rep] at rb; subst rb
    obtain ⟨xs, h1, q⟩ := of_bind q
    obtain ⟨⟨⟨h2, h3, h4⟩, hp⟩, q⟩ := post_if q
    obtain ⟨p, vs, rfl, r1, r2⟩ := listOf_ok rm ra h1
    exact ⟨p, k, vs, rfl, rfl, r1, h2, h3, by rw [Reps.length _ _ r2]; exact h4, end_new hp rm (Reps.rep r2 _) q⟩
  · exact q.elim
def toPyMs (M : Store) : List D → Option (List PyData)
  | [] => some []
  | d :: ds => (toPyM M d).bind fun p => (toPyMs M ds).map fun ps => p :: ps
theorem toPyMs_ok {ad : Adr} {H : Hp} {M : Store} (rm : RelM G ad H M) : ∀ (ds : List D) (vs : List V) (ps : List PyData), Reps G ad H M ds vs → toPyMs M ds = some ps → DpAll G.K H vs ps
  | [], _, _, r, h => by simp only [Reps] at r; simp only [toPyMs, Option.some.injEq] at h; subst r; subst h; exact .nil
  | d :: ds, _, _, r, h => by
    simp only [Reps] at r
    obtain ⟨v, w, rfl, r1, r2⟩ := r
    simp only [toPyMs, Option.bind_eq_some_iff, Option.map_eq_some_iff] at h
    obtain ⟨p, h1, qs, h2, rfl⟩ := h
    exact .cons (toPyM_ok rm r1 h1) (toPyMs_ok rm ds w qs r2 h2)
def toPyR (M : Store) (d : D) : Option PyData := match d with
  | .lst xs => (toPyMs M xs).map .list
  | d => toPyM M d
theorem toPyR_ok {ad : Adr} {H : Hp} {M : Store} {d : D} {v : V} {p : PyData} (rm : RelM G ad H M) (r : Rep G ad H M d v) (h : toPyR M d = some p) : Dp G.K H v p := by
  cases d with
  | lst xs =>
    simp only [toPyR, Option.map_eq_some_iff] at h
    obtain ⟨ps, h1, rfl⟩ := h
    obtain ⟨a, vs, rfl, e2, _, e3⟩ := r.lst_inv
    exact .lst (SqL.of e2) (toPyMs_ok rm xs vs ps e3 h1)
  | _ => exact toPyM_ok rm r h
/-- repr of what a list of lists, a number, None is -/
def rReprA (K : PySem.W.Frag) : List V → Hp → VK → Prop := fun xs H Q => rReprD K xs H Q ∨ ((∃ i, xs = [.int i] ∧ i.natAbs.log2 < 1920 ∧ Q (.str (toString i)) H) ∨ (xs = [.non] ∧ Q (.str "None") H))
theorem call_reprA {X : Cx} (hG : X.A.guards = some []) (hu : X.A.units + 65 < cLine) : CallR X (.builtin "repr") (rReprA X.K) := fun pins s σ H xs us Q I r h => by
  rcases h with h | ⟨i, rfl, hz, q⟩ | ⟨rfl, q⟩
  · exact call_reprD hG hu pins s σ H xs us Q I r h
  · obtain ⟨u, rfl, t, rfl⟩ := vals1 r
    exact PySem.P.repr_of_int hz ⟨.str _, H, I.tok _, ⟨_, rfl⟩, q⟩
  · obtain ⟨u, rfl, ru⟩ := vals1 r
    obtain rfl : u = Value.none := ru
    exact PySem.P.repr_of_none ⟨.str _, H, I.tok _, ⟨_, rfl⟩, q⟩
def biReprA : OpN := fun ds M => match ds with
  | [.int i] => if i.natAbs.log2 < 1920 then .ok (.str (toString i)) M else .stuck
  | [.non] => .ok (.str "None") M
  | [d] => (Res.of (toPyR M d) M).bind fun p M => if isDisplay p = true ∧ p.showable = true ∧ p.hasDict = false ∧ p.depth ≤ 60 ∧ p.shown.length ≤ sizeLine then .ok (.str p.shown) M else .stuck
  | _ => .stuck
theorem sem_reprA : SemN G biReprA (rReprA G.K) := fun W ad H M ds vs Q rm r q => by
  unfold biReprA at q
  split at q
  · rename_i i
    obtain ⟨h, q⟩ := post_if q
    simp only [Reps, Rep] at r
    obtain ⟨u, _, rfl, ru, rfl⟩ := r
    subst ru
    exact .inr (.inl ⟨_, rfl, h, PostR.ret q rm rep_str⟩)
  · simp only [Reps, Rep] at r
    obtain ⟨u, _, rfl, ru, rfl⟩ := r
    subst ru
    exact .inr (.inr ⟨rfl, PostR.ret q rm rep_str⟩)
  · obtain ⟨p, h1, q⟩ := of_bind q
    obtain ⟨⟨c1, c2, c3, c4, c5⟩, q⟩ := post_if q
    simp only [Reps] at r
    obtain ⟨u, _, rfl, ru, rfl⟩ := r
    exact .inl ⟨u, p, rfl, toPyR_ok rm ru h1, c1, c2, c3, c4, c5, PostR.ret q rm rep_str⟩
  · exact q.elim
end
end Mi

set_option Elab.async false
set_option linter.all false
set_option maxRecDepth 100000
set_option maxHeartbeats 1000000
/-! MiT: dicts by whole numbers that stand in the store: {}, k in d, d[k] = v. -/
namespace Mi
open PySem PySem.Spec PyProof.Rows L2
section
variable {G : Gx} {X : Cx} {W : WX}
def evDNew : Ev → Store → Res D := fun _ M => .ok (.loc M.length) (M ++ [some (.dct [])])
theorem se_dnew {pos : Pos} : PE X (.Dict [] [] pos) (tE G W evDNew) :=
  PE.weak pe_dnewK fun σ H Q ⟨env, M, ad, re, rm, q⟩ => fun p hn =>
    q (adNew ad M.length p) _ _ (Ext.alloc hn rm) (RelM.alloc hn rm rfl ⟨[], upd_same, by simp [RepK]⟩) (by
      simp only [relV, Rep]
      exact ⟨by unfold adNew; simp, by simp⟩)
def hasK (k : Int) (kvs : List (Int × D)) : Bool := kvs.any fun p => decide (p.1 = k)
def putD (kvs : List (Int × D)) (k : Int) (v : D) : List (Int × D) := if hasK k kvs = true then kvs.map (fun p => if p.1 = k then (p.1, v) else p) else kvs ++ [(k, v)]
section
variable {ad : Adr} {H : Hp} {M : Store}
theorem hasK_ok {k : Int} : ∀ {kvs : List (Int × D)} {vs : List (Key × V)}, RepK G ad H M kvs vs → (valV vs (.inl k)).isSome = hasK k kvs ∧ (vs.any fun kv => decide (kv.1 = (.inl k : Key))) = hasK k kvs
  | [], vs, r => by
    simp only [RepK] at r; subst r
    exact ⟨rfl, rfl⟩
  | (j, d) :: kvs, vs, r => by
    simp only [RepK] at r
    obtain ⟨v, ws, rfl, _, r2⟩ := r
    obtain ⟨h1, h2⟩ := hasK_ok (k := k) r2
    have e : ((.inl j : Key) = .inl k) ↔ j = k := ⟨fun z => Sum.inl.inj z, fun z => by rw [z]⟩
    by_cases q : j = k
    · subst q
      exact ⟨by simp [valV, hasK], by simp [hasK]⟩
    · constructor
      · have : ¬ ((.inl j : Key) = .inl k) := fun z => q (e.mp z)
        simp only [valV, List.find?_cons, this, decide_false, hasK, List.any_cons, q, Bool.false_or] at h1 ⊢
        exact h1
      · simp only [List.any_cons, e, h2, hasK]
theorem mapK_ok {k : Int} {d : D} {v : V} (rd : Rep G ad H M d v) : ∀ {kvs : List (Int × D)} {vs : List (Key × V)}, RepK G ad H M kvs vs → RepK G ad H M (kvs.map fun p => if p.1 = k then (p.1, d) else p) (vs.map fun kv => if kv.1 = (.inl k : Key) then (kv.1, v) else kv)
  | [], vs, r => by
    simp only [RepK] at r; subst r
    simp [RepK]
  | (j, b) :: kvs, vs, r => by
    simp only [RepK] at r
    obtain ⟨u, ws, rfl, r1, r2⟩ := r
    have ih := mapK_ok (k := k) rd r2
    by_cases q : j = k
    · subst q
      simp only [List.map_cons, if_true, RepK]
      exact ⟨v, _, rfl, rd, ih⟩
    · have : ¬ ((.inl j : Key) = .inl k) := fun z => q (Sum.inl.inj z)
      simp only [List.map_cons, this, q, if_false, RepK]
      exact ⟨u, _, rfl, r1, ih⟩
theorem appK_ok {k : Int} {d : D} {v : V} (rd : Rep G ad H M d v) : ∀ {kvs : List (Int × D)} {vs : List (Key × V)}, RepK G ad H M kvs vs → RepK G ad H M (kvs ++ [(k, d)]) (vs ++ [(.inl k, v)])
  | [], vs, r => by
    simp only [RepK] at r; subst r
    simp only [List.nil_append, RepK]
    exact ⟨v, [], rfl, rd, rfl⟩
  | (j, b) :: kvs, vs, r => by
    simp only [RepK] at r
    obtain ⟨u, ws, rfl, r1, r2⟩ := r
    have ih := appK_ok (k := k) rd r2
    simp only [List.cons_append, RepK]
    exact ⟨u, _, rfl, r1, ih⟩
theorem putD_ok {k : Int} {d : D} {v : V} {kvs : List (Int × D)} {vs : List (Key × V)} (rd : Rep G ad H M d v) (r : RepK G ad H M kvs vs) : RepK G ad H M (putD kvs k d) (putK vs (.inl k) v) := by
  unfold putD putK
  rw [(hasK_ok (k := k) r).2]
  by_cases h : hasK k kvs = true
  · rw [if_pos h, if_pos h]; exact mapK_ok rd r
  · rw [if_neg h, if_neg h]; exact appK_ok rd r
theorem lenK : ∀ {kvs : List (Int × D)} {vs : List (Key × V)}, RepK G ad H M kvs vs → vs.length = kvs.length
  | [], vs, r => by simp only [RepK] at r; subst r; rfl
  | (j, b) :: kvs, vs, r => by
    simp only [RepK] at r
    obtain ⟨u, ws, rfl, _, r2⟩ := r
    simp [lenK r2]
theorem pureK_put {kvs : List (Int × D)} {k : Int} {d : D} (h : pureO (.dct kvs) = true) (hd : pureD d = true) : pureO (.dct (putD kvs k d)) = true := by
  simp only [pureO] at h ⊢
  have all : ∀ {l : List D}, pureDs l = true ↔ ∀ x ∈ l, pureD x = true := fun {l} => by
    induction l with
    | nil => simp [pureDs]
    | cons a l ih => simp [pureDs, ih]
  rw [all] at h ⊢
  intro x hx
  obtain ⟨p, hp, rfl⟩ := List.mem_map.mp hx
  unfold putD at hp
  split at hp
  · obtain ⟨q, hq, rfl⟩ := List.mem_map.mp hp
    split
    · exact hd
    · exact h _ (List.mem_map_of_mem hq)
  · rcases List.mem_append.mp hp with hp | hp
    · exact h _ (List.mem_map_of_mem hp)
    · rw [List.mem_singleton.mp hp]; exact hd
end
/-- k in d, k not in d -/
def opDIn (neg : Bool) : Op2 := fun a b M => match a, b with
  | .int k, .loc l => match M[l]? with
    | some (some (.dct kvs)) => .ok (.bl (xor neg (hasK k kvs))) M
    | _ => .stuck
  | _, _ => .stuck
theorem din_post {neg : Bool} {W0 : WX0} {ad : Adr} {H : Hp} {M : Store} {a b : D} {y x : V} {Q : VK} (rm : RelM G ad H M) (ra : Rep G ad H M a y) (rb : Rep G ad H M b x) (q : PostR G W0 (relV G) ad H M (opDIn neg a b M) Q) :
    ∃ p o, x = .ref p ∧ DGet H p y o ∧ Q (.bl (xor neg o.isSome)) H := by
  unfold opDIn at q
  split at q
  · rename_i k l
    split at q
    · rename_i kvs hl
      simp only [Rep] at ra rb
      subst ra
      obtain ⟨rfl, _⟩ := rb
      obtain ⟨vs, h1, h2⟩ := rm.ok l _ hl
      refine ⟨_, valV vs (.inl k), rfl, .inl ⟨vs, .inl k, .inl h1, rfl, rfl⟩, ?_⟩
      rw [(hasK_ok (k := k) h2).1]
      exact PostR.ret q rm rep_bl
    · exact q.elim
  · exact q.elim
theorem se_din {a b : Expr} {f1 f2 : Ev → Store → Res D} {pos : Pos} (hu : X.A.units + 1 < cLine) (ha : PE X a (tE G W f1)) (hb : PE X b (tE G W f2)) (h1 : behindInMarks CmpOp.In b = false) : PE X (.Compare a [.In] [b] pos) (tE G W (ev2 (opDIn false) f1 f2)) :=
  PE.weak (L2.pe_cmp (pc_din hu ha hb) h1) fun σ H Q h => by
    refine tE_two (r := fun y x H Q => ∃ p o, x = .ref p ∧ DGet H p y o ∧ Q (.bl o.isSome) H) (fun W ad H M a b y x Q rm ra rb q => ?_) h
    obtain ⟨p, o, e1, e2, e3⟩ := din_post rm ra rb q
    exact ⟨p, o, e1, e2, by simpa using e3⟩
theorem se_dnotin {a b : Expr} {f1 f2 : Ev → Store → Res D} {pos : Pos} (hu : X.A.units + 1 < cLine) (ha : PE X a (tE G W f1)) (hb : PE X b (tE G W f2)) (h1 : behindInMarks CmpOp.NotIn b = false) : PE X (.Compare a [.NotIn] [b] pos) (tE G W (ev2 (opDIn true) f1 f2)) :=
  PE.weak (L2.pe_cmp (pc_dnotin hu ha hb) h1) fun σ H Q h => by
    refine tE_two (r := fun y x H Q => ∃ p o, x = .ref p ∧ DGet H p y o ∧ Q (.bl (!o.isSome)) H) (fun W ad H M a b y x Q rm ra rb q => ?_) h
    obtain ⟨p, o, e1, e2, e3⟩ := din_post rm ra rb q
    exact ⟨p, o, e1, e2, by simpa using e3⟩
theorem din_cases {neg : Bool} {ad : Adr} {H : Hp} {M : Store} {a b : D} {y x : V} (rm : RelM G ad H M) (ra : Rep G ad H M a y) (rb : Rep G ad H M b x) : opDIn neg a b M = .stuck ∨ ∃ p o, x = .ref p ∧ DGet H p y o ∧ opDIn neg a b M = .ok (.bl (xor neg o.isSome)) M := by
  cases a with
  | int k =>
    cases b with
    | loc l =>
      cases hl : M[l]? with
      | none => exact .inl (by simp only [opDIn, hl])
      | some w =>
        cases w with
        | none => exact .inl (by simp only [opDIn, hl])
        | some ob =>
          cases ob with
          | lst xs => exact .inl (by simp only [opDIn, hl])
          | dct kvs =>
            simp only [Rep] at ra rb
            subst ra
            obtain ⟨rfl, _⟩ := rb
            obtain ⟨vs, h1, h2⟩ := rm.ok l _ hl
            refine .inr ⟨_, valV vs (.inl k), rfl, .inl ⟨vs, .inl k, .inl h1, rfl, rfl⟩, ?_⟩
            simp only [opDIn, hl, (hasK_ok (k := k) h2).1]
    | _ => exact .inl rfl
  | _ => exact .inl rfl
theorem din_test {neg : Bool} {f1 f2 : Ev → Store → Res D} {σ : L2.St} {H : Hp} {Q : Bool → Hp → Prop} (h : tT G W (evTr (ev2 (opDIn neg) f1 f2)) σ H Q) :
    tE G W f1 σ H fun y H1 => tE G W f2 σ H1 fun x H2 => ∃ p o, x = .ref p ∧ DGet H2 p y o ∧ Q (xor neg o.isSome) H2 := by
  obtain ⟨env, M, ad, re, rm, q⟩ := h
  unfold evTr ev2 at q
  rw [Res.bind_assoc] at q
  refine tE.imp (tE_bind re rm q) fun y H1 ⟨d, M1, ad1, e1, m1, r1, q1⟩ => ?_
  rw [Res.bind_assoc] at q1
  refine tE.imp (tE_bind (re.ext e1.toExt0 rm) m1 q1) fun x H2 ⟨d2, M2, ad2, e2, m2, r2, q2⟩ => ?_
  rcases din_cases (neg := neg) m2 (Rep.ext e2.toExt0 m1 _ _ r1) r2 with c | ⟨p, o, c1, c2, c3⟩
  · rw [c] at q2; exact q2.elim
  · rw [c3] at q2
    exact ⟨p, o, c1, c2, q2 ad2 H2 _ Ext.refl m2 rfl⟩
theorem st_din {a b : Expr} {f1 f2 : Ev → Store → Res D} {pos : Pos} (hu : X.A.units + 1 < cLine) (ha : PE X a (tE G W f1)) (hb : PE X b (tE G W f2)) (h1 : behindInMarks CmpOp.In b = false) : PT X (.Compare a [.In] [b] pos) (tT G W (evTr (ev2 (opDIn false) f1 f2))) :=
  ⟨fun pins s σ H Q I h => (pt_cmp (pc_din hu ha hb) h1).run pins s σ H Q I (tE.imp (din_test h) fun y H1 h2 => tE.imp h2 fun x H2 ⟨p, o, c1, c2, q⟩ => ⟨p, o, c1, c2, _, rfl, by simpa using q⟩)⟩
theorem st_dnotin {a b : Expr} {f1 f2 : Ev → Store → Res D} {pos : Pos} (hu : X.A.units + 1 < cLine) (ha : PE X a (tE G W f1)) (hb : PE X b (tE G W f2)) (h1 : behindInMarks CmpOp.NotIn b = false) : PT X (.Compare a [.NotIn] [b] pos) (tT G W (evTr (ev2 (opDIn true) f1 f2))) :=
  ⟨fun pins s σ H Q I h => (pt_cmp (pc_dnotin hu ha hb) h1).run pins s σ H Q I (tE.imp (din_test h) fun y H1 h2 => tE.imp h2 fun x H2 ⟨p, o, c1, c2, q⟩ => ⟨p, o, c1, c2, _, rfl, by simpa using q⟩)⟩
/-- d[k] = v -/
def sDSub (fd fk fv : Ev → Store → Res D) : Ev → Store → Out := fun env M => (fv env M).out env fun v M => (fd env M).out env fun d M => (fk env M).out env fun k M => match d, k with
  | .loc l, .int i => match M[l]? with
    | some (some (.dct kvs)) => if kvs.length < sizeLine ∧ pureD v = true then .nx env (M.set l (some (.dct (putD kvs i v)))) else .stuck
    | _ => .stuck
  | _, _ => .stuck
theorem st_dsub {o i value : Expr} {fd fk fv : Ev → Store → Res D} {p0 pos : Pos} (hu : X.A.units + 1 < cLine) (ho : PE X o (tE G W fd)) (hi : PE X i (tE G W fk)) (hv : PE X value (tE G W fv)) (hs : swapsWith value (some (.Subscript o i p0)) pos.line X.env = pure false) :
    PS X (.Assign [.Subscript o i p0] value pos) (tS G W (sDSub fd fk fv)) :=
  PS.weak (ps_dput hu ho hi hv hs) fun E σ H ⟨env, M, ad, re, rm, q⟩ => by
    refine tE.imp (tE_out re rm q) fun v H1 ⟨dv, M1, ad1, e1, m1, r1, q1⟩ => ?_
    have re1 := re.ext e1.toExt0 rm
    refine tE.imp (tE_out re1 m1 q1) fun x H2 ⟨dd, M2, ad2, e2, m2, r2, q2⟩ => ?_
    have re2 := re1.ext e2.toExt0 m1
    refine tE.imp (tE_out re2 m2 q2) fun y H3 ⟨dk, M3, ad3, e3, m3, r3, q3⟩ => ?_
    have re3 := re2.ext e3.toExt0 m2
    have rv3 := Rep.ext e3.toExt0 m2 _ _ (Rep.ext e2.toExt0 m1 _ _ r1)
    have rd3 := Rep.ext e3.toExt0 m2 _ _ r2
    cases dd with
    | loc l =>
      cases dk with
      | int k =>
        simp only at q3
        split at q3
        · rename_i kvs hl
          obtain ⟨⟨hz, hp⟩, q3⟩ := postS_if q3
          simp only [Rep] at rd3 r3
          subst r3
          obtain ⟨rfl, _⟩ := rd3
          obtain ⟨vs, h1, h2⟩ := m3.ok l _ hl
          have ew := Ext.write (ob' := .dct (putD kvs k dv)) (o := .dK (putK vs (.inl k) v)) hl m3 rfl
          refine ⟨_, _, rfl, .inl ⟨vs, .inl k, h1, rfl, by rw [lenK h2]; exact hz, rfl⟩, ?_⟩
          exact q3 ad3 _ σ ew (RelM.write hl m3 rfl (pureK_put (m3.pur l _ hl) hp) ⟨_, upd_same, RepK.ext ew.toExt0 m3 _ _ (putD_ok rv3 h2)⟩) (re3.ext ew.toExt0 m3)
        · exact q3.elim
      | _ => exact q3.elim
    | _ => exact q3.elim
end
end Mi

set_option Elab.async false
set_option linter.all false
set_option maxRecDepth 100000
/-! MiV: a tuple, no time or once. -/
namespace Mi
open PySem PySem.Spec PyProof.Rows L2
theorem tuple_mul1 (l : Addr) (items : Array Value) (n : Nat) (dd : Option Addr) (sl : Array (Option Value)) (u : Tok) :
    Meets (Builtin.«tuple.__mul__» ⟨[.ref l, .int 1 u], []⟩) (fun _ R s => s.heap.get? l = some { cls := .type "tuple", dict := dd, data := .seq items n, slots := sl } ∧ R (.ok (.ret (Value.ref l))) s) :=
  .of_wp fun prog w A R s h => by
    obtain ⟨hp, g, d, tk, os⟩ := s
    obtain ⟨hl, h⟩ := h
    have f1 := AutoSeq1.idx_int
    wp_walk using wpAny_loadPart' hl
    exact ⟨_, rfl, h⟩
theorem tuple_mul0 (l : Addr) (items : Array Value) (n : Nat) (dd : Option Addr) (sl : Array (Option Value)) (u : Tok) (c1 : items.isEmpty = false) :
    Meets (Builtin.«tuple.__mul__» ⟨[.ref l, .int 0 u], []⟩) (fun _ R s => s.heap.get? l = some { cls := .type "tuple", dict := dd, data := .seq items n, slots := sl } ∧
      R (.ok (.ret (Value.ref s.heap.objs.size))) { s with heap := s.heap.push { cls := Value.type "tuple", data := Data.seq #[] }, toks := s.toks }) :=
  .of_wp fun prog w A R s h => by
    obtain ⟨hp, g, d, tk, os⟩ := s
    obtain ⟨hl, h⟩ := h
    have f1 := AutoSeq1.idx_int
    wp_walk using wpAny_loadPart' hl
    repeat (first
      | (refine wpAny_ite_false (decide_eq_false (by rw [c1]; decide)) ?_; wp_walk using wpAny_loadPart' hl)
      | (refine wpAny_ite_true (decide_eq_true rfl) ?_; wp_walk using wpAny_loadPart' hl))
    exact ⟨_, rfl, h⟩
def rRep1 (K : PySem.W.Frag) : R2 := fun x y H Q => ∃ l xs, x = .ref l ∧ y = .int 1 ∧ SqT K H l xs ∧ Q (.ref l) H
def rRep0 (K : PySem.W.Frag) : R2 := fun x y H Q => ∃ l xs, x = .ref l ∧ y = .int 0 ∧ SqT K H l xs ∧ xs ≠ [] ∧ ∀ p, H p = none → Q (.ref p) (upd H p (.tup []))
section
variable {X : Cx}
theorem op_rep1 : OpR X (binaryOp .Mult) (rRep1 X.K) := by
  intro pins s σ H x y v u Q I rx ry h
  obtain ⟨l, xs, rfl, rfl, hT, q⟩ := h
  cases rx
  obtain ⟨t, rfl⟩ := ry
  obtain ⟨its, r, ⟨⟨cls, dd, data, sl⟩, ho, hc, n, hd⟩, hs⟩ := I.tuple hT
  simp only at hc hd
  subst hc hd
  refine wpAny_binaryOp_repeat_ref (T := "tuple") (U := "int") (by decide) ⟨_, ho, rfl⟩ (fun s' => typeIs_int s' 1 t) noFill_tuple_mul F.fills_int_mul F.slot_int_rmul repeat_tuple F.slot_int_index.lookup
    (call_meets F.slot_int_rmul (typeIs_int s 1 t) F.entry_int_rmul (F.args_int_rmul_2 _ _) (int_rmul_tuple 1 t l its.toArray n dd sl)
      ⟨ho, rfl, ⟨_, ho, rfl⟩, call_meets F.slot_tuple_mul ⟨_, ho, rfl⟩ F.entry_tuple_mul (F.args_tuple_mul_2 _ _) (tuple_mul1 l its.toArray n dd sl t) ⟨ho, ?_⟩⟩)
  exact ⟨.ref l, H, I, rfl, q⟩
theorem op_rep0 : OpR X (binaryOp .Mult) (rRep0 X.K) := by
  intro pins s σ H x y v u Q I rx ry h
  obtain ⟨l, xs, rfl, rfl, hT, hne, q⟩ := h
  cases rx
  obtain ⟨t, rfl⟩ := ry
  obtain ⟨its, r, ⟨⟨cls, dd, data, sl⟩, ho, hc, n, hd⟩, hs⟩ := I.tuple hT
  simp only at hc hd
  subst hc hd
  have hle : its.length = xs.length := r.length.symm
  have hi : its.toArray.isEmpty = false := by
    cases its with
    | nil => exact absurd (List.eq_nil_of_length_eq_zero hle.symm) hne
    | cons a b => rfl
  refine wpAny_binaryOp_repeat_ref (T := "tuple") (U := "int") (by decide) ⟨_, ho, rfl⟩ (fun s' => typeIs_int s' 0 t) noFill_tuple_mul F.fills_int_mul F.slot_int_rmul repeat_tuple F.slot_int_index.lookup
    (call_meets F.slot_int_rmul (typeIs_int s 0 t) F.entry_int_rmul (F.args_int_rmul_2 _ _) (int_rmul_tuple 0 t l its.toArray n dd sl)
      ⟨ho, rfl, ⟨_, ho, rfl⟩, call_meets F.slot_tuple_mul ⟨_, ho, rfl⟩ F.entry_tuple_mul (F.args_tuple_mul_2 _ _) (tuple_mul0 l its.toArray n dd sl t hi) ⟨ho, ?_⟩⟩)
  refine ⟨.ref s.heap.objs.size, _, I.laid (t' := s.toks) (o := .tup []) (fun b ob q => Heap.get?_push_of_some _ q) (Nat.le_refl _) ?_, rfl, q _ (I.hok.fresh (Nat.le_refl _))⟩
  exact ⟨by simp, _, .nil, IsTup.new _ _⟩
end
/-- a tuple so often -/
def opMulT : Op2 := fun a b M => match a, b with
  | .tup xs, .int k => if xs ≠ [] ∧ 0 ≤ k ∧ k ≤ 1000 ∧ xs.length ≤ 1000 then .ok (.tup (List.replicate k.toNat xs).flatten) M else .stuck
  | _, _ => .stuck
def rMulT (K : PySem.W.Frag) : R2 := fun x y H Q => rRepT K x y H Q ∨ (rRep1 K x y H Q ∨ rRep0 K x y H Q)
theorem op_mulT {X : Cx} : OpR X (binaryOp .Mult) (rMulT X.K) := op_repT.or (op_rep1.or op_rep0)
section
variable {G : Gx}
theorem sem_mulT : Sem2 G opMulT (rMulT G.K) := fun W ad H M a b x y Q rm ra rb q => by
  unfold opMulT at q
  split at q
  · rename_i xs k
    have ra0 := ra
    simp only [Rep] at ra rb; subst rb
    obtain ⟨p, vs, rfl, r1, r2⟩ := ra
    obtain ⟨⟨h1, h2, h3, h4⟩, q⟩ := post_if q
    have hne : vs ≠ [] := fun e => by
      subst e
      cases xs with
      | nil => exact h1 rfl
      | cons _ _ => have := Reps.length _ _ r2; simp at this
    by_cases k0 : k = 0
    · subst k0
      refine .inr (.inr ⟨p, vs, rfl, rfl, r1, hne, ?_⟩)
      have := end_tup rm (Reps.rep r2 0) (by simpa using q)
      simpa using this
    · by_cases k1 : k = 1
      · subst k1
        refine .inr (.inl ⟨p, vs, rfl, rfl, r1, ?_⟩)
        have e : (List.replicate (1 : Int).toNat xs).flatten = xs := by simp
        rw [e] at q
        exact PostR.ret q rm ra0
      · exact .inl ⟨p, k, vs, rfl, rfl, r1, hne, by omega, h3, by rw [Reps.length _ _ r2]; exact h4, end_tup rm (Reps.rep r2 _) q⟩
  · exact q.elim
end
end Mi
namespace Mi
open PySem PySem.Spec PyProof.Rows L2
/-! a list of the store that is handed on the last time: it is data from now on -/
def evFrzV (i : Nat) : Ev → Store → Res D := fun env M => match env[i]? with
  | some (some d) => match frzD M d with
    | some (d', M') => .ok d' M'
    | none => .stuck
  | _ => .stuck
section
variable {G : Gx} {W : WX} {X : Cx}
theorem se_frzV {i : Nat} {x : Str} {pos : Pos} (hN : X.N[i]? = some x) (hv : Vis X.env.scope x) (hd : (x == ("__debug__" : Str)) = false) (hcd : (x == ("__classdict__" : Str)) = false) : PE X (.Name x pos) (tE G W (evFrzV i)) := by
  refine PE.weak (pe_var hN hv hd hcd) fun σ H Q ⟨env, M, ad, re, rm, h⟩ => ?_
  unfold evFrzV at h
  split at h
  · rename_i d hd
    obtain ⟨v, h1, h2⟩ := re.2 i d hd
    split at h
    · rename_i d' M' hf
      obtain ⟨m2, e2, r2, _⟩ := frzD_ok rm h2 hf
      exact ⟨v, h1, h ad H v e2 m2 r2⟩
    · exact h.elim
  · exact h.elim
end
end Mi
namespace Mi
open PySem PySem.Spec PyProof.Rows L2
theorem vf_ {G : Gx} {W : WX} {X : Cx} {pos : Pos} (i : Nat) {x : Str} (hN : X.N[i]? = some x) (hv : visB X.env.scope x = true) (hd : (x == ("__debug__" : Str)) = false) (hcd : (x == ("__classdict__" : Str)) = false) : PE X (.Name x pos) (tE G W (evFrzV i)) := se_frzV hN (vis_by hv) hd hcd
end Mi

set_option Elab.async false
set_option linter.all false
set_option maxRecDepth 100000
namespace Hd
open Mi PySem PySem.Spec PyProof.Rows L2
def topS (i : Nat) : Stmt := PySem.Challenge.pw_cubewebs_k43_nearest_places.main.body.getD i (.Pass ⟨0, 0, 0, 0⟩)
section
variable {P : Program} {w : World} {G : Gx} {mg : Str → Option Value} {base : Heap}
/-! is_whole -/
def N_is_whole : List Str := ["thing"]
theorem nd_is_whole : N_is_whole.Nodup := by decide
def b_is_whole : Ev → Store → Out := (sRet (evAndV (evN biIsi (evCons (evVar 0) (evCons (evC (.ty "int")) evNil))) (evNotV (evN biIsi (evCons (evVar 0) (evCons (evC (.ty "bool")) evNil))))))
def d_is_whole : FD := runF 1 false b_is_whole
theorem f_is_whole {f : Addr} {fd : FuncData} {cdv : Value}   (F : DefC G.K mg "is_whole" (topS 11) f fd cdv) (m_bool : mg "bool" = none) (m_int : mg "int" = none) (m_isinstance : mg "isinstance" = none) : FnOk P w G.K mg base (L2N.CX P w) 1 f fd ["thing"] (spF G 1 d_is_whole) :=
  fnC_ok (N := N_is_whole) (ps := ["thing"]) (k := 0) F (by decide +kernel) rfl (by decide) (fun A outer s H E hr =>
    (ss_one (st_ret (se_and rfl (se_bi call_isi sem_isi rfl m_isinstance boot_isinstance (sa_cons (v_ 0 rfl rfl rfl rfl) (sa_cons (g_ty rfl m_int (by decide +kernel) (by decide) rfl) sa_nil rfl) rfl) (by decide) rfl rfl rfl) (se_one (se_not rfl (se_bi call_isi sem_isi rfl m_isinstance boot_isinstance (sa_cons (v_ 0 rfl rfl rfl rfl) (sa_cons (g_ty rfl m_bool (by decide +kernel) (by decide) rfl) sa_nil rfl) rfl) (by decide) rfl rfl rfl)))))))
theorem bi_is_whole : BindF "is_whole" (topS 11) ["thing"] := fun _ _ _ _ _ _ us hl => match us, hl with | [_], _ => rfl
/-! is_below -/
def N_is_below : List Str := ["thing", "many"]
theorem nd_is_below : N_is_below.Nodup := by decide
def b_is_below : Ev → Store → Out := (sRet (evAndV (evCall d_is_whole (evCons (evVar 0) evNil)) (evCh (evC (.int 0)) (chLink opLe (evVar 0) (chLast opLt (evVar 1))))))
def d_is_below : FD := runF 2 false b_is_below
theorem f_is_below {f : Addr} {fd : FuncData} {cdv : Value}   (F : DefC G.K mg "is_below" (topS 12) f fd cdv) (o_is_whole : Own P w G mg base "is_whole" 1 1 d_is_whole) : FnOk P w G.K mg base (L2N.CX P w) 2 f fd ["thing", "many"] (spF G 2 d_is_below) :=
  fnC_ok (N := N_is_below) (ps := ["thing", "many"]) (k := 1) F (by decide +kernel) rfl (by decide) (fun A outer s H E hr =>
    (ss_one (st_ret (se_and rfl (se_own rfl o_is_whole hr (by decide) rfl takesD rfl (len_cons len_nil) (sa_cons (v_ 0 rfl rfl rfl rfl) sa_nil rfl) rfl rfl rfl) (se_one (se_chain k_int (pch_link rfl (op_leA hr.u0) sem_ord (v_ 0 rfl rfl rfl rfl) (pch_last rfl (op_ltA hr.u0) sem_ord (v_ 1 rfl rfl rfl rfl))) rfl))))))
theorem bi_is_below : BindF "is_below" (topS 12) ["thing", "many"] := fun _ _ _ _ _ _ us hl => match us, hl with | [_, _], _ => rfl
/-! all_below -/
def N_all_below : List Str := ["thing", "size", "many", "part"]
theorem nd_all_below : N_all_below.Nodup := by decide
def b_all_below : Ev → Store → Out := (sSeq (sIf (evOr (evNot (evTr (evN biIsi (evCons (evVar 0) (evCons (evC (.ty "tuple")) evNil))))) (evTr (ev2 opNe (evN biLen (evCons (evVar 0) evNil)) (evVar 1)))) (sRet (evC (.bl false))) sNop) (sRet (evGa false (.nm 3) [3] (evIter (evVar 0)) evYes (evCall d_is_below (evCons (evVar 3) (evCons (evVar 2) evNil))))))
def d_all_below : FD := runF 4 false b_all_below
theorem f_all_below {f : Addr} {fd : FuncData} {cdv : Value} {c T : Addr}  (F : DefC G.K mg "all_below" (topS 13) f fd cdv) (o_is_below : Own P w G mg base "is_below" 2 2 d_is_below) (m_all : mg "all" = none) (m_isinstance : mg "isinstance" = none) (m_len : mg "len" = none) (m_tuple : mg "tuple" = none) (hcd : cdv = .ref c) (TB : LamX.TabB base mg c T) (hT : T ∈ G.tabs) : FnOk P w G.K mg base (L2N.CX P w) 4 f fd ["thing", "size", "many"] (spF G 3 d_all_below) :=
  fnC_ok (N := N_all_below) (ps := ["thing", "size", "many"]) (k := 3) F (by decide +kernel) rfl (by decide) (fun A outer s H E hr =>
    (ss_cons (st_if (PW.pt (sw_or (st_not (st_tr rfl (se_bi call_isi sem_isi rfl m_isinstance boot_isinstance (sa_cons (v_ 0 rfl rfl rfl rfl) (sa_cons (g_ty rfl m_tuple (by decide +kernel) (by decide) rfl) sa_nil rfl) rfl) (by decide) rfl rfl rfl) (fun _ => rfl))) (sw_or1 (st_cmp rfl (op_neA hr.u65) sem_ne (se_bi call_lenA sem_len rfl m_len boot_len (sa_cons (v_ 0 rfl rfl rfl rfl) sa_nil rfl) (by decide) rfl rfl rfl) (v_ 1 rfl rfl rfl rfl) rfl)))) (ss_one (st_ret k_bl)) ss_nil) (ss_one (st_ret (se_all (own := [("part", 3)]) ⟨rfl, nd_all_below, hr, TB, hcd, genOk_by (by kernel_rfl), (si_iter rfl (v_ 0 rfl rfl rfl rfl)), fun _ _ _ _ _ _ _ hr => (sg_name (i := 3) nd_all_below rfl (loc_by rfl) (sto_by rfl)), fun _ _ _ _ _ _ _ hr => tests_nil, fun _ _ _ _ _ _ _ hr => (se_own rfl o_is_below hr (by decide) rfl tk0 rfl (len_cons (len_cons len_nil)) (sa_cons (v_ 3 rfl rfl rfl rfl) (sa_cons (v_ 2 rfl rfl rfl rfl) sa_nil rfl) rfl) rfl rfl rfl), fun _ => rfl⟩ hT (by decide) rfl m_all (by decide +kernel) rfl)))))
theorem bi_all_below : BindF "all_below" (topS 13) ["thing", "size", "many"] := fun _ _ _ _ _ _ us hl => match us, hl with | [_, _, _], _ => rfl
/-! is_rising -/
def N_is_rising : List Str := ["numbers", "k"]
theorem nd_is_rising : N_is_rising.Nodup := by decide
def b_is_rising : Ev → Store → Out := (sRet (evGa false (.nm 1) [1] (evRng rng1 (evCons (ev2 opSub (evN biLen (evCons (evVar 0) evNil)) (evC (.int 1))) evNil)) evYes (ev2 opLt (ev2 opIx (evVar 0) (evVar 1)) (ev2 opIx (evVar 0) (ev2 opAdd (evVar 1) (evC (.int 1)))))))
def d_is_rising : FD := runF 2 false b_is_rising
theorem f_is_rising {f : Addr} {fd : FuncData} {cdv : Value} {c T : Addr}  (F : DefC G.K mg "is_rising" (topS 14) f fd cdv) (m_all : mg "all" = none) (m_len : mg "len" = none) (m_range : mg "range" = none) (hcd : cdv = .ref c) (TB : LamX.TabB base mg c T) (hT : T ∈ G.tabs) : FnOk P w G.K mg base (L2N.CX P w) 2 f fd ["numbers"] (spF G 1 d_is_rising) :=
  fnC_ok (N := N_is_rising) (ps := ["numbers"]) (k := 1) F (by decide +kernel) rfl (by decide) (fun A outer s H E hr =>
    (ss_one (st_ret (se_all (own := [("k", 1)]) ⟨rfl, nd_is_rising, hr, TB, hcd, genOk_by (by kernel_rfl), (si_range1 rfl m_range (sa_cons (se_bin (rI_of op_sub) sem_II (se_bi call_lenA sem_len rfl m_len boot_len (sa_cons (v_ 0 rfl rfl rfl rfl) sa_nil rfl) (by decide) rfl rfl rfl) k_int) sa_nil rfl) rfl), fun _ _ _ _ _ _ _ hr => (sg_name (i := 1) nd_is_rising rfl (loc_by rfl) (sto_by rfl)), fun _ _ _ _ _ _ _ hr => tests_nil, fun _ _ _ _ _ _ _ hr => (se_cmp (op_ltA hr.u0) sem_ord (se_ix rfl (v_ 0 rfl rfl rfl rfl) (v_ 1 rfl rfl rfl rfl) (fun _ _ => rfl)) (se_ix rfl (v_ 0 rfl rfl rfl rfl) (se_bin op_addA sem_add (v_ 1 rfl rfl rfl rfl) k_int) (fun _ _ => rfl)) rfl), fun _ => rfl⟩ hT (by decide) rfl m_all (by decide +kernel) rfl))))
theorem bi_is_rising : BindF "is_rising" (topS 14) ["numbers"] := fun _ _ _ _ _ _ us hl => match us, hl with | [_], _ => rfl
/-! _many_good -/
def N__many_good : List Str := ["many"]
theorem nd__many_good : N__many_good.Nodup := by decide
def b__many_good : Ev → Store → Out := (sRet (evAndV (evCall d_is_whole (evCons (evVar 0) evNil)) (evCh (evC (.int 1)) (chLink opLe (evVar 0) (chLast opLe (evC (.int 8)))))))
def d__many_good : FD := runF 1 false b__many_good
theorem f__many_good {f : Addr} {fd : FuncData} {cdv : Value}  {t_MOST_PLACES : Tok} (F : DefC G.K mg "_many_good" (topS 21) f fd cdv) (o_is_whole : Own P w G mg base "is_whole" 1 1 d_is_whole) (g_MOST_PLACES : mg "MOST_PLACES" = some (.int 8 t_MOST_PLACES)) : FnOk P w G.K mg base (L2N.CX P w) 2 f fd ["many"] (spF G 1 d__many_good) :=
  fnC_ok (N := N__many_good) (ps := ["many"]) (k := 1) F (by decide +kernel) rfl (by decide) (fun A outer s H E hr =>
    (ss_one (st_ret (se_and rfl (se_own rfl o_is_whole hr (by decide) rfl takesD rfl (len_cons len_nil) (sa_cons (v_ 0 rfl rfl rfl rfl) sa_nil rfl) rfl rfl rfl) (se_one (se_chain k_int (pch_link rfl (op_leA hr.u0) sem_ord (v_ 0 rfl rfl rfl rfl) (pch_last rfl (op_leA hr.u0) sem_ord (g_int rfl g_MOST_PLACES rfl))) rfl))))))
theorem bi__many_good : BindF "_many_good" (topS 21) ["many"] := fun _ _ _ _ _ _ us hl => match us, hl with | [_], _ => rfl
/-! _tie_good -/
def N__tie_good : List Str := ["many", "thing"]
theorem nd__tie_good : N__tie_good.Nodup := by decide
def b__tie_good : Ev → Store → Out := (sRet (evAndV (evCall d_all_below (evCons (evVar 1) (evCons (evC (.int 2)) (evCons (evVar 0) evNil)))) (ev2 opLt (ev2 opIx (evVar 1) (evC (.int 0))) (ev2 opIx (evVar 1) (evC (.int 1))))))
def d__tie_good : FD := runF 2 false b__tie_good
theorem f__tie_good {f : Addr} {fd : FuncData} {cdv : Value}   (F : DefC G.K mg "_tie_good" (topS 22) f fd cdv) (o_all_below : Own P w G mg base "all_below" 4 3 d_all_below) : FnOk P w G.K mg base (L2N.CX P w) 5 f fd ["many", "thing"] (spF G 2 d__tie_good) :=
  fnC_ok (N := N__tie_good) (ps := ["many", "thing"]) (k := 4) F (by decide +kernel) rfl (by decide) (fun A outer s H E hr =>
    (ss_one (st_ret (se_and rfl (se_own rfl o_all_below hr (by decide) rfl takesD rfl (len_cons (len_cons (len_cons len_nil))) (sa_cons (v_ 1 rfl rfl rfl rfl) (sa_cons k_int (sa_cons (v_ 0 rfl rfl rfl rfl) sa_nil rfl) rfl) rfl) rfl rfl rfl) (se_one (se_cmp (op_ltA hr.u0) sem_ord (se_ix rfl (v_ 1 rfl rfl rfl rfl) k_int (fun _ _ => rfl)) (se_ix rfl (v_ 1 rfl rfl rfl rfl) k_int (fun _ _ => rfl)) rfl))))))
theorem bi__tie_good : BindF "_tie_good" (topS 22) ["many", "thing"] := fun _ _ _ _ _ _ us hl => match us, hl with | [_, _], _ => rfl
/-! web_good -/
def N_web_good : List Str := ["thing", "many", "ties", "tie"]
theorem nd_web_good : N_web_good.Nodup := by decide
def b_web_good : Ev → Store → Out := (sSeq (sIf (evOr (evNot (evTr (evN biIsi (evCons (evVar 0) (evCons (evC (.ty "tuple")) evNil))))) (evTr (ev2 opNe (evN biLen (evCons (evVar 0) evNil)) (evC (.int 2))))) (sRet (evC (.bl false))) sNop) (sSeq (sAsg (.tp [(.nm 1), (.nm 2)]) (evVar 0)) (sSeq (sIf (evOr (evNot (evTr (evCall d__many_good (evCons (evVar 1) evNil)))) (evNot (evTr (evN biIsi (evCons (evVar 2) (evCons (evC (.ty "tuple")) evNil)))))) (sRet (evC (.bl false))) sNop) (sRet (evAndV (evGa false (.nm 3) [3] (evIter (evVar 2)) evYes (evCall d__tie_good (evCons (evVar 1) (evCons (evVar 3) evNil)))) (evCall d_is_rising (evCons (evVar 2) evNil)))))))
def d_web_good : FD := runF 4 false b_web_good
theorem f_web_good {f : Addr} {fd : FuncData} {cdv : Value} {c T : Addr}  (F : DefC G.K mg "web_good" (topS 17) f fd cdv) (o__many_good : Own P w G mg base "_many_good" 2 1 d__many_good) (o__tie_good : Own P w G mg base "_tie_good" 5 2 d__tie_good) (o_is_rising : Own P w G mg base "is_rising" 2 1 d_is_rising) (m_all : mg "all" = none) (m_isinstance : mg "isinstance" = none) (m_len : mg "len" = none) (m_tuple : mg "tuple" = none) (hcd : cdv = .ref c) (TB : LamX.TabB base mg c T) (hT : T ∈ G.tabs) : FnOk P w G.K mg base (L2N.CX P w) 7 f fd ["thing"] (spF G 1 d_web_good) :=
  fnC_ok (N := N_web_good) (ps := ["thing"]) (k := 6) F (by decide +kernel) rfl (by decide) (fun A outer s H E hr =>
    (ss_cons (st_if (PW.pt (sw_or (st_not (st_tr rfl (se_bi call_isi sem_isi rfl m_isinstance boot_isinstance (sa_cons (v_ 0 rfl rfl rfl rfl) (sa_cons (g_ty rfl m_tuple (by decide +kernel) (by decide) rfl) sa_nil rfl) rfl) (by decide) rfl rfl rfl) (fun _ => rfl))) (sw_or1 (st_cmp rfl (op_neA hr.u65) sem_ne (se_bi call_lenA sem_len rfl m_len boot_len (sa_cons (v_ 0 rfl rfl rfl rfl) sa_nil rfl) (by decide) rfl rfl rfl) k_int rfl)))) (ss_one (st_ret k_bl)) ss_nil) (ss_cons (st_asg (v_ 0 rfl rfl rfl rfl) (sg_tup rfl rfl (sgs_cons (sg_name (i := 1) nd_web_good rfl (loc_by rfl) (sto_by rfl)) (sgs_cons (sg_name (i := 2) nd_web_good rfl (loc_by rfl) (sto_by rfl)) sgs_nil rfl) rfl) rfl rfl rfl) rfl rfl rfl) (ss_cons (st_if (PW.pt (sw_or (st_not (st_tr rfl (se_own rfl o__many_good hr (by decide) rfl takesD rfl (len_cons len_nil) (sa_cons (v_ 1 rfl rfl rfl rfl) sa_nil rfl) rfl rfl rfl) (fun _ => rfl))) (sw_or1 (st_not (st_tr rfl (se_bi call_isi sem_isi rfl m_isinstance boot_isinstance (sa_cons (v_ 2 rfl rfl rfl rfl) (sa_cons (g_ty rfl m_tuple (by decide +kernel) (by decide) rfl) sa_nil rfl) rfl) (by decide) rfl rfl rfl) (fun _ => rfl)))))) (ss_one (st_ret k_bl)) ss_nil) (ss_one (st_ret (se_and rfl (se_all (own := [("tie", 3)]) ⟨rfl, nd_web_good, hr, TB, hcd, genOk_by (by kernel_rfl), (si_iter rfl (v_ 2 rfl rfl rfl rfl)), fun _ _ _ _ _ _ _ hr => (sg_name (i := 3) nd_web_good rfl (loc_by rfl) (sto_by rfl)), fun _ _ _ _ _ _ _ hr => tests_nil, fun _ _ _ _ _ _ _ hr => (se_own rfl o__tie_good hr (by decide) rfl tk0 rfl (len_cons (len_cons len_nil)) (sa_cons (v_ 1 rfl rfl rfl rfl) (sa_cons (v_ 3 rfl rfl rfl rfl) sa_nil rfl) rfl) rfl rfl rfl), fun _ => rfl⟩ hT (by decide) rfl m_all (by decide +kernel) rfl) (se_one (se_own rfl o_is_rising hr (by decide) rfl takesD rfl (len_cons len_nil) (sa_cons (v_ 2 rfl rfl rfl rfl) sa_nil rfl) rfl rfl rfl)))))))))
theorem bi_web_good : BindF "web_good" (topS 17) ["thing"] := fun _ _ _ _ _ _ us hl => match us, hl with | [_], _ => rfl
/-! near_table -/
def N_near_table : List Str := ["web", "many", "ties", "near", "a", "b", "_"]
theorem nd_near_table : N_near_table.Nodup := by decide
def b_near_table : Ev → Store → Out := (sSeq (sAsg (.tp [(.nm 1), (.nm 2)]) (evVar 0)) (sSeq (sSet 3 (evLc (.nm 6) [6] (evRng rng1 (evCons (evVar 1) evNil)) evYes (evNew evNil))) (sSeq (sFor (.tp [(.nm 4), (.nm 5)]) (evIter (evVar 2)) (sSeq (sExp (evM mAppend (ev2 opIx (evVar 3) (evVar 4)) (evCons (evVar 5) evNil))) (sExp (evM mAppend (ev2 opIx (evVar 3) (evVar 5)) (evCons (evVar 4) evNil))))) (sRet (evVar 3)))))
def d_near_table : FD := runF 7 false b_near_table
theorem f_near_table {f : Addr} {fd : FuncData} {cdv : Value}   (F : DefC G.K mg "near_table" (topS 20) f fd cdv) (m_range : mg "range" = none) : FnOk P w G.K mg base (L2N.CX P w) 1 f fd ["web"] (spF G 1 d_near_table) :=
  fnC_ok (N := N_near_table) (ps := ["web"]) (k := 0) F (by decide +kernel) rfl (by decide) (fun A outer s H E hr =>
    (ss_cons (st_asg (v_ 0 rfl rfl rfl rfl) (sg_tup rfl rfl (sgs_cons (sg_name (i := 1) nd_near_table rfl (loc_by rfl) (sto_by rfl)) (sgs_cons (sg_name (i := 2) nd_near_table rfl (loc_by rfl) (sto_by rfl)) sgs_nil rfl) rfl) rfl rfl rfl) rfl rfl rfl) (ss_cons (by first | exact (st_setLc (i := 3) (own := [("_", 6)]) rfl nd_near_table rfl rfl rfl (si_range1 rfl m_range (sa_cons (v_ 1 rfl rfl rfl rfl) sa_nil rfl) rfl) (blkOk_by (by kernel_rfl)) (by decide) (fun _ _ _ _ _ => (sg_name (i := 6) nd_near_table rfl (loc_by rfl) (sto_by rfl))) (fun _ _ _ _ _ => tests_nil) (fun _ _ _ _ _ => (se_new sa_nil)) (fun _ => rfl)) | exact (st_set (i := 3) nd_near_table rfl (loc_by rfl) (se_lc (own := [("_", 6)]) rfl nd_near_table (si_range1 rfl m_range (sa_cons (v_ 1 rfl rfl rfl rfl) sa_nil rfl) rfl) (blkOk_by (by kernel_rfl)) (by decide) (fun _ _ _ _ _ => (sg_name (i := 6) nd_near_table rfl (loc_by rfl) (sto_by rfl))) (fun _ _ _ _ _ => tests_nil) (fun _ _ _ _ _ => (se_new sa_nil)) (fun _ => rfl)) rfl (sto_by rfl))) (ss_cons (st_for (passes_of rfl) rfl (si_iter rfl (v_ 2 rfl rfl rfl rfl)) (sg_tup rfl rfl (sgs_cons (sg_name (i := 4) nd_near_table rfl (loc_by rfl) (sto_by rfl)) (sgs_cons (sg_name (i := 5) nd_near_table rfl (loc_by rfl) (sto_by rfl)) sgs_nil rfl) rfl) rfl rfl rfl) (ss_cons (st_exp (sm_bm rfl PySem.F.plainAttrs_list PySem.F.slot_list_append PySem.F.type_list_append mt_append sem_append (se_ix rfl (v_ 3 rfl rfl rfl rfl) (v_ 4 rfl rfl rfl rfl) (fun _ _ => rfl)) (sa_cons (v_ 5 rfl rfl rfl rfl) sa_nil rfl) rfl rfl rfl rfl rfl) rfl) (ss_one (st_exp (sm_bm rfl PySem.F.plainAttrs_list PySem.F.slot_list_append PySem.F.type_list_append mt_append sem_append (se_ix rfl (v_ 3 rfl rfl rfl rfl) (v_ 5 rfl rfl rfl rfl) (fun _ _ => rfl)) (sa_cons (v_ 4 rfl rfl rfl rfl) sa_nil rfl) rfl rfl rfl rfl rfl) rfl))) (fun _ => rfl)) (ss_one (st_ret (v_ 3 rfl rfl rfl rfl)))))))
theorem bi_near_table : BindF "near_table" (topS 20) ["web"] := fun _ _ _ _ _ _ us hl => match us, hl with | [_], _ => rfl
/-! _far_row -/
def N__far_row : List Str := ["near", "start", "row", "border", "beyond", "here", "there"]
theorem nd__far_row : N__far_row.Nodup := by decide
def b__far_row : Ev → Store → Out := (sSeq (sSet 2 (ev2 opMulN (evLst (evCons (evC .non) evNil)) (evN biLen (evCons (evVar 0) evNil)))) (sSeq (sSub (evVar 2) (evVar 1) (evC (.int 0))) (sSeq (sSet 3 (evLst (evCons (evVar 1) evNil))) (sSeq (sWhile 1000 (evTr (evVar 3)) (sSeq (sSet 4 (evNew evNil)) (sSeq (sEither (evVar 3) (sForL false (.nm 5) (evVar 3) (sFor (.nm 6) (evIter (ev2 opIx (evVar 0) (evVar 5))) (sIf (evTr (ev2 (opIs false) (ev2 opIx (evVar 2) (evVar 6)) (evC .non))) (sSeq (sSub (evVar 2) (evVar 6) (ev2 opAdd (ev2 opIx (evVar 2) (evVar 5)) (evC (.int 1)))) (sExp (evM mAppend (evVar 4) (evCons (evVar 6) evNil)))) sNop))) (sFor (.nm 5) (evIter (evVar 3)) (sFor (.nm 6) (evIter (ev2 opIx (evVar 0) (evVar 5))) (sIf (evTr (ev2 (opIs false) (ev2 opIx (evVar 2) (evVar 6)) (evC .non))) (sSeq (sSub (evVar 2) (evVar 6) (ev2 opAdd (ev2 opIx (evVar 2) (evVar 5)) (evC (.int 1)))) (sExp (evM mAppend (evVar 4) (evCons (evVar 6) evNil)))) sNop)))) (sSet 3 (evVar 4))))) (sRet (evVar 2))))))
def d__far_row : FD := runF 7 false b__far_row
theorem f__far_row {f : Addr} {fd : FuncData} {cdv : Value}   (F : DefC G.K mg "_far_row" (topS 23) f fd cdv) (m_len : mg "len" = none) : FnOk P w G.K mg base (L2N.CX P w) 1 f fd ["near", "start"] (spF G 2 d__far_row) :=
  fnC_ok (N := N__far_row) (ps := ["near", "start"]) (k := 0) F (by decide +kernel) rfl (by decide) (fun A outer s H E hr =>
    (ss_cons (st_set (i := 2) nd__far_row rfl (loc_by rfl) (se_bin op_rep sem_mulN (se_lst (sa_cons k_non sa_nil rfl)) (se_bi call_lenA sem_len rfl m_len boot_len (sa_cons (v_ 0 rfl rfl rfl rfl) sa_nil rfl) (by decide) rfl rfl rfl)) rfl (sto_by rfl)) (ss_cons (st_sub (v_ 2 rfl rfl rfl rfl) (v_ 1 rfl rfl rfl rfl) k_int rfl rfl (fun _ => rfl) rfl) (ss_cons (st_set (i := 3) nd__far_row rfl (loc_by rfl) (se_lst (sa_cons (v_ 1 rfl rfl rfl rfl) sa_nil rfl)) rfl (sto_by rfl)) (ss_cons (st_while (n := 1000) (passes_of rfl) (st_tr rfl (v_ 3 rfl rfl rfl rfl) (fun _ => rfl)) (ss_cons (st_set (i := 4) nd__far_row rfl (loc_by rfl) (se_new sa_nil) rfl (sto_by rfl)) (ss_cons (st_either (st_forL rfl (passes_of rfl) rfl (v_ 3 rfl rfl rfl rfl) (sg_name (i := 5) nd__far_row rfl (loc_by rfl) (sto_by rfl)) (ss_one (st_for (passes_of rfl) rfl (si_iter rfl (se_ix rfl (v_ 0 rfl rfl rfl rfl) (v_ 5 rfl rfl rfl rfl) (fun _ _ => rfl))) (sg_name (i := 6) nd__far_row rfl (loc_by rfl) (sto_by rfl)) (ss_one (st_if (st_cmp rfl op_isA sem_is (se_ix rfl (v_ 2 rfl rfl rfl rfl) (v_ 6 rfl rfl rfl rfl) (fun _ _ => rfl)) k_non rfl) (ss_cons (st_sub (v_ 2 rfl rfl rfl rfl) (v_ 6 rfl rfl rfl rfl) (se_bin op_addA sem_add (se_ix rfl (v_ 2 rfl rfl rfl rfl) (v_ 5 rfl rfl rfl rfl) (fun _ _ => rfl)) k_int) rfl rfl (fun _ => rfl) rfl) (ss_one (st_exp (sm_bm rfl PySem.F.plainAttrs_list PySem.F.slot_list_append PySem.F.type_list_append mt_append sem_append (v_ 4 rfl rfl rfl rfl) (sa_cons (v_ 6 rfl rfl rfl rfl) sa_nil rfl) rfl rfl rfl rfl rfl) rfl))) ss_nil)) (fun _ => rfl))) (fun _ => rfl)) (st_for (passes_of rfl) rfl (si_iter rfl (v_ 3 rfl rfl rfl rfl)) (sg_name (i := 5) nd__far_row rfl (loc_by rfl) (sto_by rfl)) (ss_one (st_for (passes_of rfl) rfl (si_iter rfl (se_ix rfl (v_ 0 rfl rfl rfl rfl) (v_ 5 rfl rfl rfl rfl) (fun _ _ => rfl))) (sg_name (i := 6) nd__far_row rfl (loc_by rfl) (sto_by rfl)) (ss_one (st_if (st_cmp rfl op_isA sem_is (se_ix rfl (v_ 2 rfl rfl rfl rfl) (v_ 6 rfl rfl rfl rfl) (fun _ _ => rfl)) k_non rfl) (ss_cons (st_sub (v_ 2 rfl rfl rfl rfl) (v_ 6 rfl rfl rfl rfl) (se_bin op_addA sem_add (se_ix rfl (v_ 2 rfl rfl rfl rfl) (v_ 5 rfl rfl rfl rfl) (fun _ _ => rfl)) k_int) rfl rfl (fun _ => rfl) rfl) (ss_one (st_exp (sm_bm rfl PySem.F.plainAttrs_list PySem.F.slot_list_append PySem.F.type_list_append mt_append sem_append (v_ 4 rfl rfl rfl rfl) (sa_cons (v_ 6 rfl rfl rfl rfl) sa_nil rfl) rfl rfl rfl rfl rfl) rfl))) ss_nil)) (fun _ => rfl))) (fun _ => rfl))) (ss_one (st_set (i := 3) nd__far_row rfl (loc_by rfl) (v_ 4 rfl rfl rfl rfl) rfl (sto_by rfl)))))) (ss_one (st_ret (v_ 2 rfl rfl rfl rfl))))))))
theorem bi__far_row : BindF "_far_row" (topS 23) ["near", "start"] := fun _ _ _ _ _ _ us hl => match us, hl with | [_, _], _ => rfl
/-! far_table -/
def N_far_table : List Str := ["web", "near", "place"]
theorem nd_far_table : N_far_table.Nodup := by decide
def b_far_table : Ev → Store → Out := (sSeq (sSet 1 (evCall d_near_table (evCons (evVar 0) evNil))) (sRet (evLc (.nm 2) [2] (evRng rng1 (evCons (ev2 opIx (evVar 0) (evC (.int 0))) evNil)) evYes (evCall d__far_row (evCons (evVar 1) (evCons (evVar 2) evNil))))))
def d_far_table : FD := runF 3 false b_far_table
theorem f_far_table {f : Addr} {fd : FuncData} {cdv : Value}   (F : DefC G.K mg "far_table" (topS 18) f fd cdv) (o_near_table : Own P w G mg base "near_table" 1 1 d_near_table) (o__far_row : Own P w G mg base "_far_row" 1 2 d__far_row) (m_range : mg "range" = none) : FnOk P w G.K mg base (L2N.CX P w) 2 f fd ["web"] (spF G 1 d_far_table) :=
  fnC_ok (N := N_far_table) (ps := ["web"]) (k := 1) F (by decide +kernel) rfl (by decide) (fun A outer s H E hr =>
    (ss_cons (st_set (i := 1) nd_far_table rfl (loc_by rfl) (se_own rfl o_near_table hr (by decide) rfl takesD rfl (len_cons len_nil) (sa_cons (v_ 0 rfl rfl rfl rfl) sa_nil rfl) rfl rfl rfl) rfl (sto_by rfl)) (ss_one (st_ret (se_lc (own := [("place", 2)]) rfl nd_far_table (si_range1 rfl m_range (sa_cons (se_ix rfl (v_ 0 rfl rfl rfl rfl) k_int (fun _ _ => rfl)) sa_nil rfl) rfl) (blkOk_by (by kernel_rfl)) (by decide) (fun _ _ _ _ _ => (sg_name (i := 2) nd_far_table rfl (loc_by rfl) (sto_by rfl))) (fun _ _ _ _ _ => tests_nil) (fun _ _ _ _ _ => (se_own rfl o__far_row hr (by decide) rfl tk0 rfl (len_cons (len_cons len_nil)) (sa_cons (v_ 1 rfl rfl rfl rfl) (sa_cons (v_ 2 rfl rfl rfl rfl) sa_nil rfl) rfl) rfl rfl rfl)) (fun _ => rfl))))))
theorem bi_far_table : BindF "far_table" (topS 18) ["web"] := fun _ _ _ _ _ _ us hl => match us, hl with | [_], _ => rfl
/-! is_joined -/
def N_is_joined : List Str := ["web"]
theorem nd_is_joined : N_is_joined.Nodup := by decide
def b_is_joined : Ev → Store → Out := (sRet (ev2 (opIn true) (evC .non) (evCall d__far_row (evCons (evCall d_near_table (evCons (evVar 0) evNil)) (evCons (evC (.int 0)) evNil)))))
def d_is_joined : FD := runF 1 false b_is_joined
theorem f_is_joined {f : Addr} {fd : FuncData} {cdv : Value}   (F : DefC G.K mg "is_joined" (topS 19) f fd cdv) (o__far_row : Own P w G mg base "_far_row" 1 2 d__far_row) (o_near_table : Own P w G mg base "near_table" 1 1 d_near_table) : FnOk P w G.K mg base (L2N.CX P w) 2 f fd ["web"] (spF G 1 d_is_joined) :=
  fnC_ok (N := N_is_joined) (ps := ["web"]) (k := 1) F (by decide +kernel) rfl (by decide) (fun A outer s H E hr =>
    (ss_one (st_ret (se_cmp (op_notInA hr.u65) sem_in k_non (se_own rfl o__far_row hr (by decide) rfl takesD rfl (len_cons (len_cons len_nil)) (sa_cons (se_own rfl o_near_table hr (by decide) rfl takesD rfl (len_cons len_nil) (sa_cons (v_ 0 rfl rfl rfl rfl) sa_nil rfl) rfl rfl rfl) (sa_cons k_int sa_nil rfl) rfl) rfl rfl rfl) rfl))))
theorem bi_is_joined : BindF "is_joined" (topS 19) ["web"] := fun _ _ _ _ _ _ us hl => match us, hl with | [_], _ => rfl
/-! refuse_apart -/
def N_refuse_apart : List Str := ["web"]
theorem nd_refuse_apart : N_refuse_apart.Nodup := by decide
def b_refuse_apart : Ev → Store → Out := (sIf (evOr (evNot (evTr (evCall d_web_good (evCons (evVar 0) evNil)))) (evNot (evTr (evCall d_is_joined (evCons (evVar 0) evNil))))) (sRaise 3) sNop)
def d_refuse_apart : FD := runF 1 false b_refuse_apart
theorem f_refuse_apart {f : Addr} {fd : FuncData} {cdv : Value}   (F : DefC G.K mg "refuse_apart" (topS 25) f fd cdv) (o_web_good : Own P w G mg base "web_good" 7 1 d_web_good) (o_is_joined : Own P w G mg base "is_joined" 2 1 d_is_joined) (n_Apart : mg "Apart" = some (.ref (G.ca 3))) (T_Apart : ExcN G.K (G.ca 3)) : FnOk P w G.K mg base (L2N.CX P w) 8 f fd ["web"] (spF G 1 d_refuse_apart) :=
  fnC_ok (N := N_refuse_apart) (ps := ["web"]) (k := 7) F (by decide +kernel) rfl (by decide) (fun A outer s H E hr =>
    (ss_one (st_if (PW.pt (sw_or (st_not (st_tr rfl (se_own rfl o_web_good hr (by decide) rfl takesD rfl (len_cons len_nil) (sa_cons (v_ 0 rfl rfl rfl rfl) sa_nil rfl) rfl rfl rfl) (fun _ => rfl))) (sw_or1 (st_not (st_tr rfl (se_own rfl o_is_joined hr (by decide) rfl takesD rfl (len_cons len_nil) (sa_cons (v_ 0 rfl rfl rfl rfl) sa_nil rfl) rfl rfl rfl) (fun _ => rfl)))))) (ss_one (st_raise (c := 3) rfl rfl T_Apart n_Apart takesD rfl rfl)) ss_nil)))
theorem bi_refuse_apart : BindF "refuse_apart" (topS 25) ["web"] := fun _ _ _ _ _ _ us hl => match us, hl with | [_], _ => rfl
/-! _are_places -/
def N__are_places : List Str := ["web", "thing"]
theorem nd__are_places : N__are_places.Nodup := by decide
def b__are_places : Ev → Store → Out := (sSeq (sIf (evOr (evNot (evTr (evN biIsi (evCons (evVar 1) (evCons (evC (.ty "list")) evNil))))) (evNot (evTr (evCh (evC (.int 1)) (chLink opLe (evN biLen (evCons (evVar 1) evNil)) (chLast opLe (evC (.int 12)))))))) (sRet (evC (.bl false))) sNop) (sRet (evCall d_all_below (evCons (evN biTuple (evCons (evVar 1) evNil)) (evCons (evN biLen (evCons (evVar 1) evNil)) (evCons (ev2 opIx (evVar 0) (evC (.int 0))) evNil))))))
def d__are_places : FD := runF 2 false b__are_places
theorem f__are_places {f : Addr} {fd : FuncData} {cdv : Value}  {t_MOST_NEARED : Tok} (F : DefC G.K mg "_are_places" (topS 29) f fd cdv) (o_all_below : Own P w G mg base "all_below" 4 3 d_all_below) (m_isinstance : mg "isinstance" = none) (m_len : mg "len" = none) (m_list : mg "list" = none) (m_tuple : mg "tuple" = none) (g_MOST_NEARED : mg "MOST_NEARED" = some (.int 12 t_MOST_NEARED)) : FnOk P w G.K mg base (L2N.CX P w) 5 f fd ["web", "thing"] (spF G 2 d__are_places) :=
  fnC_ok (N := N__are_places) (ps := ["web", "thing"]) (k := 4) F (by decide +kernel) rfl (by decide) (fun A outer s H E hr =>
    (ss_cons (st_if (PW.pt (sw_or (st_not (st_tr rfl (se_bi call_isi sem_isi rfl m_isinstance boot_isinstance (sa_cons (v_ 1 rfl rfl rfl rfl) (sa_cons (g_ty rfl m_list (by decide +kernel) (by decide) rfl) sa_nil rfl) rfl) (by decide) rfl rfl rfl) (fun _ => rfl))) (sw_or1 (st_not (st_chain k_int (pch_link rfl (op_leA hr.u0) sem_ord (se_bi call_lenA sem_len rfl m_len boot_len (sa_cons (v_ 1 rfl rfl rfl rfl) sa_nil rfl) (by decide) rfl rfl rfl) (pch_last rfl (op_leA hr.u0) sem_ord (g_int rfl g_MOST_NEARED rfl))) rfl))))) (ss_one (st_ret k_bl)) ss_nil) (ss_one (st_ret (se_own rfl o_all_below hr (by decide) rfl takesD rfl (len_cons (len_cons (len_cons len_nil))) (sa_cons (se_ty call_tuple_of sem_tuple rfl m_tuple boot_tuple (sa_cons (v_ 1 rfl rfl rfl rfl) sa_nil rfl) (by decide) rfl rfl rfl) (sa_cons (se_bi call_lenA sem_len rfl m_len boot_len (sa_cons (v_ 1 rfl rfl rfl rfl) sa_nil rfl) (by decide) rfl rfl rfl) (sa_cons (se_ix rfl (v_ 0 rfl rfl rfl rfl) k_int (fun _ _ => rfl)) sa_nil rfl) rfl) rfl) rfl rfl rfl)))))
theorem bi__are_places : BindF "_are_places" (topS 29) ["web", "thing"] := fun _ _ _ _ _ _ us hl => match us, hl with | [_, _], _ => rfl
/-! nearest_of -/
def N_nearest_of : List Str := ["web", "places", "far", "ties", "fewest", "row", "place"]
theorem nd_nearest_of : N_nearest_of.Nodup := by decide
def b_nearest_of : Ev → Store → Out := (sSeq (sExp (evCall d_refuse_apart (evCons (evVar 0) evNil))) (sSeq (sIf (evNot (evTr (evCall d__are_places (evCons (evVar 0) (evCons (evVar 1) evNil))))) (sRaise 0) sNop) (sSeq (sSet 2 (evCall d_far_table (evCons (evVar 0) evNil))) (sSeq (sSet 3 (evLc (.nm 5) [5] (evIter (evVar 2)) evYes (evN biSum (evCons (evLc (.nm 6) [6] (evIter (evVar 1)) evYes (ev2 opIx (evVar 5) (evVar 6))) evNil)))) (sSeq (sSet 4 (evN (biMM minI) (evCons (evVar 3) evNil))) (sRet (evN biTuple (evCons (evLc (.nm 6) [6] (evRng rng1 (evCons (ev2 opIx (evVar 0) (evC (.int 0))) evNil)) (evTr (ev2 opEq (ev2 opIx (evVar 3) (evVar 6)) (evVar 4))) (evVar 6)) evNil))))))))
def d_nearest_of : FD := runF 7 false b_nearest_of
theorem f_nearest_of {f : Addr} {fd : FuncData} {cdv : Value}   (F : DefC G.K mg "nearest_of" (topS 28) f fd cdv) (o_refuse_apart : Own P w G mg base "refuse_apart" 8 1 d_refuse_apart) (o__are_places : Own P w G mg base "_are_places" 5 2 d__are_places) (o_far_table : Own P w G mg base "far_table" 2 1 d_far_table) (n_NoPlace : mg "NoPlace" = some (.ref (G.ca 0))) (T_NoPlace : ExcN G.K (G.ca 0)) (m_min : mg "min" = none) (m_range : mg "range" = none) (m_sum : mg "sum" = none) (m_tuple : mg "tuple" = none) : FnOk P w G.K mg base (L2N.CX P w) 9 f fd ["web", "places"] (spF G 2 d_nearest_of) :=
  fnC_ok (N := N_nearest_of) (ps := ["web", "places"]) (k := 8) F (by decide +kernel) rfl (by decide) (fun A outer s H E hr =>
    (ss_cons (st_exp (se_own rfl o_refuse_apart hr (by decide) rfl takesD rfl (len_cons len_nil) (sa_cons (v_ 0 rfl rfl rfl rfl) sa_nil rfl) rfl rfl rfl) rfl) (ss_cons (st_if (st_not (st_tr rfl (se_own rfl o__are_places hr (by decide) rfl takesD rfl (len_cons (len_cons len_nil)) (sa_cons (v_ 0 rfl rfl rfl rfl) (sa_cons (v_ 1 rfl rfl rfl rfl) sa_nil rfl) rfl) rfl rfl rfl) (fun _ => rfl))) (ss_one (st_raise (c := 0) rfl rfl T_NoPlace n_NoPlace takesD rfl rfl)) ss_nil) (ss_cons (st_set (i := 2) nd_nearest_of rfl (loc_by rfl) (se_own rfl o_far_table hr (by decide) rfl takesD rfl (len_cons len_nil) (sa_cons (v_ 0 rfl rfl rfl rfl) sa_nil rfl) rfl rfl rfl) rfl (sto_by rfl)) (ss_cons (by first | exact (st_setLc (i := 3) (own := [("row", 5)]) rfl nd_nearest_of rfl rfl rfl (si_iter rfl (v_ 2 rfl rfl rfl rfl)) (blkOk_by (by kernel_rfl)) (by decide) (fun _ _ _ _ _ => (sg_name (i := 5) nd_nearest_of rfl (loc_by rfl) (sto_by rfl))) (fun _ _ _ _ _ => tests_nil) (fun _ _ _ _ _ => (se_bi (cr_sum rfl) sem_sum rfl m_sum boot_sum (sa_cons (se_lc (own := [("place", 6)]) rfl nd_nearest_of (si_iter rfl (v_ 1 rfl rfl rfl rfl)) (blkOk_by (by kernel_rfl)) (by decide) (fun _ _ _ _ _ => (sg_name (i := 6) nd_nearest_of rfl (loc_by rfl) (sto_by rfl))) (fun _ _ _ _ _ => tests_nil) (fun _ _ _ _ _ => (se_ix rfl (v_ 5 rfl rfl rfl rfl) (v_ 6 rfl rfl rfl rfl) (fun _ _ => rfl))) (fun _ => rfl)) sa_nil rfl) (by decide) rfl rfl rfl)) (fun _ => rfl)) | exact (st_set (i := 3) nd_nearest_of rfl (loc_by rfl) (se_lc (own := [("row", 5)]) rfl nd_nearest_of (si_iter rfl (v_ 2 rfl rfl rfl rfl)) (blkOk_by (by kernel_rfl)) (by decide) (fun _ _ _ _ _ => (sg_name (i := 5) nd_nearest_of rfl (loc_by rfl) (sto_by rfl))) (fun _ _ _ _ _ => tests_nil) (fun _ _ _ _ _ => (se_bi (cr_sum rfl) sem_sum rfl m_sum boot_sum (sa_cons (se_lc (own := [("place", 6)]) rfl nd_nearest_of (si_iter rfl (v_ 1 rfl rfl rfl rfl)) (blkOk_by (by kernel_rfl)) (by decide) (fun _ _ _ _ _ => (sg_name (i := 6) nd_nearest_of rfl (loc_by rfl) (sto_by rfl))) (fun _ _ _ _ _ => tests_nil) (fun _ _ _ _ _ => (se_ix rfl (v_ 5 rfl rfl rfl rfl) (v_ 6 rfl rfl rfl rfl) (fun _ _ => rfl))) (fun _ => rfl)) sa_nil rfl) (by decide) rfl rfl rfl)) (fun _ => rfl)) rfl (sto_by rfl))) (ss_cons (st_set (i := 4) nd_nearest_of rfl (loc_by rfl) (se_bi (call_minA rfl) sem_MM rfl m_min boot_min (sa_cons (v_ 3 rfl rfl rfl rfl) sa_nil rfl) (by decide) rfl rfl rfl) rfl (sto_by rfl)) (ss_one (st_ret (se_ty call_tuple_of sem_tuple rfl m_tuple boot_tuple (sa_cons (se_lc (own := [("place", 6)]) rfl nd_nearest_of (si_range1 rfl m_range (sa_cons (se_ix rfl (v_ 0 rfl rfl rfl rfl) k_int (fun _ _ => rfl)) sa_nil rfl) rfl) (blkOk_by (by kernel_rfl)) (by decide) (fun _ _ _ _ _ => (sg_name (i := 6) nd_nearest_of rfl (loc_by rfl) (sto_by rfl))) (fun _ _ _ _ _ => (tests_one (st_cmp rfl (op_eqA hr.u65) sem_eq (se_ix rfl (v_ 3 rfl rfl rfl rfl) (v_ 6 rfl rfl rfl rfl) (fun _ _ => rfl)) (v_ 4 rfl rfl rfl rfl) rfl))) (fun _ _ _ _ _ => (v_ 6 rfl rfl rfl rfl)) (fun _ => rfl)) sa_nil rfl) (by decide) rfl rfl rfl)))))))))
theorem bi_nearest_of : BindF "nearest_of" (topS 28) ["web", "places"] := fun _ _ _ _ _ _ us hl => match us, hl with | [_, _], _ => rfl
/-! _law_cell_at -/
def N__law_cell_at : List Str := ["_law_script", "_law_k"]
theorem nd__law_cell_at : N__law_cell_at.Nodup := by decide
def b__law_cell_at : Ev → Store → Out := (sSeq (sIf (evTr (ev2 opLt (evVar 1) (evN biLen (evCons (evVar 0) evNil)))) (sRet (ev2 opIx (evVar 0) (evVar 1))) sNop) (sRet (evC (.int 0))))
def d__law_cell_at : FD := runF 2 false b__law_cell_at
theorem f__law_cell_at {f : Addr} {fd : FuncData} {cdv : Value}   (F : DefC G.K mg "_law_cell_at" (topS 31) f fd cdv) (m_len : mg "len" = none) : FnOk P w G.K mg base (L2N.CX P w) 1 f fd ["_law_script", "_law_k"] (spF G 2 d__law_cell_at) :=
  fnC_ok (N := N__law_cell_at) (ps := ["_law_script", "_law_k"]) (k := 0) F (by decide +kernel) rfl (by decide) (fun A outer s H E hr =>
    (ss_cons (st_if (st_cmp rfl (op_ltA hr.u0) sem_ord (v_ 1 rfl rfl rfl rfl) (se_bi call_lenA sem_len rfl m_len boot_len (sa_cons (v_ 0 rfl rfl rfl rfl) sa_nil rfl) (by decide) rfl rfl rfl) rfl) (ss_one (st_ret (se_ix rfl (v_ 0 rfl rfl rfl rfl) (v_ 1 rfl rfl rfl rfl) (fun _ _ => rfl)))) ss_nil) (ss_one (st_ret k_int))))
theorem bi__law_cell_at : BindF "_law_cell_at" (topS 31) ["_law_script", "_law_k"] := fun _ _ _ _ _ _ us hl => match us, hl with | [_, _], _ => rfl
/-! _law_next -/
def N__law_next : List Str := ["_law_seed"]
theorem nd__law_next : N__law_next.Nodup := by decide
def b__law_next : Ev → Store → Out := (sSeq (sSet 0 (ev2 opMod (ev2 opAdd (evVar 0) (evC (.int 7919))) (evC (.int 2147483647)))) (sRet (ev2 opMod (ev2 opAdd (ev2 opAdd (ev2 opMul (evVar 0) (evVar 0)) (ev2 opMul (evC (.int 48271)) (evVar 0))) (evC (.int 12345))) (evC (.int 2147483629)))))
def d__law_next : FD := runF 1 false b__law_next
theorem f__law_next {f : Addr} {fd : FuncData} {cdv : Value}   (F : DefC G.K mg "_law_next" (topS 32) f fd cdv) : FnOk P w G.K mg base (L2N.CX P w) 1 f fd ["_law_seed"] (spF G 1 d__law_next) :=
  fnC_ok (N := N__law_next) (ps := ["_law_seed"]) (k := 0) F (by decide +kernel) rfl (by decide) (fun A outer s H E hr =>
    (ss_cons (st_set (i := 0) nd__law_next rfl (loc_by rfl) (se_bin op_mod sem_II (se_bin op_addA sem_add (v_ 0 rfl rfl rfl rfl) k_int) k_int) rfl (sto_by rfl)) (ss_one (st_ret (se_bin op_mod sem_II (se_bin op_addA sem_add (se_bin op_addA sem_add (se_bin op_mulA sem_mul (v_ 0 rfl rfl rfl rfl) (v_ 0 rfl rfl rfl rfl)) (se_bin op_mulA sem_mul k_int (v_ 0 rfl rfl rfl rfl))) k_int) k_int)))))
theorem bi__law_next : BindF "_law_next" (topS 32) ["_law_seed"] := fun _ _ _ _ _ _ us hl => match us, hl with | [_], _ => rfl
/-! _law_pen_of -/
def N__law_pen_of : List Str := ["_law_cell", "_law_left"]
theorem nd__law_pen_of : N__law_pen_of.Nodup := by decide
def b__law_pen_of : Ev → Store → Out := (sSeq (sSet 1 (evN (biMM maxI) (evCons (evVar 0) (evCons (ev2 opSub (evC (.int 0)) (evVar 0)) evNil)))) (sRet (evNew (evCons (evVar 1) (evCons (evN biInt (evCons (ev2 opGe (evVar 1) (ev2 opPow (evC (.int 10)) (evC (.int 18)))) evNil)) (evCons (ev2 opMod (evVar 1) (evC (.int 1000003))) evNil))))))
def d__law_pen_of : FD := runF 2 true b__law_pen_of
theorem f__law_pen_of {f : Addr} {fd : FuncData} {cdv : Value}   (F : DefC G.K mg "_law_pen_of" (topS 33) f fd cdv) (m_int : mg "int" = none) (m_max : mg "max" = none) : FnOk P w G.K mg base (L2N.CX P w) 1 f fd ["_law_cell"] (spF G 1 d__law_pen_of) :=
  fnC_ok (N := N__law_pen_of) (ps := ["_law_cell"]) (k := 0) F (by decide +kernel) rfl (by decide) (fun A outer s H E hr =>
    (ss_cons (st_set (i := 1) nd__law_pen_of rfl (loc_by rfl) (se_bi (call_maxA rfl) sem_MM rfl m_max boot_max (sa_cons (v_ 0 rfl rfl rfl rfl) (sa_cons (se_bin (rI_of op_sub) sem_II k_int (v_ 0 rfl rfl rfl rfl)) sa_nil rfl) rfl) (by decide) rfl rfl rfl) rfl (sto_by rfl)) (ss_one (st_ret (se_new (sa_cons (v_ 1 rfl rfl rfl rfl) (sa_cons (se_ty call_int1 sem_int rfl m_int boot_int (sa_cons (se_cmp op_geA sem_ord (v_ 1 rfl rfl rfl rfl) (se_bin op_pow sem_II k_int k_int) rfl) sa_nil rfl) (by decide) rfl rfl rfl) (sa_cons (se_bin op_mod sem_II (v_ 1 rfl rfl rfl rfl) k_int) sa_nil rfl) rfl) rfl))))))
theorem bi__law_pen_of : BindF "_law_pen_of" (topS 33) ["_law_cell"] := fun _ _ _ _ _ _ us hl => match us, hl with | [_], _ => rfl
/-! _law_draw -/
def N__law_draw : List Str := ["_law_pen", "_law_many", "_law_found"]
theorem nd__law_draw : N__law_draw.Nodup := by decide
def b__law_draw : Ev → Store → Out := (sSeq (sIf (evTr (ev2 opEq (ev2 opIx (evVar 0) (evC (.int 1))) (evC (.int 1)))) (sSeq (sSet 2 (ev2 opMod (ev2 opIx (evVar 0) (evC (.int 0))) (evVar 1))) (sSeq (sSub (evVar 0) (evC (.int 0)) (ev2 opFdiv (ev2 opIx (evVar 0) (evC (.int 0))) (evVar 1))) (sRet (evVar 2)))) sNop) (sSeq (sSub (evVar 0) (evC (.int 2)) (evCall d__law_next (evCons (ev2 opAdd (evCall d__law_next (evCons (ev2 opIx (evVar 0) (evC (.int 2))) evNil)) (evC (.int 7))) evNil))) (sRet (ev2 opMod (ev2 opFdiv (ev2 opIx (evVar 0) (evC (.int 2))) (evC (.int 64))) (evVar 1)))))
def d__law_draw : FD := runF 3 false b__law_draw
theorem f__law_draw {f : Addr} {fd : FuncData} {cdv : Value}   (F : DefC G.K mg "_law_draw" (topS 34) f fd cdv) (o__law_next : Own P w G mg base "_law_next" 1 1 d__law_next) : FnOk P w G.K mg base (L2N.CX P w) 2 f fd ["_law_pen", "_law_many"] (spF G 2 d__law_draw) :=
  fnC_ok (N := N__law_draw) (ps := ["_law_pen", "_law_many"]) (k := 1) F (by decide +kernel) rfl (by decide) (fun A outer s H E hr =>
    (ss_cons (st_if (st_cmp rfl (op_eqA hr.u65) sem_eq (se_ix rfl (v_ 0 rfl rfl rfl rfl) k_int (fun _ _ => rfl)) k_int rfl) (ss_cons (st_set (i := 2) nd__law_draw rfl (loc_by rfl) (se_bin op_mod sem_II (se_ix rfl (v_ 0 rfl rfl rfl rfl) k_int (fun _ _ => rfl)) (v_ 1 rfl rfl rfl rfl)) rfl (sto_by rfl)) (ss_cons (st_sub (v_ 0 rfl rfl rfl rfl) k_int (se_bin op_fdiv sem_II (se_ix rfl (v_ 0 rfl rfl rfl rfl) k_int (fun _ _ => rfl)) (v_ 1 rfl rfl rfl rfl)) rfl rfl (fun _ => rfl) rfl) (ss_one (st_ret (v_ 2 rfl rfl rfl rfl))))) ss_nil) (ss_cons (st_sub (v_ 0 rfl rfl rfl rfl) k_int (se_own rfl o__law_next hr (by decide) rfl takesD rfl (len_cons len_nil) (sa_cons (se_bin op_addA sem_add (se_own rfl o__law_next hr (by decide) rfl takesD rfl (len_cons len_nil) (sa_cons (se_ix rfl (v_ 0 rfl rfl rfl rfl) k_int (fun _ _ => rfl)) sa_nil rfl) rfl rfl rfl) k_int) sa_nil rfl) rfl rfl rfl) rfl rfl (fun _ => rfl) rfl) (ss_one (st_ret (se_bin op_mod sem_II (se_bin op_fdiv sem_II (se_ix rfl (v_ 0 rfl rfl rfl rfl) k_int (fun _ _ => rfl)) k_int) (v_ 1 rfl rfl rfl rfl)))))))
theorem bi__law_draw : BindF "_law_draw" (topS 34) ["_law_pen", "_law_many"] := fun _ _ _ _ _ _ us hl => match us, hl with | [_, _], _ => rfl
/-! _law_whole -/
def N__law_whole : List Str := ["_law_found"]
theorem nd__law_whole : N__law_whole.Nodup := by decide
def b__law_whole : Ev → Store → Out := (sRet (evAndV (evN biIsi (evCons (evVar 0) (evCons (evC (.ty "int")) evNil))) (evNotV (evN biIsi (evCons (evVar 0) (evCons (evC (.ty "bool")) evNil))))))
def d__law_whole : FD := runF 1 false b__law_whole
theorem f__law_whole {f : Addr} {fd : FuncData} {cdv : Value}   (F : DefC G.K mg "_law_whole" (topS 35) f fd cdv) (m_bool : mg "bool" = none) (m_int : mg "int" = none) (m_isinstance : mg "isinstance" = none) : FnOk P w G.K mg base (L2N.CX P w) 1 f fd ["_law_found"] (spF G 1 d__law_whole) :=
  fnC_ok (N := N__law_whole) (ps := ["_law_found"]) (k := 0) F (by decide +kernel) rfl (by decide) (fun A outer s H E hr =>
    (ss_one (st_ret (se_and rfl (se_bi call_isi sem_isi rfl m_isinstance boot_isinstance (sa_cons (v_ 0 rfl rfl rfl rfl) (sa_cons (g_ty rfl m_int (by decide +kernel) (by decide) rfl) sa_nil rfl) rfl) (by decide) rfl rfl rfl) (se_one (se_not rfl (se_bi call_isi sem_isi rfl m_isinstance boot_isinstance (sa_cons (v_ 0 rfl rfl rfl rfl) (sa_cons (g_ty rfl m_bool (by decide +kernel) (by decide) rfl) sa_nil rfl) rfl) (by decide) rfl rfl rfl)))))))
theorem bi__law_whole : BindF "_law_whole" (topS 35) ["_law_found"] := fun _ _ _ _ _ _ us hl => match us, hl with | [_], _ => rfl
/-! _law_kind_of -/
def N__law_kind_of : List Str := ["_law_e", "_law_marks"]
theorem nd__law_kind_of : N__law_kind_of.Nodup := by decide
def b__law_kind_of (c : Nat) : Ev → Store → Out := (sSeq (sSet 1 (evLst (evCons (evN (biIsE 8 c) (evCons (evVar 0) (evCons (evC (.cls 0)) evNil))) (evCons (evN (biIsE 8 c) (evCons (evVar 0) (evCons (evC (.cls 1)) evNil))) (evCons (evN (biIsE 8 c) (evCons (evVar 0) (evCons (evC (.cls 2)) evNil))) (evCons (evN (biIsE 8 c) (evCons (evVar 0) (evCons (evC (.cls 3)) evNil))) evNil)))))) (sSeq (sSet 1 (ev2 opAdd (evVar 1) (evLst (evCons (evN (biIsE 8 c) (evCons (evVar 0) (evCons (evC (.cls 4)) evNil))) (evCons (evN (biIsE 8 c) (evCons (evVar 0) (evCons (evC (.cls 5)) evNil))) (evCons (evN (biIsE 8 c) (evCons (evVar 0) (evCons (evC (.cls 6)) evNil))) (evCons (evN (biIsE 8 c) (evCons (evVar 0) (evCons (evC (.cls 7)) evNil))) evNil))))))) (sSeq (sIf (evOr (evNot (evTr (evN (biIsE 8 c) (evCons (evVar 0) (evCons (evC (.ty "ValueError")) evNil))))) (evTr (ev2 opNe (evM mCount (evVar 1) (evCons (evC (.bl true)) evNil)) (evC (.int 1))))) (sRet (evC (.str "other"))) sNop) (sRet (ev2 opIx (evLst (evCons (evC (.str "place")) (evCons (evC (.str "tie")) (evCons (evC (.str "line")) (evCons (evC (.str "apart")) (evCons (evC (.str "cube")) (evCons (evC (.str "web")) (evCons (evC (.str "text")) (evCons (evC (.str "great")) evNil))))))))) (evM mIndex (evVar 1) (evCons (evC (.bl true)) evNil)))))))
def zK : Nat → Str := fun c => (["place", "tie", "line", "apart", "cube", "web", "text", "great"] : List Str).getD c "other"
theorem v_kind : ∀ c, c < 8 → ∀ M, runF 2 false (b__law_kind_of c) [.fn 0] M = .ok (.str (zK c)) M := by
  intro c hc M
  have key : runF 2 false (b__law_kind_of c) [.fn 0] M = .ok (.str (zK c)) (M.take M.length) := by
    match c, hc with
    | 0, _ => rfl
    | 1, _ => rfl
    | 2, _ => rfl
    | 3, _ => rfl
    | 4, _ => rfl
    | 5, _ => rfl
    | 6, _ => rfl
    | 7, _ => rfl
  rw [key, List.take_length]
theorem f__law_kind_of {f : Addr} {fd : FuncData} {cdv : Value} (hX : G.xds = []) (Kd : Kinds G.K G.ca 8) (F : DefC G.K mg "_law_kind_of" (topS 36) f fd cdv) (n_Apart : mg "Apart" = some (.ref (G.ca 3))) (n_NoCube : mg "NoCube" = some (.ref (G.ca 4))) (n_NoLine : mg "NoLine" = some (.ref (G.ca 2))) (n_NoPlace : mg "NoPlace" = some (.ref (G.ca 0))) (n_NoText : mg "NoText" = some (.ref (G.ca 6))) (n_NoTie : mg "NoTie" = some (.ref (G.ca 1))) (n_NoWeb : mg "NoWeb" = some (.ref (G.ca 5))) (n_TooGreat : mg "TooGreat" = some (.ref (G.ca 7))) (m_ValueError : mg "ValueError" = none) (m_isinstance : mg "isinstance" = none) : ∀ c, c < 8 → FnE P w G mg base 1 f fd "_law_e" (PhiE G c) (zK c) := fun c hc =>
  fnE_ok (N := N__law_kind_of) (k := 0) F (by decide +kernel) rfl hX (v_kind c hc) (fun A outer s H E p l hΦ hr =>
    (ss_cons (st_set (i := 1) nd__law_kind_of rfl (loc_by rfl) (se_lst (sa_cons (se_bi (call_isX (Kd.is c hc) (List.Mem.head _) hΦ.1 hΦ.2) (sem_isX Kd hc) rfl m_isinstance boot_isinstance (sa_cons (v_ 0 rfl rfl rfl rfl) (sa_cons (g_cls (c := 0) rfl n_NoPlace rfl) sa_nil rfl) rfl) (by decide) rfl rfl rfl) (sa_cons (se_bi (call_isX (Kd.is c hc) (List.Mem.head _) hΦ.1 hΦ.2) (sem_isX Kd hc) rfl m_isinstance boot_isinstance (sa_cons (v_ 0 rfl rfl rfl rfl) (sa_cons (g_cls (c := 1) rfl n_NoTie rfl) sa_nil rfl) rfl) (by decide) rfl rfl rfl) (sa_cons (se_bi (call_isX (Kd.is c hc) (List.Mem.head _) hΦ.1 hΦ.2) (sem_isX Kd hc) rfl m_isinstance boot_isinstance (sa_cons (v_ 0 rfl rfl rfl rfl) (sa_cons (g_cls (c := 2) rfl n_NoLine rfl) sa_nil rfl) rfl) (by decide) rfl rfl rfl) (sa_cons (se_bi (call_isX (Kd.is c hc) (List.Mem.head _) hΦ.1 hΦ.2) (sem_isX Kd hc) rfl m_isinstance boot_isinstance (sa_cons (v_ 0 rfl rfl rfl rfl) (sa_cons (g_cls (c := 3) rfl n_Apart rfl) sa_nil rfl) rfl) (by decide) rfl rfl rfl) sa_nil rfl) rfl) rfl) rfl)) rfl (sto_by rfl)) (ss_cons (st_set (i := 1) nd__law_kind_of rfl (loc_by rfl) (se_bin op_addA sem_add (v_ 1 rfl rfl rfl rfl) (se_lst (sa_cons (se_bi (call_isX (Kd.is c hc) (List.Mem.head _) hΦ.1 hΦ.2) (sem_isX Kd hc) rfl m_isinstance boot_isinstance (sa_cons (v_ 0 rfl rfl rfl rfl) (sa_cons (g_cls (c := 4) rfl n_NoCube rfl) sa_nil rfl) rfl) (by decide) rfl rfl rfl) (sa_cons (se_bi (call_isX (Kd.is c hc) (List.Mem.head _) hΦ.1 hΦ.2) (sem_isX Kd hc) rfl m_isinstance boot_isinstance (sa_cons (v_ 0 rfl rfl rfl rfl) (sa_cons (g_cls (c := 5) rfl n_NoWeb rfl) sa_nil rfl) rfl) (by decide) rfl rfl rfl) (sa_cons (se_bi (call_isX (Kd.is c hc) (List.Mem.head _) hΦ.1 hΦ.2) (sem_isX Kd hc) rfl m_isinstance boot_isinstance (sa_cons (v_ 0 rfl rfl rfl rfl) (sa_cons (g_cls (c := 6) rfl n_NoText rfl) sa_nil rfl) rfl) (by decide) rfl rfl rfl) (sa_cons (se_bi (call_isX (Kd.is c hc) (List.Mem.head _) hΦ.1 hΦ.2) (sem_isX Kd hc) rfl m_isinstance boot_isinstance (sa_cons (v_ 0 rfl rfl rfl rfl) (sa_cons (g_cls (c := 7) rfl n_TooGreat rfl) sa_nil rfl) rfl) (by decide) rfl rfl rfl) sa_nil rfl) rfl) rfl) rfl))) rfl (sto_by rfl)) (ss_cons (st_if (PW.pt (sw_or (st_not (st_tr rfl (se_bi (call_isX (Kd.is c hc) (List.Mem.head _) hΦ.1 hΦ.2) (sem_isX Kd hc) rfl m_isinstance boot_isinstance (sa_cons (v_ 0 rfl rfl rfl rfl) (sa_cons (g_ty rfl m_ValueError (by decide +kernel) (by decide) rfl) sa_nil rfl) rfl) (by decide) rfl rfl rfl) (fun _ => rfl))) (sw_or1 (st_cmp rfl (op_neA hr.u65) sem_ne (sm_bm rfl PySem.F.plainAttrs_list PySem.F.slot_list_count PySem.F.type_list_count (mt_countD hr.u65) sem_count (v_ 1 rfl rfl rfl rfl) (sa_cons k_bl sa_nil rfl) rfl rfl rfl rfl rfl) k_int rfl)))) (ss_one (st_ret k_str)) ss_nil) (ss_one (st_ret (se_ix rfl (se_lst (sa_cons k_str (sa_cons k_str (sa_cons k_str (sa_cons k_str (sa_cons k_str (sa_cons k_str (sa_cons k_str (sa_cons k_str sa_nil rfl) rfl) rfl) rfl) rfl) rfl) rfl) rfl)) (sm_bm rfl PySem.F.plainAttrs_list PySem.F.slot_list_index PySem.F.type_list_index (mt_indexD hr.u65) sem_index (v_ 1 rfl rfl rfl rfl) (sa_cons k_bl sa_nil rfl) rfl rfl rfl rfl rfl) (fun _ _ => rfl))))))))
theorem bi__law_kind_of : BindF "_law_kind_of" (topS 36) ["_law_e"] := fun _ _ _ _ _ _ us hl => match us, hl with | [_], _ => rfl
/-! _law_mixed -/
def N__law_mixed : List Str := ["_law_pen", "_law_some", "_law_left", "_law_found"]
theorem nd__law_mixed : N__law_mixed.Nodup := by decide
def b__law_mixed : Ev → Store → Out := (sSeq (sSet 2 (evN biListN (evCons (evVar 1) evNil))) (sSeq (sSet 3 (evNew evNil)) (sSeq (sWhile 1000 (evTr (ev2 opNe (evVar 2) (evLst evNil))) (sExp (evM mAppend (evVar 3) (evCons (evM mPop (evVar 2) (evCons (evCall d__law_draw (evCons (evVar 0) (evCons (evN biLen (evCons (evVar 2) evNil)) evNil))) evNil)) evNil)))) (sRet (evVar 3)))))
def d__law_mixed : FD := runF 4 false b__law_mixed
theorem f__law_mixed {f : Addr} {fd : FuncData} {cdv : Value}   (F : DefC G.K mg "_law_mixed" (topS 37) f fd cdv) (o__law_draw : Own P w G mg base "_law_draw" 2 2 d__law_draw) (m_len : mg "len" = none) (m_list : mg "list" = none) : FnOk P w G.K mg base (L2N.CX P w) 3 f fd ["_law_pen", "_law_some"] (spF G 2 d__law_mixed) :=
  fnC_ok (N := N__law_mixed) (ps := ["_law_pen", "_law_some"]) (k := 2) F (by decide +kernel) rfl (by decide) (fun A outer s H E hr =>
    (ss_cons (st_set (i := 2) nd__law_mixed rfl (loc_by rfl) (se_ty call_list_of sem_listN rfl m_list boot_list (sa_cons (v_ 1 rfl rfl rfl rfl) sa_nil rfl) (by decide) rfl rfl rfl) rfl (sto_by rfl)) (ss_cons (st_set (i := 3) nd__law_mixed rfl (loc_by rfl) (se_new sa_nil) rfl (sto_by rfl)) (ss_cons (st_while (n := 1000) (passes_of rfl) (st_cmp rfl (op_neA hr.u65) sem_ne (v_ 2 rfl rfl rfl rfl) (se_lst sa_nil) rfl) (ss_one (st_exp (sm_bm rfl PySem.F.plainAttrs_list PySem.F.slot_list_append PySem.F.type_list_append mt_append sem_append (v_ 3 rfl rfl rfl rfl) (sa_cons (sm_bm rfl PySem.F.plainAttrs_list PySem.F.slot_list_pop PySem.F.type_list_pop mt_popAt sem_pop (v_ 2 rfl rfl rfl rfl) (sa_cons (se_own rfl o__law_draw hr (by decide) rfl takesD rfl (len_cons (len_cons len_nil)) (sa_cons (v_ 0 rfl rfl rfl rfl) (sa_cons (se_bi call_lenA sem_len rfl m_len boot_len (sa_cons (v_ 2 rfl rfl rfl rfl) sa_nil rfl) (by decide) rfl rfl rfl) sa_nil rfl) rfl) rfl rfl rfl) sa_nil rfl) rfl rfl rfl rfl rfl) sa_nil rfl) rfl rfl rfl rfl rfl) rfl))) (ss_one (st_ret (v_ 3 rfl rfl rfl rfl)))))))
theorem bi__law_mixed : BindF "_law_mixed" (topS 37) ["_law_pen", "_law_some"] := fun _ _ _ _ _ _ us hl => match us, hl with | [_, _], _ => rfl
/-! _law_web_of -/
def N__law_web_of : List Str := ["_law_many", "_law_ties", "_law_a", "_law_b"]
theorem nd__law_web_of : N__law_web_of.Nodup := by decide
def b__law_web_of : Ev → Store → Out := (sRet (evTup (evCons (evVar 0) (evCons (evN biTuple (evCons (evSSet (evLc (.tp [(.nm 2), (.nm 3)]) [2, 3] (evIter (evVar 1)) evYes (evTup (evCons (evN (biMM minI) (evCons (evVar 2) (evCons (evVar 3) evNil))) (evCons (evN (biMM maxI) (evCons (evVar 2) (evCons (evVar 3) evNil))) evNil))))) evNil)) evNil))))
def d__law_web_of : FD := runF 4 false b__law_web_of
theorem f__law_web_of {f : Addr} {fd : FuncData} {cdv : Value}   (F : DefC G.K mg "_law_web_of" (topS 38) f fd cdv) (m_max : mg "max" = none) (m_min : mg "min" = none) (m_set : mg "set" = none) (m_sorted : mg "sorted" = none) (m_tuple : mg "tuple" = none) : FnOk P w G.K mg base (L2N.CX P w) 1 f fd ["_law_many", "_law_ties"] (spF G 2 d__law_web_of) :=
  fnC_ok (N := N__law_web_of) (ps := ["_law_many", "_law_ties"]) (k := 0) F (by decide +kernel) rfl (by decide) (fun A outer s H E hr =>
    (ss_one (st_ret (se_tup (sa_cons (v_ 0 rfl rfl rfl rfl) (sa_cons (se_ty call_tuple_of sem_tuple rfl m_tuple boot_tuple (sa_cons (se_sortSet rfl rfl hr.u64 rfl m_sorted rfl m_set (se_lc (own := [("_law_a", 2), ("_law_b", 3)]) rfl nd__law_web_of (si_iter rfl (v_ 1 rfl rfl rfl rfl)) (blkOk_by (by kernel_rfl)) (by decide) (fun _ _ _ _ _ => (sg_tup rfl rfl (sgs_cons (sg_name (i := 2) nd__law_web_of rfl (loc_by rfl) (sto_by rfl)) (sgs_cons (sg_name (i := 3) nd__law_web_of rfl (loc_by rfl) (sto_by rfl)) sgs_nil rfl) rfl) rfl rfl rfl)) (fun _ _ _ _ _ => tests_nil) (fun _ _ _ _ _ => (se_tup (sa_cons (se_bi (call_minA rfl) sem_MM rfl m_min boot_min (sa_cons (v_ 2 rfl rfl rfl rfl) (sa_cons (v_ 3 rfl rfl rfl rfl) sa_nil rfl) rfl) (by decide) rfl rfl rfl) (sa_cons (se_bi (call_maxA rfl) sem_MM rfl m_max boot_max (sa_cons (v_ 2 rfl rfl rfl rfl) (sa_cons (v_ 3 rfl rfl rfl rfl) sa_nil rfl) rfl) (by decide) rfl rfl rfl) sa_nil rfl) rfl))) (fun _ => rfl)) rfl rfl rfl rfl) sa_nil rfl) (by decide) rfl rfl rfl) sa_nil rfl) rfl)))))
theorem bi__law_web_of : BindF "_law_web_of" (topS 38) ["_law_many", "_law_ties"] := fun _ _ _ _ _ _ us hl => match us, hl with | [_, _], _ => rfl
/-! _law_unlike -/
def N__law_unlike : List Str := ["_law_one", "_law_other", "_law_at"]
theorem nd__law_unlike : N__law_unlike.Nodup := by decide
def b__law_unlike : Ev → Store → Out := (sRet (evN biLen (evCons (evLc (.nm 2) [2] (evRng rng1 (evCons (evN biLen (evCons (evVar 0) evNil)) evNil)) (evTr (ev2 opNe (ev2 opIx (evVar 0) (evVar 2)) (ev2 opIx (evVar 1) (evVar 2)))) (evVar 2)) evNil)))
def d__law_unlike : FD := runF 3 false b__law_unlike
theorem f__law_unlike {f : Addr} {fd : FuncData} {cdv : Value}   (F : DefC G.K mg "_law_unlike" (topS 39) f fd cdv) (m_len : mg "len" = none) (m_range : mg "range" = none) : FnOk P w G.K mg base (L2N.CX P w) 1 f fd ["_law_one", "_law_other"] (spF G 2 d__law_unlike) :=
  fnC_ok (N := N__law_unlike) (ps := ["_law_one", "_law_other"]) (k := 0) F (by decide +kernel) rfl (by decide) (fun A outer s H E hr =>
    (ss_one (st_ret (se_bi call_lenA sem_len rfl m_len boot_len (sa_cons (se_lc (own := [("_law_at", 2)]) rfl nd__law_unlike (si_range1 rfl m_range (sa_cons (se_bi call_lenA sem_len rfl m_len boot_len (sa_cons (v_ 0 rfl rfl rfl rfl) sa_nil rfl) (by decide) rfl rfl rfl) sa_nil rfl) rfl) (blkOk_by (by kernel_rfl)) (by decide) (fun _ _ _ _ _ => (sg_name (i := 2) nd__law_unlike rfl (loc_by rfl) (sto_by rfl))) (fun _ _ _ _ _ => (tests_one (st_cmp rfl (op_neA hr.u65) sem_ne (se_ix rfl (v_ 0 rfl rfl rfl rfl) (v_ 2 rfl rfl rfl rfl) (fun _ _ => rfl)) (se_ix rfl (v_ 1 rfl rfl rfl rfl) (v_ 2 rfl rfl rfl rfl) (fun _ _ => rfl)) rfl))) (fun _ _ _ _ _ => (v_ 2 rfl rfl rfl rfl)) (fun _ => rfl)) sa_nil rfl) (by decide) rfl rfl rfl))))
theorem bi__law_unlike : BindF "_law_unlike" (topS 39) ["_law_one", "_law_other"] := fun _ _ _ _ _ _ us hl => match us, hl with | [_, _], _ => rfl
/-! _law_web_by -/
def N__law_web_by : List Str := ["_law_rows", "_law_ties", "_law_one", "_law_other"]
theorem nd__law_web_by : N__law_web_by.Nodup := by decide
def b__law_web_by : Ev → Store → Out := (sSeq (sSet 1 (evNew evNil)) (sSeq (sFor (.nm 2) (evRng rng1 (evCons (evN biLen (evCons (evVar 0) evNil)) evNil)) (sExp (evM mExtend (evVar 1) (evCons (evLc (.nm 3) [3] (evRng rng1 (evCons (evVar 2) evNil)) (evTr (ev2 opEq (evCall d__law_unlike (evCons (ev2 opIx (evVar 0) (evVar 2)) (evCons (ev2 opIx (evVar 0) (evVar 3)) evNil))) (evC (.int 1)))) (evTup (evCons (evVar 3) (evCons (evVar 2) evNil)))) evNil)))) (sRet (evCall d__law_web_of (evCons (evN biLen (evCons (evVar 0) evNil)) (evCons (evFrzV 1) evNil))))))
def d__law_web_by : FD := runF 4 false b__law_web_by
theorem f__law_web_by {f : Addr} {fd : FuncData} {cdv : Value}   (F : DefC G.K mg "_law_web_by" (topS 40) f fd cdv) (o__law_unlike : Own P w G mg base "_law_unlike" 1 2 d__law_unlike) (o__law_web_of : Own P w G mg base "_law_web_of" 1 2 d__law_web_of) (m_len : mg "len" = none) (m_range : mg "range" = none) : FnOk P w G.K mg base (L2N.CX P w) 2 f fd ["_law_rows"] (spF G 1 d__law_web_by) :=
  fnC_ok (N := N__law_web_by) (ps := ["_law_rows"]) (k := 1) F (by decide +kernel) rfl (by decide) (fun A outer s H E hr =>
    (ss_cons (st_set (i := 1) nd__law_web_by rfl (loc_by rfl) (se_new sa_nil) rfl (sto_by rfl)) (ss_cons (st_for (passes_of rfl) rfl (si_range1 rfl m_range (sa_cons (se_bi call_lenA sem_len rfl m_len boot_len (sa_cons (v_ 0 rfl rfl rfl rfl) sa_nil rfl) (by decide) rfl rfl rfl) sa_nil rfl) rfl) (sg_name (i := 2) nd__law_web_by rfl (loc_by rfl) (sto_by rfl)) (ss_one (st_exp (sm_bm rfl PySem.F.plainAttrs_list PySem.F.slot_list_extend PySem.F.type_list_extend mt_extend sem_extend (v_ 1 rfl rfl rfl rfl) (sa_cons (se_lc (own := [("_law_other", 3)]) rfl nd__law_web_by (si_range1 rfl m_range (sa_cons (v_ 2 rfl rfl rfl rfl) sa_nil rfl) rfl) (blkOk_by (by kernel_rfl)) (by decide) (fun _ _ _ _ _ => (sg_name (i := 3) nd__law_web_by rfl (loc_by rfl) (sto_by rfl))) (fun _ _ _ _ _ => (tests_one (st_cmp rfl (op_eqA hr.u65) sem_eq (se_own rfl o__law_unlike hr (by decide) rfl tk0 rfl (len_cons (len_cons len_nil)) (sa_cons (se_ix rfl (v_ 0 rfl rfl rfl rfl) (v_ 2 rfl rfl rfl rfl) (fun _ _ => rfl)) (sa_cons (se_ix rfl (v_ 0 rfl rfl rfl rfl) (v_ 3 rfl rfl rfl rfl) (fun _ _ => rfl)) sa_nil rfl) rfl) rfl rfl rfl) k_int rfl))) (fun _ _ _ _ _ => (se_tup (sa_cons (v_ 3 rfl rfl rfl rfl) (sa_cons (v_ 2 rfl rfl rfl rfl) sa_nil rfl) rfl))) (fun _ => rfl)) sa_nil rfl) rfl rfl rfl rfl rfl) rfl)) (fun _ => rfl)) (ss_one (st_ret (se_own rfl o__law_web_of hr (by decide) rfl takesD rfl (len_cons (len_cons len_nil)) (sa_cons (se_bi call_lenA sem_len rfl m_len boot_len (sa_cons (v_ 0 rfl rfl rfl rfl) sa_nil rfl) (by decide) rfl rfl rfl) (sa_cons (vf_ 1 rfl rfl rfl rfl) sa_nil rfl) rfl) rfl rfl rfl))))))
theorem bi__law_web_by : BindF "_law_web_by" (topS 40) ["_law_rows"] := fun _ _ _ _ _ _ us hl => match us, hl with | [_], _ => rfl
/-! _law_lying -/
def N__law_lying : List Str := ["_law_pen", "_law_most", "_law_ring", "_law_wide", "_law_cube", "_law_found", "_law_turned", "_law_order", "_law_row", "_law_kept", "_law_lot", "_law_n", "_law_at", "_law_k", "_law_other"]
theorem nd__law_lying : N__law_lying.Nodup := by decide
def b__law_lying : Ev → Store → Out := (sSeq (sSet 2 (evLst (evCons (evTup (evCons (evC (.int 0)) (evCons (evC (.int 0)) (evCons (evC (.int 0)) evNil)))) (evCons (evTup (evCons (evC (.int 1)) (evCons (evC (.int 0)) (evCons (evC (.int 0)) evNil)))) (evCons (evTup (evCons (evC (.int 1)) (evCons (evC (.int 1)) (evCons (evC (.int 0)) evNil)))) (evCons (evTup (evCons (evC (.int 1)) (evCons (evC (.int 1)) (evCons (evC (.int 1)) evNil)))) (evCons (evTup (evCons (evC (.int 0)) (evCons (evC (.int 1)) (evCons (evC (.int 1)) evNil)))) (evCons (evTup (evCons (evC (.int 0)) (evCons (evC (.int 0)) (evCons (evC (.int 1)) evNil)))) evNil)))))))) (sSeq (sSet 3 (ev2 opAdd (evLc (.nm 13) [13] (evRng rng1 (evCons (evC (.int 4)) evNil)) evYes (ev2 opAdd (ev2 opMulT (evTup (evCons (evC (.int 1)) evNil)) (evVar 13)) (ev2 opMulT (evTup (evCons (evC (.int 0)) evNil)) (ev2 opSub (evC (.int 4)) (evVar 13))))) (evLc (.nm 13) [13] (evRng rng1 (evCons (evC (.int 4)) evNil)) evYes (ev2 opAdd (ev2 opMulT (evTup (evCons (evC (.int 0)) evNil)) (evVar 13)) (ev2 opMulT (evTup (evCons (evC (.int 1)) evNil)) (ev2 opSub (evC (.int 4)) (evVar 13))))))) (sSeq (sSet 4 (evLc (.nm 11) [11] (evRng rng2 (evCons (evC (.int 1)) (evCons (evC (.int 8)) evNil))) evYes (evTup (evCons (ev2 opFdiv (evVar 11) (evC (.int 4))) (evCons (ev2 opMod (ev2 opFdiv (evVar 11) (evC (.int 2))) (evC (.int 2))) (evCons (ev2 opMod (evVar 11) (evC (.int 2))) evNil)))))) (sSeq (sSet 5 (ev2 opIx (evLst (evCons (evLst (evCons (evTup evNil) evNil)) (evCons (evLst (evCons (evTup evNil) evNil)) (evCons (evVar 2) (evCons (evLst (evCons (evTup evNil) evNil)) (evCons (evVar 4) (evCons (evVar 3) (evCons (evVar 2) evNil)))))))) (evCall d__law_draw (evCons (evVar 0) (evCons (evC (.int 7)) evNil))))) (sSeq (sIf (evTr (ev2 opGt (evN biLen (evCons (evVar 5) evNil)) (evVar 1))) (sSet 5 (evLst (evCons (evTup evNil) evNil))) sNop) (sSeq (sWhile 1000 (evAnd (evTr (ev2 opLt (evN biLen (evCons (evVar 5) evNil)) (evVar 1))) (evTr (ev2 opGt (evCall d__law_draw (evCons (evVar 0) (evCons (evC (.int 7)) evNil))) (evC (.int 0))))) (sSeq (sSet 8 (ev2 opIx (evVar 5) (evCall d__law_draw (evCons (evVar 0) (evCons (evN biLen (evCons (evVar 5) evNil)) evNil))))) (sSeq (sSet 9 (evLc (.nm 12) [12] (evRng rng1 (evCons (evN biLen (evCons (evVar 8) evNil)) evNil)) (evTr (ev2 opEq (evCall d__law_draw (evCons (evVar 0) (evCons (evC (.int 2)) evNil))) (evC (.int 0)))) (evVar 12))) (sSeq (sSet 10 (evLc (.nm 14) [14] (evIter (evVar 5)) (evTr (ev2 opEq (evLc (.nm 12) [12] (evIter (evVar 9)) (evTr (ev2 opNe (ev2 opIx (evVar 14) (evVar 12)) (ev2 opIx (evVar 8) (evVar 12)))) (evVar 12)) (evLst evNil))) (evVar 14))) (sSeq (sIf (evTr (ev2 opGt (ev2 opAdd (evN biLen (evCons (evVar 5) evNil)) (evN biLen (evCons (evVar 10) evNil))) (evVar 1))) (sSet 10 (evLst (evCons (evVar 8) evNil))) sNop) (sSet 5 (ev2 opAdd (evLc (.nm 14) [14] (evIter (evVar 5)) evYes (ev2 opAdd (evTup (evCons (evC (.int 0)) evNil)) (evVar 14))) (evLc (.nm 14) [14] (evIter (evVar 10)) evYes (ev2 opAdd (evTup (evCons (evC (.int 1)) evNil)) (evVar 14)))))))))) (sSeq (sSet 6 (evLc (.nm 12) [12] (evRng rng1 (evCons (evN biLen (evCons (ev2 opIx (evVar 5) (evC (.int 0))) evNil)) evNil)) evYes (evCall d__law_draw (evCons (evVar 0) (evCons (evC (.int 2)) evNil))))) (sSeq (sSet 7 (evCall d__law_mixed (evCons (evVar 0) (evCons (evLR (evN biLen (evCons (evVar 6) evNil))) evNil)))) (sRet (evLc (.nm 8) [8] (evIter (evCall d__law_mixed (evCons (evVar 0) (evCons (evVar 5) evNil)))) evYes (evN biTuple (evCons (evLc (.nm 12) [12] (evIter (evVar 7)) evYes (evN biAbs (evCons (ev2 opSub (ev2 opIx (evVar 8) (evVar 12)) (ev2 opIx (evVar 6) (evVar 12))) evNil))) evNil))))))))))))
def d__law_lying : FD := runF 15 false b__law_lying
theorem f__law_lying {f : Addr} {fd : FuncData} {cdv : Value}   (F : DefC G.K mg "_law_lying" (topS 41) f fd cdv) (o__law_draw : Own P w G mg base "_law_draw" 2 2 d__law_draw) (o__law_mixed : Own P w G mg base "_law_mixed" 3 2 d__law_mixed) (m_abs : mg "abs" = none) (m_len : mg "len" = none) (m_list : mg "list" = none) (m_range : mg "range" = none) (m_tuple : mg "tuple" = none) : FnOk P w G.K mg base (L2N.CX P w) 4 f fd ["_law_pen", "_law_most"] (spF G 2 d__law_lying) :=
  fnC_ok (N := N__law_lying) (ps := ["_law_pen", "_law_most"]) (k := 3) F (by decide +kernel) rfl (by decide) (fun A outer s H E hr =>
    (ss_cons (st_set (i := 2) nd__law_lying rfl (loc_by rfl) (se_lst (sa_cons (se_tup (sa_cons k_int (sa_cons k_int (sa_cons k_int sa_nil rfl) rfl) rfl)) (sa_cons (se_tup (sa_cons k_int (sa_cons k_int (sa_cons k_int sa_nil rfl) rfl) rfl)) (sa_cons (se_tup (sa_cons k_int (sa_cons k_int (sa_cons k_int sa_nil rfl) rfl) rfl)) (sa_cons (se_tup (sa_cons k_int (sa_cons k_int (sa_cons k_int sa_nil rfl) rfl) rfl)) (sa_cons (se_tup (sa_cons k_int (sa_cons k_int (sa_cons k_int sa_nil rfl) rfl) rfl)) (sa_cons (se_tup (sa_cons k_int (sa_cons k_int (sa_cons k_int sa_nil rfl) rfl) rfl)) sa_nil rfl) rfl) rfl) rfl) rfl) rfl)) rfl (sto_by rfl)) (ss_cons (st_set (i := 3) nd__law_lying rfl (loc_by rfl) (se_bin op_addA sem_add (se_lc (own := [("_law_k", 13)]) rfl nd__law_lying (si_range1 rfl m_range (sa_cons k_int sa_nil rfl) rfl) (blkOk_by (by kernel_rfl)) (by decide) (fun _ _ _ _ _ => (sg_name (i := 13) nd__law_lying rfl (loc_by rfl) (sto_by rfl))) (fun _ _ _ _ _ => tests_nil) (fun _ _ _ _ _ => (se_bin op_addA sem_add (se_bin op_mulT sem_mulT (se_tup (sa_cons k_int sa_nil rfl)) (v_ 13 rfl rfl rfl rfl)) (se_bin op_mulT sem_mulT (se_tup (sa_cons k_int sa_nil rfl)) (se_bin (rI_of op_sub) sem_II k_int (v_ 13 rfl rfl rfl rfl))))) (fun _ => rfl)) (se_lc (own := [("_law_k", 13)]) rfl nd__law_lying (si_range1 rfl m_range (sa_cons k_int sa_nil rfl) rfl) (blkOk_by (by kernel_rfl)) (by decide) (fun _ _ _ _ _ => (sg_name (i := 13) nd__law_lying rfl (loc_by rfl) (sto_by rfl))) (fun _ _ _ _ _ => tests_nil) (fun _ _ _ _ _ => (se_bin op_addA sem_add (se_bin op_mulT sem_mulT (se_tup (sa_cons k_int sa_nil rfl)) (v_ 13 rfl rfl rfl rfl)) (se_bin op_mulT sem_mulT (se_tup (sa_cons k_int sa_nil rfl)) (se_bin (rI_of op_sub) sem_II k_int (v_ 13 rfl rfl rfl rfl))))) (fun _ => rfl))) rfl (sto_by rfl)) (ss_cons (by first | exact (st_setLc (i := 4) (own := [("_law_n", 11)]) rfl nd__law_lying rfl rfl rfl (si_range2 rfl m_range (sa_cons k_int (sa_cons k_int sa_nil rfl) rfl) rfl rfl) (blkOk_by (by kernel_rfl)) (by decide) (fun _ _ _ _ _ => (sg_name (i := 11) nd__law_lying rfl (loc_by rfl) (sto_by rfl))) (fun _ _ _ _ _ => tests_nil) (fun _ _ _ _ _ => (se_tup (sa_cons (se_bin op_fdiv sem_II (v_ 11 rfl rfl rfl rfl) k_int) (sa_cons (se_bin op_mod sem_II (se_bin op_fdiv sem_II (v_ 11 rfl rfl rfl rfl) k_int) k_int) (sa_cons (se_bin op_mod sem_II (v_ 11 rfl rfl rfl rfl) k_int) sa_nil rfl) rfl) rfl))) (fun _ => rfl)) | exact (st_set (i := 4) nd__law_lying rfl (loc_by rfl) (se_lc (own := [("_law_n", 11)]) rfl nd__law_lying (si_range2 rfl m_range (sa_cons k_int (sa_cons k_int sa_nil rfl) rfl) rfl rfl) (blkOk_by (by kernel_rfl)) (by decide) (fun _ _ _ _ _ => (sg_name (i := 11) nd__law_lying rfl (loc_by rfl) (sto_by rfl))) (fun _ _ _ _ _ => tests_nil) (fun _ _ _ _ _ => (se_tup (sa_cons (se_bin op_fdiv sem_II (v_ 11 rfl rfl rfl rfl) k_int) (sa_cons (se_bin op_mod sem_II (se_bin op_fdiv sem_II (v_ 11 rfl rfl rfl rfl) k_int) k_int) (sa_cons (se_bin op_mod sem_II (v_ 11 rfl rfl rfl rfl) k_int) sa_nil rfl) rfl) rfl))) (fun _ => rfl)) rfl (sto_by rfl))) (ss_cons (st_set (i := 5) nd__law_lying rfl (loc_by rfl) (se_ix rfl (se_lst (sa_cons (se_lst (sa_cons (se_tup sa_nil) sa_nil rfl)) (sa_cons (se_lst (sa_cons (se_tup sa_nil) sa_nil rfl)) (sa_cons (v_ 2 rfl rfl rfl rfl) (sa_cons (se_lst (sa_cons (se_tup sa_nil) sa_nil rfl)) (sa_cons (v_ 4 rfl rfl rfl rfl) (sa_cons (v_ 3 rfl rfl rfl rfl) (sa_cons (v_ 2 rfl rfl rfl rfl) sa_nil rfl) rfl) rfl) rfl) rfl) rfl) rfl)) (se_own rfl o__law_draw hr (by decide) rfl takesD rfl (len_cons (len_cons len_nil)) (sa_cons (v_ 0 rfl rfl rfl rfl) (sa_cons k_int sa_nil rfl) rfl) rfl rfl rfl) (fun _ _ => rfl)) rfl (sto_by rfl)) (ss_cons (st_if (st_cmp rfl op_gtA sem_ord (se_bi call_lenA sem_len rfl m_len boot_len (sa_cons (v_ 5 rfl rfl rfl rfl) sa_nil rfl) (by decide) rfl rfl rfl) (v_ 1 rfl rfl rfl rfl) rfl) (ss_one (st_set (i := 5) nd__law_lying rfl (loc_by rfl) (se_lst (sa_cons (se_tup sa_nil) sa_nil rfl)) rfl (sto_by rfl))) ss_nil) (ss_cons (st_while (n := 1000) (passes_of rfl) (PW.pt (sw_and (st_cmp rfl (op_ltA hr.u0) sem_ord (se_bi call_lenA sem_len rfl m_len boot_len (sa_cons (v_ 5 rfl rfl rfl rfl) sa_nil rfl) (by decide) rfl rfl rfl) (v_ 1 rfl rfl rfl rfl) rfl) (sw_and1 (st_cmp rfl op_gtA sem_ord (se_own rfl o__law_draw hr (by decide) rfl takesD rfl (len_cons (len_cons len_nil)) (sa_cons (v_ 0 rfl rfl rfl rfl) (sa_cons k_int sa_nil rfl) rfl) rfl rfl rfl) k_int rfl)))) (ss_cons (st_set (i := 8) nd__law_lying rfl (loc_by rfl) (se_ix rfl (v_ 5 rfl rfl rfl rfl) (se_own rfl o__law_draw hr (by decide) rfl takesD rfl (len_cons (len_cons len_nil)) (sa_cons (v_ 0 rfl rfl rfl rfl) (sa_cons (se_bi call_lenA sem_len rfl m_len boot_len (sa_cons (v_ 5 rfl rfl rfl rfl) sa_nil rfl) (by decide) rfl rfl rfl) sa_nil rfl) rfl) rfl rfl rfl) (fun _ _ => rfl)) rfl (sto_by rfl)) (ss_cons (by first | exact (st_setLc (i := 9) (own := [("_law_at", 12)]) rfl nd__law_lying rfl rfl rfl (si_range1 rfl m_range (sa_cons (se_bi call_lenA sem_len rfl m_len boot_len (sa_cons (v_ 8 rfl rfl rfl rfl) sa_nil rfl) (by decide) rfl rfl rfl) sa_nil rfl) rfl) (blkOk_by (by kernel_rfl)) (by decide) (fun _ _ _ _ _ => (sg_name (i := 12) nd__law_lying rfl (loc_by rfl) (sto_by rfl))) (fun _ _ _ _ _ => (tests_one (st_cmp rfl (op_eqA hr.u65) sem_eq (se_own rfl o__law_draw hr (by decide) rfl tk0 rfl (len_cons (len_cons len_nil)) (sa_cons (v_ 0 rfl rfl rfl rfl) (sa_cons k_int sa_nil rfl) rfl) rfl rfl rfl) k_int rfl))) (fun _ _ _ _ _ => (v_ 12 rfl rfl rfl rfl)) (fun _ => rfl)) | exact (st_set (i := 9) nd__law_lying rfl (loc_by rfl) (se_lc (own := [("_law_at", 12)]) rfl nd__law_lying (si_range1 rfl m_range (sa_cons (se_bi call_lenA sem_len rfl m_len boot_len (sa_cons (v_ 8 rfl rfl rfl rfl) sa_nil rfl) (by decide) rfl rfl rfl) sa_nil rfl) rfl) (blkOk_by (by kernel_rfl)) (by decide) (fun _ _ _ _ _ => (sg_name (i := 12) nd__law_lying rfl (loc_by rfl) (sto_by rfl))) (fun _ _ _ _ _ => (tests_one (st_cmp rfl (op_eqA hr.u65) sem_eq (se_own rfl o__law_draw hr (by decide) rfl tk0 rfl (len_cons (len_cons len_nil)) (sa_cons (v_ 0 rfl rfl rfl rfl) (sa_cons k_int sa_nil rfl) rfl) rfl rfl rfl) k_int rfl))) (fun _ _ _ _ _ => (v_ 12 rfl rfl rfl rfl)) (fun _ => rfl)) rfl (sto_by rfl))) (ss_cons (by first | exact (st_setLc (i := 10) (own := [("_law_other", 14)]) rfl nd__law_lying rfl rfl rfl (si_iter rfl (v_ 5 rfl rfl rfl rfl)) (blkOk_by (by kernel_rfl)) (by decide) (fun _ _ _ _ _ => (sg_name (i := 14) nd__law_lying rfl (loc_by rfl) (sto_by rfl))) (fun _ _ _ _ _ => (tests_one (st_cmp rfl (op_eqA hr.u65) sem_eq (se_lc (own := [("_law_at", 12)]) rfl nd__law_lying (si_iter rfl (v_ 9 rfl rfl rfl rfl)) (blkOk_by (by kernel_rfl)) (by decide) (fun _ _ _ _ _ => (sg_name (i := 12) nd__law_lying rfl (loc_by rfl) (sto_by rfl))) (fun _ _ _ _ _ => (tests_one (st_cmp rfl (op_neA hr.u65) sem_ne (se_ix rfl (v_ 14 rfl rfl rfl rfl) (v_ 12 rfl rfl rfl rfl) (fun _ _ => rfl)) (se_ix rfl (v_ 8 rfl rfl rfl rfl) (v_ 12 rfl rfl rfl rfl) (fun _ _ => rfl)) rfl))) (fun _ _ _ _ _ => (v_ 12 rfl rfl rfl rfl)) (fun _ => rfl)) (se_lst sa_nil) rfl))) (fun _ _ _ _ _ => (v_ 14 rfl rfl rfl rfl)) (fun _ => rfl)) | exact (st_set (i := 10) nd__law_lying rfl (loc_by rfl) (se_lc (own := [("_law_other", 14)]) rfl nd__law_lying (si_iter rfl (v_ 5 rfl rfl rfl rfl)) (blkOk_by (by kernel_rfl)) (by decide) (fun _ _ _ _ _ => (sg_name (i := 14) nd__law_lying rfl (loc_by rfl) (sto_by rfl))) (fun _ _ _ _ _ => (tests_one (st_cmp rfl (op_eqA hr.u65) sem_eq (se_lc (own := [("_law_at", 12)]) rfl nd__law_lying (si_iter rfl (v_ 9 rfl rfl rfl rfl)) (blkOk_by (by kernel_rfl)) (by decide) (fun _ _ _ _ _ => (sg_name (i := 12) nd__law_lying rfl (loc_by rfl) (sto_by rfl))) (fun _ _ _ _ _ => (tests_one (st_cmp rfl (op_neA hr.u65) sem_ne (se_ix rfl (v_ 14 rfl rfl rfl rfl) (v_ 12 rfl rfl rfl rfl) (fun _ _ => rfl)) (se_ix rfl (v_ 8 rfl rfl rfl rfl) (v_ 12 rfl rfl rfl rfl) (fun _ _ => rfl)) rfl))) (fun _ _ _ _ _ => (v_ 12 rfl rfl rfl rfl)) (fun _ => rfl)) (se_lst sa_nil) rfl))) (fun _ _ _ _ _ => (v_ 14 rfl rfl rfl rfl)) (fun _ => rfl)) rfl (sto_by rfl))) (ss_cons (st_if (st_cmp rfl op_gtA sem_ord (se_bin op_addA sem_add (se_bi call_lenA sem_len rfl m_len boot_len (sa_cons (v_ 5 rfl rfl rfl rfl) sa_nil rfl) (by decide) rfl rfl rfl) (se_bi call_lenA sem_len rfl m_len boot_len (sa_cons (v_ 10 rfl rfl rfl rfl) sa_nil rfl) (by decide) rfl rfl rfl)) (v_ 1 rfl rfl rfl rfl) rfl) (ss_one (st_set (i := 10) nd__law_lying rfl (loc_by rfl) (se_lst (sa_cons (v_ 8 rfl rfl rfl rfl) sa_nil rfl)) rfl (sto_by rfl))) ss_nil) (ss_one (st_set (i := 5) nd__law_lying rfl (loc_by rfl) (se_bin op_addA sem_add (se_lc (own := [("_law_other", 14)]) rfl nd__law_lying (si_iter rfl (v_ 5 rfl rfl rfl rfl)) (blkOk_by (by kernel_rfl)) (by decide) (fun _ _ _ _ _ => (sg_name (i := 14) nd__law_lying rfl (loc_by rfl) (sto_by rfl))) (fun _ _ _ _ _ => tests_nil) (fun _ _ _ _ _ => (se_bin op_addA sem_add (se_tup (sa_cons k_int sa_nil rfl)) (v_ 14 rfl rfl rfl rfl))) (fun _ => rfl)) (se_lc (own := [("_law_other", 14)]) rfl nd__law_lying (si_iter rfl (v_ 10 rfl rfl rfl rfl)) (blkOk_by (by kernel_rfl)) (by decide) (fun _ _ _ _ _ => (sg_name (i := 14) nd__law_lying rfl (loc_by rfl) (sto_by rfl))) (fun _ _ _ _ _ => tests_nil) (fun _ _ _ _ _ => (se_bin op_addA sem_add (se_tup (sa_cons k_int sa_nil rfl)) (v_ 14 rfl rfl rfl rfl))) (fun _ => rfl))) rfl (sto_by rfl)))))))) (ss_cons (by first | exact (st_setLc (i := 6) (own := [("_law_at", 12)]) rfl nd__law_lying rfl rfl rfl (si_range1 rfl m_range (sa_cons (se_bi call_lenA sem_len rfl m_len boot_len (sa_cons (se_ix rfl (v_ 5 rfl rfl rfl rfl) k_int (fun _ _ => rfl)) sa_nil rfl) (by decide) rfl rfl rfl) sa_nil rfl) rfl) (blkOk_by (by kernel_rfl)) (by decide) (fun _ _ _ _ _ => (sg_name (i := 12) nd__law_lying rfl (loc_by rfl) (sto_by rfl))) (fun _ _ _ _ _ => tests_nil) (fun _ _ _ _ _ => (se_own rfl o__law_draw hr (by decide) rfl tk0 rfl (len_cons (len_cons len_nil)) (sa_cons (v_ 0 rfl rfl rfl rfl) (sa_cons k_int sa_nil rfl) rfl) rfl rfl rfl)) (fun _ => rfl)) | exact (st_set (i := 6) nd__law_lying rfl (loc_by rfl) (se_lc (own := [("_law_at", 12)]) rfl nd__law_lying (si_range1 rfl m_range (sa_cons (se_bi call_lenA sem_len rfl m_len boot_len (sa_cons (se_ix rfl (v_ 5 rfl rfl rfl rfl) k_int (fun _ _ => rfl)) sa_nil rfl) (by decide) rfl rfl rfl) sa_nil rfl) rfl) (blkOk_by (by kernel_rfl)) (by decide) (fun _ _ _ _ _ => (sg_name (i := 12) nd__law_lying rfl (loc_by rfl) (sto_by rfl))) (fun _ _ _ _ _ => tests_nil) (fun _ _ _ _ _ => (se_own rfl o__law_draw hr (by decide) rfl tk0 rfl (len_cons (len_cons len_nil)) (sa_cons (v_ 0 rfl rfl rfl rfl) (sa_cons k_int sa_nil rfl) rfl) rfl rfl rfl)) (fun _ => rfl)) rfl (sto_by rfl))) (ss_cons (st_set (i := 7) nd__law_lying rfl (loc_by rfl) (se_own rfl o__law_mixed hr (by decide) rfl takesD rfl (len_cons (len_cons len_nil)) (sa_cons (v_ 0 rfl rfl rfl rfl) (sa_cons (se_LR rfl rfl m_list rfl m_range (se_bi call_lenA sem_len rfl m_len boot_len (sa_cons (v_ 6 rfl rfl rfl rfl) sa_nil rfl) (by decide) rfl rfl rfl) rfl rfl) sa_nil rfl) rfl) rfl rfl rfl) rfl (sto_by rfl)) (ss_one (st_ret (se_lc (own := [("_law_row", 8)]) rfl nd__law_lying (si_iter rfl (se_own rfl o__law_mixed hr (by decide) rfl takesD rfl (len_cons (len_cons len_nil)) (sa_cons (v_ 0 rfl rfl rfl rfl) (sa_cons (v_ 5 rfl rfl rfl rfl) sa_nil rfl) rfl) rfl rfl rfl)) (blkOk_by (by kernel_rfl)) (by decide) (fun _ _ _ _ _ => (sg_name (i := 8) nd__law_lying rfl (loc_by rfl) (sto_by rfl))) (fun _ _ _ _ _ => tests_nil) (fun _ _ _ _ _ => (se_ty call_tuple_of sem_tuple rfl m_tuple boot_tuple (sa_cons (se_lc (own := [("_law_at", 12)]) rfl nd__law_lying (si_iter rfl (v_ 7 rfl rfl rfl rfl)) (blkOk_by (by kernel_rfl)) (by decide) (fun _ _ _ _ _ => (sg_name (i := 12) nd__law_lying rfl (loc_by rfl) (sto_by rfl))) (fun _ _ _ _ _ => tests_nil) (fun _ _ _ _ _ => (se_bi call_abs sem_abs rfl m_abs boot_abs (sa_cons (se_bin (rI_of op_sub) sem_II (se_ix rfl (v_ 8 rfl rfl rfl rfl) (v_ 12 rfl rfl rfl rfl) (fun _ _ => rfl)) (se_ix rfl (v_ 6 rfl rfl rfl rfl) (v_ 12 rfl rfl rfl rfl) (fun _ _ => rfl))) sa_nil rfl) (by decide) rfl rfl rfl)) (fun _ => rfl)) sa_nil rfl) (by decide) rfl rfl rfl)) (fun _ => rfl)))))))))))))
theorem bi__law_lying : BindF "_law_lying" (topS 41) ["_law_pen", "_law_most"] := fun _ _ _ _ _ _ us hl => match us, hl with | [_, _], _ => rfl
/-! _law_joined_web -/
def N__law_joined_web : List Str := ["_law_pen", "_law_way", "_law_many", "_law_names", "_law_sides", "_law_ties", "_law_place", "_law_one", "_law_other"]
theorem nd__law_joined_web : N__law_joined_web.Nodup := by decide
def b__law_joined_web : Ev → Store → Out := (sSeq (sSet 1 (evCall d__law_draw (evCons (evVar 0) (evCons (evC (.int 7)) evNil)))) (sSeq (sIf (evTr (ev2 opLt (evVar 1) (evC (.int 3)))) (sRet (evCall d__law_web_by (evCons (evCall d__law_lying (evCons (evVar 0) (evCons (evC (.int 8)) evNil))) evNil))) sNop) (sSeq (sSet 2 (ev2 opAdd (evC (.int 1)) (evCall d__law_draw (evCons (evVar 0) (evCons (evC (.int 8)) evNil))))) (sSeq (sSet 3 (evCall d__law_mixed (evCons (evVar 0) (evCons (evLR (evVar 2)) evNil)))) (sSeq (sSet 4 (ev2 opMulN (evLst (evCons (evC (.int 0)) evNil)) (evVar 2))) (sSeq (sSet 5 (evNew evNil)) (sSeq (sFor (.nm 6) (evRng rng2 (evCons (evC (.int 1)) (evCons (evVar 2) evNil))) (sSeq (sSet 8 (evCall d__law_draw (evCons (evVar 0) (evCons (evVar 6) evNil)))) (sSeq (sSub (evVar 4) (evVar 6) (ev2 opSub (evC (.int 1)) (ev2 opIx (evVar 4) (evVar 8)))) (sExp (evM mAppend (evVar 5) (evCons (evTup (evCons (ev2 opIx (evVar 3) (evVar 8)) (evCons (ev2 opIx (evVar 3) (evVar 6)) evNil))) evNil)))))) (sSeq (sFor (.nm 7) (evRng rng1 (evCons (evVar 2) evNil)) (sFor (.nm 8) (evRng rng1 (evCons (evVar 7) evNil)) (sIf (evAnd (evOr (evTr (ev2 opGt (evVar 1) (evC (.int 4)))) (evTr (ev2 opNe (ev2 opIx (evVar 4) (evVar 7)) (ev2 opIx (evVar 4) (evVar 8))))) (evTr (ev2 opEq (evCall d__law_draw (evCons (evVar 0) (evCons (evC (.int 3)) evNil))) (evC (.int 0))))) (sExp (evM mAppend (evVar 5) (evCons (evTup (evCons (ev2 opIx (evVar 3) (evVar 7)) (evCons (ev2 opIx (evVar 3) (evVar 8)) evNil))) evNil))) sNop))) (sRet (evCall d__law_web_of (evCons (evVar 2) (evCons (evFrzV 5) evNil))))))))))))
def d__law_joined_web : FD := runF 9 false b__law_joined_web
theorem f__law_joined_web {f : Addr} {fd : FuncData} {cdv : Value}   (F : DefC G.K mg "_law_joined_web" (topS 42) f fd cdv) (o__law_draw : Own P w G mg base "_law_draw" 2 2 d__law_draw) (o__law_web_by : Own P w G mg base "_law_web_by" 2 1 d__law_web_by) (o__law_lying : Own P w G mg base "_law_lying" 4 2 d__law_lying) (o__law_mixed : Own P w G mg base "_law_mixed" 3 2 d__law_mixed) (o__law_web_of : Own P w G mg base "_law_web_of" 1 2 d__law_web_of) (m_list : mg "list" = none) (m_range : mg "range" = none) : FnOk P w G.K mg base (L2N.CX P w) 5 f fd ["_law_pen"] (spF G 1 d__law_joined_web) :=
  fnC_ok (N := N__law_joined_web) (ps := ["_law_pen"]) (k := 4) F (by decide +kernel) rfl (by decide) (fun A outer s H E hr =>
    (ss_cons (st_set (i := 1) nd__law_joined_web rfl (loc_by rfl) (se_own rfl o__law_draw hr (by decide) rfl takesD rfl (len_cons (len_cons len_nil)) (sa_cons (v_ 0 rfl rfl rfl rfl) (sa_cons k_int sa_nil rfl) rfl) rfl rfl rfl) rfl (sto_by rfl)) (ss_cons (st_if (st_cmp rfl (op_ltA hr.u0) sem_ord (v_ 1 rfl rfl rfl rfl) k_int rfl) (ss_one (st_ret (se_own rfl o__law_web_by hr (by decide) rfl takesD rfl (len_cons len_nil) (sa_cons (se_own rfl o__law_lying hr (by decide) rfl takesD rfl (len_cons (len_cons len_nil)) (sa_cons (v_ 0 rfl rfl rfl rfl) (sa_cons k_int sa_nil rfl) rfl) rfl rfl rfl) sa_nil rfl) rfl rfl rfl))) ss_nil) (ss_cons (st_set (i := 2) nd__law_joined_web rfl (loc_by rfl) (se_bin op_addA sem_add k_int (se_own rfl o__law_draw hr (by decide) rfl takesD rfl (len_cons (len_cons len_nil)) (sa_cons (v_ 0 rfl rfl rfl rfl) (sa_cons k_int sa_nil rfl) rfl) rfl rfl rfl)) rfl (sto_by rfl)) (ss_cons (st_set (i := 3) nd__law_joined_web rfl (loc_by rfl) (se_own rfl o__law_mixed hr (by decide) rfl takesD rfl (len_cons (len_cons len_nil)) (sa_cons (v_ 0 rfl rfl rfl rfl) (sa_cons (se_LR rfl rfl m_list rfl m_range (v_ 2 rfl rfl rfl rfl) rfl rfl) sa_nil rfl) rfl) rfl rfl rfl) rfl (sto_by rfl)) (ss_cons (st_set (i := 4) nd__law_joined_web rfl (loc_by rfl) (se_bin op_rep sem_mulN (se_lst (sa_cons k_int sa_nil rfl)) (v_ 2 rfl rfl rfl rfl)) rfl (sto_by rfl)) (ss_cons (st_set (i := 5) nd__law_joined_web rfl (loc_by rfl) (se_new sa_nil) rfl (sto_by rfl)) (ss_cons (st_for (passes_of rfl) rfl (si_range2 rfl m_range (sa_cons k_int (sa_cons (v_ 2 rfl rfl rfl rfl) sa_nil rfl) rfl) rfl rfl) (sg_name (i := 6) nd__law_joined_web rfl (loc_by rfl) (sto_by rfl)) (ss_cons (st_set (i := 8) nd__law_joined_web rfl (loc_by rfl) (se_own rfl o__law_draw hr (by decide) rfl takesD rfl (len_cons (len_cons len_nil)) (sa_cons (v_ 0 rfl rfl rfl rfl) (sa_cons (v_ 6 rfl rfl rfl rfl) sa_nil rfl) rfl) rfl rfl rfl) rfl (sto_by rfl)) (ss_cons (st_sub (v_ 4 rfl rfl rfl rfl) (v_ 6 rfl rfl rfl rfl) (se_bin (rI_of op_sub) sem_II k_int (se_ix rfl (v_ 4 rfl rfl rfl rfl) (v_ 8 rfl rfl rfl rfl) (fun _ _ => rfl))) rfl rfl (fun _ => rfl) rfl) (ss_one (st_exp (sm_bm rfl PySem.F.plainAttrs_list PySem.F.slot_list_append PySem.F.type_list_append mt_append sem_append (v_ 5 rfl rfl rfl rfl) (sa_cons (se_tup (sa_cons (se_ix rfl (v_ 3 rfl rfl rfl rfl) (v_ 8 rfl rfl rfl rfl) (fun _ _ => rfl)) (sa_cons (se_ix rfl (v_ 3 rfl rfl rfl rfl) (v_ 6 rfl rfl rfl rfl) (fun _ _ => rfl)) sa_nil rfl) rfl)) sa_nil rfl) rfl rfl rfl rfl rfl) rfl)))) (fun _ => rfl)) (ss_cons (st_for (passes_of rfl) rfl (si_range1 rfl m_range (sa_cons (v_ 2 rfl rfl rfl rfl) sa_nil rfl) rfl) (sg_name (i := 7) nd__law_joined_web rfl (loc_by rfl) (sto_by rfl)) (ss_one (st_for (passes_of rfl) rfl (si_range1 rfl m_range (sa_cons (v_ 7 rfl rfl rfl rfl) sa_nil rfl) rfl) (sg_name (i := 8) nd__law_joined_web rfl (loc_by rfl) (sto_by rfl)) (ss_one (st_if (PW.pt (sw_and (PW.pt (sw_or (st_cmp rfl op_gtA sem_ord (v_ 1 rfl rfl rfl rfl) k_int rfl) (sw_or1 (st_cmp rfl (op_neA hr.u65) sem_ne (se_ix rfl (v_ 4 rfl rfl rfl rfl) (v_ 7 rfl rfl rfl rfl) (fun _ _ => rfl)) (se_ix rfl (v_ 4 rfl rfl rfl rfl) (v_ 8 rfl rfl rfl rfl) (fun _ _ => rfl)) rfl)))) (sw_and1 (st_cmp rfl (op_eqA hr.u65) sem_eq (se_own rfl o__law_draw hr (by decide) rfl takesD rfl (len_cons (len_cons len_nil)) (sa_cons (v_ 0 rfl rfl rfl rfl) (sa_cons k_int sa_nil rfl) rfl) rfl rfl rfl) k_int rfl)))) (ss_one (st_exp (sm_bm rfl PySem.F.plainAttrs_list PySem.F.slot_list_append PySem.F.type_list_append mt_append sem_append (v_ 5 rfl rfl rfl rfl) (sa_cons (se_tup (sa_cons (se_ix rfl (v_ 3 rfl rfl rfl rfl) (v_ 7 rfl rfl rfl rfl) (fun _ _ => rfl)) (sa_cons (se_ix rfl (v_ 3 rfl rfl rfl rfl) (v_ 8 rfl rfl rfl rfl) (fun _ _ => rfl)) sa_nil rfl) rfl)) sa_nil rfl) rfl rfl rfl rfl rfl) rfl)) ss_nil)) (fun _ => rfl))) (fun _ => rfl)) (ss_one (st_ret (se_own rfl o__law_web_of hr (by decide) rfl takesD rfl (len_cons (len_cons len_nil)) (sa_cons (v_ 2 rfl rfl rfl rfl) (sa_cons (vf_ 5 rfl rfl rfl rfl) sa_nil rfl) rfl) rfl rfl rfl))))))))))))
theorem bi__law_joined_web : BindF "_law_joined_web" (topS 42) ["_law_pen"] := fun _ _ _ _ _ _ us hl => match us, hl with | [_], _ => rfl
/-! _law_fars -/
def N__law_fars : List Str := ["_law_web", "_law_far", "_law_a", "_law_b", "_law_k"]
theorem nd__law_fars : N__law_fars.Nodup := by decide
def b__law_fars : Ev → Store → Out := (sSeq (sSet 1 (evLc (.nm 2) [2] (evRng rng1 (evCons (ev2 opIx (evVar 0) (evC (.int 0))) evNil)) evYes (evLcN (.nm 3) [3] (evRng rng1 (evCons (ev2 opIx (evVar 0) (evC (.int 0))) evNil)) evYes (ev2 opMul (evC (.int 99)) (evN biInt (evCons (ev2 opNe (evVar 2) (evVar 3)) evNil)))))) (sSeq (sFor (.tp [(.nm 2), (.nm 3)]) (evIter (ev2 opIx (evVar 0) (evC (.int 1)))) (sSeq (sSub (ev2 opIx (evVar 1) (evVar 2)) (evVar 3) (evC (.int 1))) (sSub (ev2 opIx (evVar 1) (evVar 3)) (evVar 2) (evC (.int 1))))) (sSeq (sFor (.nm 4) (evRng rng1 (evCons (ev2 opIx (evVar 0) (evC (.int 0))) evNil)) (sFor (.nm 2) (evRng rng1 (evCons (ev2 opIx (evVar 0) (evC (.int 0))) evNil)) (sFor (.nm 3) (evRng rng1 (evCons (ev2 opIx (evVar 0) (evC (.int 0))) evNil)) (sSub (ev2 opIx (evVar 1) (evVar 2)) (evVar 3) (evN (biMM minI) (evCons (ev2 opIx (ev2 opIx (evVar 1) (evVar 2)) (evVar 3)) (evCons (ev2 opAdd (ev2 opIx (ev2 opIx (evVar 1) (evVar 2)) (evVar 4)) (ev2 opIx (ev2 opIx (evVar 1) (evVar 4)) (evVar 3))) evNil))))))) (sRet (evVar 1)))))
def d__law_fars : FD := runF 5 false b__law_fars
theorem f__law_fars {f : Addr} {fd : FuncData} {cdv : Value}   (F : DefC G.K mg "_law_fars" (topS 43) f fd cdv) (m_int : mg "int" = none) (m_min : mg "min" = none) (m_range : mg "range" = none) : FnOk P w G.K mg base (L2N.CX P w) 1 f fd ["_law_web"] (spF G 1 d__law_fars) :=
  fnC_ok (N := N__law_fars) (ps := ["_law_web"]) (k := 0) F (by decide +kernel) rfl (by decide) (fun A outer s H E hr =>
    (ss_cons (by first | exact (st_setLc (i := 1) (own := [("_law_a", 2)]) rfl nd__law_fars rfl rfl rfl (si_range1 rfl m_range (sa_cons (se_ix rfl (v_ 0 rfl rfl rfl rfl) k_int (fun _ _ => rfl)) sa_nil rfl) rfl) (blkOk_by (by kernel_rfl)) (by decide) (fun _ _ _ _ _ => (sg_name (i := 2) nd__law_fars rfl (loc_by rfl) (sto_by rfl))) (fun _ _ _ _ _ => tests_nil) (fun _ _ _ _ _ => (se_lcN (own := [("_law_b", 3)]) rfl nd__law_fars (si_range1 rfl m_range (sa_cons (se_ix rfl (v_ 0 rfl rfl rfl rfl) k_int (fun _ _ => rfl)) sa_nil rfl) rfl) (blkOk_by (by kernel_rfl)) (by decide) (fun _ _ _ _ _ => (sg_name (i := 3) nd__law_fars rfl (loc_by rfl) (sto_by rfl))) (fun _ _ _ _ _ => tests_nil) (fun _ _ _ _ _ => (se_bin op_mulA sem_mul k_int (se_ty call_int1 sem_int rfl m_int boot_int (sa_cons (se_cmp (op_neA hr.u65) sem_ne (v_ 2 rfl rfl rfl rfl) (v_ 3 rfl rfl rfl rfl) rfl) sa_nil rfl) (by decide) rfl rfl rfl))) (fun _ => rfl))) (fun _ => rfl)) | exact (st_set (i := 1) nd__law_fars rfl (loc_by rfl) (se_lc (own := [("_law_a", 2)]) rfl nd__law_fars (si_range1 rfl m_range (sa_cons (se_ix rfl (v_ 0 rfl rfl rfl rfl) k_int (fun _ _ => rfl)) sa_nil rfl) rfl) (blkOk_by (by kernel_rfl)) (by decide) (fun _ _ _ _ _ => (sg_name (i := 2) nd__law_fars rfl (loc_by rfl) (sto_by rfl))) (fun _ _ _ _ _ => tests_nil) (fun _ _ _ _ _ => (se_lcN (own := [("_law_b", 3)]) rfl nd__law_fars (si_range1 rfl m_range (sa_cons (se_ix rfl (v_ 0 rfl rfl rfl rfl) k_int (fun _ _ => rfl)) sa_nil rfl) rfl) (blkOk_by (by kernel_rfl)) (by decide) (fun _ _ _ _ _ => (sg_name (i := 3) nd__law_fars rfl (loc_by rfl) (sto_by rfl))) (fun _ _ _ _ _ => tests_nil) (fun _ _ _ _ _ => (se_bin op_mulA sem_mul k_int (se_ty call_int1 sem_int rfl m_int boot_int (sa_cons (se_cmp (op_neA hr.u65) sem_ne (v_ 2 rfl rfl rfl rfl) (v_ 3 rfl rfl rfl rfl) rfl) sa_nil rfl) (by decide) rfl rfl rfl))) (fun _ => rfl))) (fun _ => rfl)) rfl (sto_by rfl))) (ss_cons (st_for (passes_of rfl) rfl (si_iter rfl (se_ix rfl (v_ 0 rfl rfl rfl rfl) k_int (fun _ _ => rfl))) (sg_tup rfl rfl (sgs_cons (sg_name (i := 2) nd__law_fars rfl (loc_by rfl) (sto_by rfl)) (sgs_cons (sg_name (i := 3) nd__law_fars rfl (loc_by rfl) (sto_by rfl)) sgs_nil rfl) rfl) rfl rfl rfl) (ss_cons (st_sub (se_ix rfl (v_ 1 rfl rfl rfl rfl) (v_ 2 rfl rfl rfl rfl) (fun _ _ => rfl)) (v_ 3 rfl rfl rfl rfl) k_int rfl rfl (fun _ => rfl) rfl) (ss_one (st_sub (se_ix rfl (v_ 1 rfl rfl rfl rfl) (v_ 3 rfl rfl rfl rfl) (fun _ _ => rfl)) (v_ 2 rfl rfl rfl rfl) k_int rfl rfl (fun _ => rfl) rfl))) (fun _ => rfl)) (ss_cons (st_for (passes_of rfl) rfl (si_range1 rfl m_range (sa_cons (se_ix rfl (v_ 0 rfl rfl rfl rfl) k_int (fun _ _ => rfl)) sa_nil rfl) rfl) (sg_name (i := 4) nd__law_fars rfl (loc_by rfl) (sto_by rfl)) (ss_one (st_for (passes_of rfl) rfl (si_range1 rfl m_range (sa_cons (se_ix rfl (v_ 0 rfl rfl rfl rfl) k_int (fun _ _ => rfl)) sa_nil rfl) rfl) (sg_name (i := 2) nd__law_fars rfl (loc_by rfl) (sto_by rfl)) (ss_one (st_for (passes_of rfl) rfl (si_range1 rfl m_range (sa_cons (se_ix rfl (v_ 0 rfl rfl rfl rfl) k_int (fun _ _ => rfl)) sa_nil rfl) rfl) (sg_name (i := 3) nd__law_fars rfl (loc_by rfl) (sto_by rfl)) (ss_one (st_sub (se_ix rfl (v_ 1 rfl rfl rfl rfl) (v_ 2 rfl rfl rfl rfl) (fun _ _ => rfl)) (v_ 3 rfl rfl rfl rfl) (se_bi (call_minA rfl) sem_MM rfl m_min boot_min (sa_cons (se_ix rfl (se_ix rfl (v_ 1 rfl rfl rfl rfl) (v_ 2 rfl rfl rfl rfl) (fun _ _ => rfl)) (v_ 3 rfl rfl rfl rfl) (fun _ _ => rfl)) (sa_cons (se_bin op_addA sem_add (se_ix rfl (se_ix rfl (v_ 1 rfl rfl rfl rfl) (v_ 2 rfl rfl rfl rfl) (fun _ _ => rfl)) (v_ 4 rfl rfl rfl rfl) (fun _ _ => rfl)) (se_ix rfl (se_ix rfl (v_ 1 rfl rfl rfl rfl) (v_ 4 rfl rfl rfl rfl) (fun _ _ => rfl)) (v_ 3 rfl rfl rfl rfl) (fun _ _ => rfl))) sa_nil rfl) rfl) (by decide) rfl rfl rfl) rfl rfl (fun _ => rfl) rfl)) (fun _ => rfl))) (fun _ => rfl))) (fun _ => rfl)) (ss_one (st_ret (v_ 1 rfl rfl rfl rfl)))))))
theorem bi__law_fars : BindF "_law_fars" (topS 43) ["_law_web"] := fun _ _ _ _ _ _ us hl => match us, hl with | [_], _ => rfl
/-! _law_no_place -/
def N__law_no_place : List Str := ["_law_pen", "_law_many", "_law_odd"]
theorem nd__law_no_place : N__law_no_place.Nodup := by decide
def b__law_no_place : Ev → Store → Out := (sSeq (sSet 2 (evLst (evCons (evVar 1) (evCons (ev2 opAdd (ev2 opAdd (evVar 1) (evC (.int 1))) (evCall d__law_draw (evCons (evVar 0) (evCons (ev2 opPow (evC (.int 10)) (evC (.int 9))) evNil)))) (evCons (evNeg (evC (.int 1))) (evCons (evC (.bl true)) (evCons (evC (.bl false)) (evCons (evC .non) (evCons (evC (.str "0")) (evCons (evTup (evCons (evC (.int 0)) evNil)) (evCons (evLst (evCons (evC (.int 0)) evNil)) (evCons (evC .dct0) evNil)))))))))))) (sRet (ev2 opIx (evVar 2) (evCall d__law_draw (evCons (evVar 0) (evCons (evC (.int 10)) evNil))))))
def d__law_no_place : FD := runF 3 false b__law_no_place
theorem f__law_no_place {f : Addr} {fd : FuncData} {cdv : Value}   (F : DefC G.K mg "_law_no_place" (topS 44) f fd cdv) (o__law_draw : Own P w G mg base "_law_draw" 2 2 d__law_draw) : FnOk P w G.K mg base (L2N.CX P w) 3 f fd ["_law_pen", "_law_many"] (spF G 2 d__law_no_place) :=
  fnC_ok (N := N__law_no_place) (ps := ["_law_pen", "_law_many"]) (k := 2) F (by decide +kernel) rfl (by decide) (fun A outer s H E hr =>
    (ss_cons (st_set (i := 2) nd__law_no_place rfl (loc_by rfl) (se_lst (sa_cons (v_ 1 rfl rfl rfl rfl) (sa_cons (se_bin op_addA sem_add (se_bin op_addA sem_add (v_ 1 rfl rfl rfl rfl) k_int) (se_own rfl o__law_draw hr (by decide) rfl takesD rfl (len_cons (len_cons len_nil)) (sa_cons (v_ 0 rfl rfl rfl rfl) (sa_cons (se_bin op_pow sem_II k_int k_int) sa_nil rfl) rfl) rfl rfl rfl)) (sa_cons (se_neg k_int) (sa_cons k_bl (sa_cons k_bl (sa_cons k_non (sa_cons k_str (sa_cons (se_tup (sa_cons k_int sa_nil rfl)) (sa_cons (se_lst (sa_cons k_int sa_nil rfl)) (sa_cons se_dct0 sa_nil rfl) rfl) rfl) rfl) rfl) rfl) rfl) rfl) rfl) rfl)) rfl (sto_by rfl)) (ss_one (st_ret (se_ix rfl (v_ 2 rfl rfl rfl rfl) (se_own rfl o__law_draw hr (by decide) rfl takesD rfl (len_cons (len_cons len_nil)) (sa_cons (v_ 0 rfl rfl rfl rfl) (sa_cons k_int sa_nil rfl) rfl) rfl rfl rfl) (fun _ _ => rfl))))))
theorem bi__law_no_place : BindF "_law_no_place" (topS 44) ["_law_pen", "_law_many"] := fun _ _ _ _ _ _ us hl => match us, hl with | [_, _], _ => rfl
/-! _law_tuple_is -/
def N__law_tuple_is : List Str := ["_law_found", "_law_due", "_law_one"]
theorem nd__law_tuple_is : N__law_tuple_is.Nodup := by decide
def b__law_tuple_is : Ev → Store → Out := (sRet (evAndV (evN biIsi (evCons (evVar 0) (evCons (evC (.ty "tuple")) evNil))) (evAndV (ev2 opEq (evVar 0) (evVar 1)) (evN (biBls fun l => l.all id) (evCons (evLc (.nm 2) [2] (evIter (evVar 0)) evYes (evCall d__law_whole (evCons (evVar 2) evNil))) evNil)))))
def d__law_tuple_is : FD := runF 3 false b__law_tuple_is
theorem f__law_tuple_is {f : Addr} {fd : FuncData} {cdv : Value}   (F : DefC G.K mg "_law_tuple_is" (topS 45) f fd cdv) (o__law_whole : Own P w G mg base "_law_whole" 1 1 d__law_whole) (m_all : mg "all" = none) (m_isinstance : mg "isinstance" = none) (m_tuple : mg "tuple" = none) : FnOk P w G.K mg base (L2N.CX P w) 2 f fd ["_law_found", "_law_due"] (spF G 2 d__law_tuple_is) :=
  fnC_ok (N := N__law_tuple_is) (ps := ["_law_found", "_law_due"]) (k := 1) F (by decide +kernel) rfl (by decide) (fun A outer s H E hr =>
    (ss_one (st_ret (se_and rfl (se_bi call_isi sem_isi rfl m_isinstance boot_isinstance (sa_cons (v_ 0 rfl rfl rfl rfl) (sa_cons (g_ty rfl m_tuple (by decide +kernel) (by decide) rfl) sa_nil rfl) rfl) (by decide) rfl rfl rfl) (se_and rfl (se_cmp (op_eqA hr.u65) sem_eq (v_ 0 rfl rfl rfl rfl) (v_ 1 rfl rfl rfl rfl) rfl) (se_one (se_bi (cr_all rfl) sem_bls rfl m_all boot_all (sa_cons (se_lc (own := [("_law_one", 2)]) rfl nd__law_tuple_is (si_iter rfl (v_ 0 rfl rfl rfl rfl)) (blkOk_by (by kernel_rfl)) (by decide) (fun _ _ _ _ _ => (sg_name (i := 2) nd__law_tuple_is rfl (loc_by rfl) (sto_by rfl))) (fun _ _ _ _ _ => tests_nil) (fun _ _ _ _ _ => (se_own rfl o__law_whole hr (by decide) rfl tk0 rfl (len_cons len_nil) (sa_cons (v_ 2 rfl rfl rfl rfl) sa_nil rfl) rfl rfl rfl)) (fun _ => rfl)) sa_nil rfl) (by decide) rfl rfl rfl)))))))
theorem bi__law_tuple_is : BindF "_law_tuple_is" (topS 45) ["_law_found", "_law_due"] := fun _ _ _ _ _ _ us hl => match us, hl with | [_, _], _ => rfl
/-! _law_told -/
def N__law_told : List Str := ["_law_web", "_law_places", "_law_e"]
theorem nd__law_told : N__law_told.Nodup := by decide
def b__law_told : Ev → Store → Out := (sTryE 8 2 (sRet (evCall d_nearest_of (evCons (evVar 0) (evCons (evVar 1) evNil)))) (fun c fs => (sRet (evKind 2 (zK c)))))
def d__law_told : FD := runF 3 false b__law_told
theorem f__law_told {f : Addr} {fd : FuncData} {cdv : Value}   {CE : Addr} (F : DefC G.K mg "_law_told" (topS 46) f fd cdv) (o_nearest_of : Own P w G mg base "nearest_of" 9 2 d_nearest_of) (hX : G.xds = []) (Kd : Kinds G.K G.ca 8) (o__law_kind_of : OwnE P w G mg base "_law_kind_of" 8 1 zK) (n_CubeError : mg "CubeError" = some (.ref CE)) (hEx : ∀ c, c < 8 → PySem.W.exmOne G.K (.ref (G.ca c)) (.ref CE) = some true) : FnOk P w G.K mg base (L2N.CX P w) 10 f fd ["_law_web", "_law_places"] (spF G 2 d__law_told) :=
  fnC_ok (N := N__law_told) (ps := ["_law_web", "_law_places"]) (k := 9) F (by decide +kernel) rfl (by decide) (fun A outer s H E hr =>
    (ss_one (st_tryE (n := 8) (i := 2) rfl rfl rfl hX nd__law_told rfl rfl n_CubeError rfl rfl takesD hEx (fun W2 pn xe tk hp => (ss_one (st_ret (se_own rfl o_nearest_of hr (by decide) rfl tk rfl (len_cons (len_cons len_nil)) (sa_cons (v_ 0 rfl rfl rfl rfl) (sa_cons (v_ 1 rfl rfl rfl rfl) sa_nil rfl) rfl) rfl rfl rfl)))) (fun c a oe pn fs l hc hl hz hv => (ss_one (st_ret (se_kind rfl hX o__law_kind_of hr (by decide) hc ⟨hz.zc, hv⟩ rfl rfl (vis_by rfl) rfl rfl rfl)))))))
theorem bi__law_told : BindF "_law_told" (topS 46) ["_law_web", "_law_places"] := fun _ _ _ _ _ _ us hl => match us, hl with | [_, _], _ => rfl
/-! _law_right -/
def N__law_right : List Str := ["_law_web", "_law_far", "_law_places", "_law_held", "_law_found", "_law_sums", "_law_due", "_law_row", "_law_place"]
theorem nd__law_right : N__law_right.Nodup := by decide
def b__law_right : Ev → Store → Out := (sSeq (sSet 3 (evN biList (evCons (evVar 2) evNil))) (sSeq (sSet 4 (evCall d__law_told (evCons (evVar 0) (evCons (evVar 2) evNil)))) (sSeq (sSet 5 (evLc (.nm 7) [7] (evIter (evVar 1)) evYes (evN biSum (evCons (evLc (.nm 8) [8] (evIter (evVar 3)) evYes (ev2 opIx (evVar 7) (evVar 8))) evNil)))) (sSeq (sSet 6 (evN biTuple (evCons (evLc (.nm 8) [8] (evRng rng1 (evCons (ev2 opIx (evVar 0) (evC (.int 0))) evNil)) (evTr (ev2 opEq (ev2 opIx (evVar 5) (evVar 8)) (evN (biMM minI) (evCons (evVar 5) evNil)))) (evVar 8)) evNil))) (sRet (evAndV (evCall d__law_tuple_is (evCons (evVar 4) (evCons (evVar 6) evNil))) (ev2 opEq (evVar 2) (evVar 3))))))))
def d__law_right : FD := runF 9 false b__law_right
theorem f__law_right {f : Addr} {fd : FuncData} {cdv : Value}   (F : DefC G.K mg "_law_right" (topS 47) f fd cdv) (o__law_told : Own P w G mg base "_law_told" 10 2 d__law_told) (o__law_tuple_is : Own P w G mg base "_law_tuple_is" 2 2 d__law_tuple_is) (m_list : mg "list" = none) (m_min : mg "min" = none) (m_range : mg "range" = none) (m_sum : mg "sum" = none) (m_tuple : mg "tuple" = none) : FnOk P w G.K mg base (L2N.CX P w) 11 f fd ["_law_web", "_law_far", "_law_places"] (spF G 3 d__law_right) :=
  fnC_ok (N := N__law_right) (ps := ["_law_web", "_law_far", "_law_places"]) (k := 10) F (by decide +kernel) rfl (by decide) (fun A outer s H E hr =>
    (ss_cons (st_set (i := 3) nd__law_right rfl (loc_by rfl) (se_ty call_list_of sem_list rfl m_list boot_list (sa_cons (v_ 2 rfl rfl rfl rfl) sa_nil rfl) (by decide) rfl rfl rfl) rfl (sto_by rfl)) (ss_cons (st_set (i := 4) nd__law_right rfl (loc_by rfl) (se_own rfl o__law_told hr (by decide) rfl takesD rfl (len_cons (len_cons len_nil)) (sa_cons (v_ 0 rfl rfl rfl rfl) (sa_cons (v_ 2 rfl rfl rfl rfl) sa_nil rfl) rfl) rfl rfl rfl) rfl (sto_by rfl)) (ss_cons (by first | exact (st_setLc (i := 5) (own := [("_law_row", 7)]) rfl nd__law_right rfl rfl rfl (si_iter rfl (v_ 1 rfl rfl rfl rfl)) (blkOk_by (by kernel_rfl)) (by decide) (fun _ _ _ _ _ => (sg_name (i := 7) nd__law_right rfl (loc_by rfl) (sto_by rfl))) (fun _ _ _ _ _ => tests_nil) (fun _ _ _ _ _ => (se_bi (cr_sum rfl) sem_sum rfl m_sum boot_sum (sa_cons (se_lc (own := [("_law_place", 8)]) rfl nd__law_right (si_iter rfl (v_ 3 rfl rfl rfl rfl)) (blkOk_by (by kernel_rfl)) (by decide) (fun _ _ _ _ _ => (sg_name (i := 8) nd__law_right rfl (loc_by rfl) (sto_by rfl))) (fun _ _ _ _ _ => tests_nil) (fun _ _ _ _ _ => (se_ix rfl (v_ 7 rfl rfl rfl rfl) (v_ 8 rfl rfl rfl rfl) (fun _ _ => rfl))) (fun _ => rfl)) sa_nil rfl) (by decide) rfl rfl rfl)) (fun _ => rfl)) | exact (st_set (i := 5) nd__law_right rfl (loc_by rfl) (se_lc (own := [("_law_row", 7)]) rfl nd__law_right (si_iter rfl (v_ 1 rfl rfl rfl rfl)) (blkOk_by (by kernel_rfl)) (by decide) (fun _ _ _ _ _ => (sg_name (i := 7) nd__law_right rfl (loc_by rfl) (sto_by rfl))) (fun _ _ _ _ _ => tests_nil) (fun _ _ _ _ _ => (se_bi (cr_sum rfl) sem_sum rfl m_sum boot_sum (sa_cons (se_lc (own := [("_law_place", 8)]) rfl nd__law_right (si_iter rfl (v_ 3 rfl rfl rfl rfl)) (blkOk_by (by kernel_rfl)) (by decide) (fun _ _ _ _ _ => (sg_name (i := 8) nd__law_right rfl (loc_by rfl) (sto_by rfl))) (fun _ _ _ _ _ => tests_nil) (fun _ _ _ _ _ => (se_ix rfl (v_ 7 rfl rfl rfl rfl) (v_ 8 rfl rfl rfl rfl) (fun _ _ => rfl))) (fun _ => rfl)) sa_nil rfl) (by decide) rfl rfl rfl)) (fun _ => rfl)) rfl (sto_by rfl))) (ss_cons (st_set (i := 6) nd__law_right rfl (loc_by rfl) (se_ty call_tuple_of sem_tuple rfl m_tuple boot_tuple (sa_cons (se_lc (own := [("_law_place", 8)]) rfl nd__law_right (si_range1 rfl m_range (sa_cons (se_ix rfl (v_ 0 rfl rfl rfl rfl) k_int (fun _ _ => rfl)) sa_nil rfl) rfl) (blkOk_by (by kernel_rfl)) (by decide) (fun _ _ _ _ _ => (sg_name (i := 8) nd__law_right rfl (loc_by rfl) (sto_by rfl))) (fun _ _ _ _ _ => (tests_one (st_cmp rfl (op_eqA hr.u65) sem_eq (se_ix rfl (v_ 5 rfl rfl rfl rfl) (v_ 8 rfl rfl rfl rfl) (fun _ _ => rfl)) (se_bi (call_minA rfl) sem_MM rfl m_min boot_min (sa_cons (v_ 5 rfl rfl rfl rfl) sa_nil rfl) (by decide) rfl rfl rfl) rfl))) (fun _ _ _ _ _ => (v_ 8 rfl rfl rfl rfl)) (fun _ => rfl)) sa_nil rfl) (by decide) rfl rfl rfl) rfl (sto_by rfl)) (ss_one (st_ret (se_and rfl (se_own rfl o__law_tuple_is hr (by decide) rfl takesD rfl (len_cons (len_cons len_nil)) (sa_cons (v_ 4 rfl rfl rfl rfl) (sa_cons (v_ 6 rfl rfl rfl rfl) sa_nil rfl) rfl) rfl rfl rfl) (se_one (se_cmp (op_eqA hr.u65) sem_eq (v_ 2 rfl rfl rfl rfl) (v_ 3 rfl rfl rfl rfl) rfl))))))))))
theorem bi__law_right : BindF "_law_right" (topS 47) ["_law_web", "_law_far", "_law_places"] := fun _ _ _ _ _ _ us hl => match us, hl with | [_, _, _], _ => rfl
/-! law -/
def N_law : List Str := ["_law_script", "_law_cell", "_law_pen", "_law_web", "_law_far", "_law_places", "_law_some", "_law_spot", "_law_bent", "_law_thing", "_law_turn"]
theorem nd_law : N_law.Nodup := by decide
def b_law : Ev → Store → Out := (sSeq (sIf (evOr (evTr (ev2 opNe (evCall d__law_told (evCons (evTup (evCons (evC (.int 2)) (evCons (evTup evNil) evNil))) (evCons (evLst (evCons (evC (.int 0)) evNil)) evNil))) (evC (.str "apart")))) (evTr (ev2 opNe (evCall d__law_told (evCons (evTup (evCons (evC (.int 3)) (evCons (evTup (evCons (evTup (evCons (evC (.int 1)) (evCons (evC (.int 2)) evNil))) evNil)) evNil))) (evCons (evC .non) evNil))) (evC (.str "apart"))))) (sRet (evC (.bl false))) sNop) (sSeq (sFor (.nm 1) (evIter (ev2 opAdd (evLst (evCons (evCall d__law_cell_at (evCons (evVar 0) (evCons (evC (.int 0)) evNil))) evNil)) (evSl (evVar 0) (evPartI (evC (.int 1))) (evPartI (evC (.int 6)))))) (sSeq (sSet 2 (evCall d__law_pen_of (evCons (evVar 1) evNil))) (sSeq (sSet 3 (evCall d__law_joined_web (evCons (evVar 2) evNil))) (sSeq (sSet 4 (evCall d__law_fars (evCons (evVar 3) evNil))) (sSeq (sSet 5 (evLc (.nm 10) [10] (evRng rng1 (evCons (ev2 opAdd (evC (.int 1)) (evCall d__law_draw (evCons (evVar 2) (evCons (evC (.int 12)) evNil)))) evNil)) evYes (evCall d__law_draw (evCons (evVar 2) (evCons (ev2 opIx (evVar 3) (evC (.int 0))) evNil))))) (sSeq (sFor (.nm 6) (evIter (evLst (evCons (evVar 5) (evCons (evSl (evVar 5) evNoPart (evPartI (evC (.int 3)))) (evCons (evSl (evVar 5) evNoPart (evPartI (evC (.int 1)))) (evCons (evRevA (evVar 5)) (evCons (evSl (ev2 opMul (evVar 5) (evC (.int 12))) evNoPart (evPartI (evC (.int 12)))) evNil))))))) (sIf (evNot (evTr (evCall d__law_right (evCons (evVar 3) (evCons (evVar 4) (evCons (evVar 6) evNil)))))) (sRet (evC (.bl false))) sNop)) (sSeq (sSet 7 (evCall d__law_draw (evCons (evVar 2) (evCons (evN biLen (evCons (evVar 5) evNil)) evNil)))) (sSeq (sSet 8 (ev2 opAdd (ev2 opAdd (evSl (evVar 5) evNoPart (evPartI (evVar 7))) (evLst (evCons (evCall d__law_no_place (evCons (evVar 2) (evCons (ev2 opIx (evVar 3) (evC (.int 0))) evNil))) evNil))) (evSl (evVar 5) (evPartI (ev2 opAdd (evVar 7) (evC (.int 1)))) evNoPart))) (sFor (.nm 9) (evIter (evLst (evCons (evVar 8) (evCons (evN biTuple (evCons (evVar 5) evNil)) (evCons (evLst evNil) (evCons (ev2 opMul (evLst (evCons (evC (.int 0)) evNil)) (evC (.int 13))) (evCons (evC .non) (evCons (evC (.int 0)) (evCons (evC (.str "")) (evCons (evC .dct0) (evCons (evLst (evCons (evVar 5) evNil)) evNil))))))))))) (sIf (evTr (ev2 opNe (evCall d__law_told (evCons (evVar 3) (evCons (evVar 9) evNil))) (evC (.str "place")))) (sRet (evC (.bl false))) sNop)))))))))) (sRet (evC (.bl true)))))
def d_law : FD := runF 11 false b_law
theorem f_law {f : Addr} {fd : FuncData} {cdv : Value}   (F : DefC G.K mg "law" (topS 48) f fd cdv) (o__law_told : Own P w G mg base "_law_told" 10 2 d__law_told) (o__law_cell_at : Own P w G mg base "_law_cell_at" 1 2 d__law_cell_at) (o__law_pen_of : Own P w G mg base "_law_pen_of" 1 1 d__law_pen_of) (o__law_joined_web : Own P w G mg base "_law_joined_web" 5 1 d__law_joined_web) (o__law_fars : Own P w G mg base "_law_fars" 1 1 d__law_fars) (o__law_draw : Own P w G mg base "_law_draw" 2 2 d__law_draw) (o__law_right : Own P w G mg base "_law_right" 11 3 d__law_right) (o__law_no_place : Own P w G mg base "_law_no_place" 3 2 d__law_no_place) (m_len : mg "len" = none) (m_range : mg "range" = none) (m_tuple : mg "tuple" = none) : FnOk P w G.K mg base (L2N.CX P w) 12 f fd ["_law_script"] (spF G 1 d_law) :=
  fnC_ok (N := N_law) (ps := ["_law_script"]) (k := 11) F (by decide +kernel) rfl (by decide) (fun A outer s H E hr =>
    (ss_cons (st_if (PW.pt (sw_or (st_cmp rfl (op_neA hr.u65) sem_ne (se_own rfl o__law_told hr (by decide) rfl takesD rfl (len_cons (len_cons len_nil)) (sa_cons (se_tup (sa_cons k_int (sa_cons (se_tup sa_nil) sa_nil rfl) rfl)) (sa_cons (se_lst (sa_cons k_int sa_nil rfl)) sa_nil rfl) rfl) rfl rfl rfl) k_str rfl) (sw_or1 (st_cmp rfl (op_neA hr.u65) sem_ne (se_own rfl o__law_told hr (by decide) rfl takesD rfl (len_cons (len_cons len_nil)) (sa_cons (se_tup (sa_cons k_int (sa_cons (se_tup (sa_cons (se_tup (sa_cons k_int (sa_cons k_int sa_nil rfl) rfl)) sa_nil rfl)) sa_nil rfl) rfl)) (sa_cons k_non sa_nil rfl) rfl) rfl rfl rfl) k_str rfl)))) (ss_one (st_ret k_bl)) ss_nil) (ss_cons (st_for (passes_of rfl) rfl (si_iter rfl (se_bin op_addA sem_add (se_lst (sa_cons (se_own rfl o__law_cell_at hr (by decide) rfl takesD rfl (len_cons (len_cons len_nil)) (sa_cons (v_ 0 rfl rfl rfl rfl) (sa_cons k_int sa_nil rfl) rfl) rfl rfl rfl) sa_nil rfl)) (se_sl rfl (v_ 0 rfl rfl rfl rfl) (so_some k_int) (so_some k_int)))) (sg_name (i := 1) nd_law rfl (loc_by rfl) (sto_by rfl)) (ss_cons (st_set (i := 2) nd_law rfl (loc_by rfl) (se_own rfl o__law_pen_of hr (by decide) rfl takesD rfl (len_cons len_nil) (sa_cons (v_ 1 rfl rfl rfl rfl) sa_nil rfl) rfl rfl rfl) rfl (sto_by rfl)) (ss_cons (st_set (i := 3) nd_law rfl (loc_by rfl) (se_own rfl o__law_joined_web hr (by decide) rfl takesD rfl (len_cons len_nil) (sa_cons (v_ 2 rfl rfl rfl rfl) sa_nil rfl) rfl rfl rfl) rfl (sto_by rfl)) (ss_cons (st_set (i := 4) nd_law rfl (loc_by rfl) (se_own rfl o__law_fars hr (by decide) rfl takesD rfl (len_cons len_nil) (sa_cons (v_ 3 rfl rfl rfl rfl) sa_nil rfl) rfl rfl rfl) rfl (sto_by rfl)) (ss_cons (by first | exact (st_setLc (i := 5) (own := [("_law_turn", 10)]) rfl nd_law rfl rfl rfl (si_range1 rfl m_range (sa_cons (se_bin op_addA sem_add k_int (se_own rfl o__law_draw hr (by decide) rfl takesD rfl (len_cons (len_cons len_nil)) (sa_cons (v_ 2 rfl rfl rfl rfl) (sa_cons k_int sa_nil rfl) rfl) rfl rfl rfl)) sa_nil rfl) rfl) (blkOk_by (by kernel_rfl)) (by decide) (fun _ _ _ _ _ => (sg_name (i := 10) nd_law rfl (loc_by rfl) (sto_by rfl))) (fun _ _ _ _ _ => tests_nil) (fun _ _ _ _ _ => (se_own rfl o__law_draw hr (by decide) rfl tk0 rfl (len_cons (len_cons len_nil)) (sa_cons (v_ 2 rfl rfl rfl rfl) (sa_cons (se_ix rfl (v_ 3 rfl rfl rfl rfl) k_int (fun _ _ => rfl)) sa_nil rfl) rfl) rfl rfl rfl)) (fun _ => rfl)) | exact (st_set (i := 5) nd_law rfl (loc_by rfl) (se_lc (own := [("_law_turn", 10)]) rfl nd_law (si_range1 rfl m_range (sa_cons (se_bin op_addA sem_add k_int (se_own rfl o__law_draw hr (by decide) rfl takesD rfl (len_cons (len_cons len_nil)) (sa_cons (v_ 2 rfl rfl rfl rfl) (sa_cons k_int sa_nil rfl) rfl) rfl rfl rfl)) sa_nil rfl) rfl) (blkOk_by (by kernel_rfl)) (by decide) (fun _ _ _ _ _ => (sg_name (i := 10) nd_law rfl (loc_by rfl) (sto_by rfl))) (fun _ _ _ _ _ => tests_nil) (fun _ _ _ _ _ => (se_own rfl o__law_draw hr (by decide) rfl tk0 rfl (len_cons (len_cons len_nil)) (sa_cons (v_ 2 rfl rfl rfl rfl) (sa_cons (se_ix rfl (v_ 3 rfl rfl rfl rfl) k_int (fun _ _ => rfl)) sa_nil rfl) rfl) rfl rfl rfl)) (fun _ => rfl)) rfl (sto_by rfl))) (ss_cons (st_for (passes_of rfl) rfl (si_iter rfl (se_lst (sa_cons (v_ 5 rfl rfl rfl rfl) (sa_cons (se_sl rfl (v_ 5 rfl rfl rfl rfl) so_none (so_some k_int)) (sa_cons (se_sl rfl (v_ 5 rfl rfl rfl rfl) so_none (so_some k_int)) (sa_cons (se_revA rfl (v_ 5 rfl rfl rfl rfl)) (sa_cons (se_sl rfl (se_bin op_mulA sem_mul (v_ 5 rfl rfl rfl rfl) k_int) so_none (so_some k_int)) sa_nil rfl) rfl) rfl) rfl) rfl))) (sg_name (i := 6) nd_law rfl (loc_by rfl) (sto_by rfl)) (ss_one (st_if (st_not (st_tr rfl (se_own rfl o__law_right hr (by decide) rfl takesD rfl (len_cons (len_cons (len_cons len_nil))) (sa_cons (v_ 3 rfl rfl rfl rfl) (sa_cons (v_ 4 rfl rfl rfl rfl) (sa_cons (v_ 6 rfl rfl rfl rfl) sa_nil rfl) rfl) rfl) rfl rfl rfl) (fun _ => rfl))) (ss_one (st_ret k_bl)) ss_nil)) (fun _ => rfl)) (ss_cons (st_set (i := 7) nd_law rfl (loc_by rfl) (se_own rfl o__law_draw hr (by decide) rfl takesD rfl (len_cons (len_cons len_nil)) (sa_cons (v_ 2 rfl rfl rfl rfl) (sa_cons (se_bi call_lenA sem_len rfl m_len boot_len (sa_cons (v_ 5 rfl rfl rfl rfl) sa_nil rfl) (by decide) rfl rfl rfl) sa_nil rfl) rfl) rfl rfl rfl) rfl (sto_by rfl)) (ss_cons (st_set (i := 8) nd_law rfl (loc_by rfl) (se_bin op_addA sem_add (se_bin op_addA sem_add (se_sl rfl (v_ 5 rfl rfl rfl rfl) so_none (so_some (v_ 7 rfl rfl rfl rfl))) (se_lst (sa_cons (se_own rfl o__law_no_place hr (by decide) rfl takesD rfl (len_cons (len_cons len_nil)) (sa_cons (v_ 2 rfl rfl rfl rfl) (sa_cons (se_ix rfl (v_ 3 rfl rfl rfl rfl) k_int (fun _ _ => rfl)) sa_nil rfl) rfl) rfl rfl rfl) sa_nil rfl))) (se_sl rfl (v_ 5 rfl rfl rfl rfl) (so_some (se_bin op_addA sem_add (v_ 7 rfl rfl rfl rfl) k_int)) so_none)) rfl (sto_by rfl)) (ss_one (st_for (passes_of rfl) rfl (si_iter rfl (se_lst (sa_cons (v_ 8 rfl rfl rfl rfl) (sa_cons (se_ty call_tuple_of sem_tuple rfl m_tuple boot_tuple (sa_cons (v_ 5 rfl rfl rfl rfl) sa_nil rfl) (by decide) rfl rfl rfl) (sa_cons (se_lst sa_nil) (sa_cons (se_bin op_mulA sem_mul (se_lst (sa_cons k_int sa_nil rfl)) k_int) (sa_cons k_non (sa_cons k_int (sa_cons k_str (sa_cons se_dct0 (sa_cons (se_lst (sa_cons (v_ 5 rfl rfl rfl rfl) sa_nil rfl)) sa_nil rfl) rfl) rfl) rfl) rfl) rfl) rfl) rfl) rfl))) (sg_name (i := 9) nd_law rfl (loc_by rfl) (sto_by rfl)) (ss_one (st_if (st_cmp rfl (op_neA hr.u65) sem_ne (se_own rfl o__law_told hr (by decide) rfl takesD rfl (len_cons (len_cons len_nil)) (sa_cons (v_ 3 rfl rfl rfl rfl) (sa_cons (v_ 9 rfl rfl rfl rfl) sa_nil rfl) rfl) rfl rfl rfl) k_str rfl) (ss_one (st_ret k_bl)) ss_nil)) (fun _ => rfl)))))))))) (fun _ => rfl)) (ss_one (st_ret k_bl)))))
theorem bi_law : BindF "law" (topS 48) ["_law_script"] := fun _ _ _ _ _ _ us hl => match us, hl with | [_], _ => rfl
end
/-! ### the head -/
def dD (x : Str) (i : Nat) : He.DefD := ⟨(x, none), x, x, defArgs (topS i), defBody (topS i), defScope (topS i), [], []⟩
def iD (x : Str) (s : Stmt) : He.DefD := ⟨(x, some "__init__"), "__init__", x ++ ".__init__", defArgs s, defBody s, defScope s, [], []⟩
def fn : List He.DefD := [dD "is_whole" 11, dD "is_below" 12, dD "all_below" 13, dD "is_rising" 14, dD "web_good" 17, dD "far_table" 18, dD "is_joined" 19, dD "near_table" 20, dD "_many_good" 21, dD "_tie_good" 22, dD "_far_row" 23, dD "refuse_apart" 25, dD "nearest_of" 28, dD "_are_places" 29, dD "_law_cell_at" 31, dD "_law_next" 32, dD "_law_pen_of" 33, dD "_law_draw" 34, dD "_law_whole" 35, dD "_law_kind_of" 36, dD "_law_mixed" 37, dD "_law_web_of" 38, dD "_law_unlike" 39, dD "_law_web_by" 40, dD "_law_lying" 41, dD "_law_joined_web" 42, dD "_law_fars" 43, dD "_law_no_place" 44, dD "_law_tuple_is" 45, dD "_law_told" 46, dD "_law_right" 47, dD "law" 48]
def fa : List He.Fa := [.glo "is_whole", .glo "is_below", .glo "all_below", .glo "is_rising", .glo "web_good", .glo "far_table", .glo "is_joined", .glo "near_table", .glo "_many_good", .glo "_tie_good", .glo "_far_row", .glo "refuse_apart", .glo "nearest_of", .glo "_are_places", .glo "_law_cell_at", .glo "_law_next", .glo "_law_pen_of", .glo "_law_draw", .glo "_law_whole", .glo "_law_kind_of", .glo "_law_mixed", .glo "_law_web_of", .glo "_law_unlike", .glo "_law_web_by", .glo "_law_lying", .glo "_law_joined_web", .glo "_law_fars", .glo "_law_no_place", .glo "_law_tuple_is", .glo "_law_told", .glo "_law_right", .glo "law", .int "MOST_NEARED" 12, .int "MOST_PLACES" 8, .free "ValueError", .free "abs", .free "all", .free "bool", .free "int", .free "isinstance", .free "len", .free "list", .free "max", .free "min", .free "range", .free "set", .free "sorted", .free "sum", .free "tuple", .glo "Apart", .glo "CubeError", .glo "NoCube", .glo "NoLine", .glo "NoPlace", .glo "NoText", .glo "NoTie", .glo "NoWeb", .glo "TooGreat", .exc "Apart", .exc "NoPlace"]
def clsL : List Str := ["NoPlace", "NoTie", "NoLine", "Apart", "NoCube", "NoWeb", "NoText", "TooGreat"]
def exf : PySem.W.Frag → Bool := fun K => kindsB clsL K && (bareB clsL [] K)
def tf : List He.Defn := [("all_below", none), ("is_rising", none), ("web_good", none)]
abbrev Rw : PySem.W.OpenRow := PySem.W.OpenLaw.row PySem.Challenge.rw_cubewebs_k43_nearest_places
abbrev hk : PySem.W.Hook := He.hookX 4 fa fn [] tf exf
def ob (s : PySem.W.SharedT) : He.AlX := He.obsX 4 fa fn [] tf exf (HandSHeadRun.getT s)
theorem ob_eq (s : PySem.W.SharedT) : ob s = hk.obs s.abs := He.obsX_eq (HandSHeadRun.getT_eq s)
def nm0 : List PySem.Str := ["MOST_PLACES", "MOST_NEARED", "CubeError", "NoPlace", "NoTie", "NoLine", "Apart", "NoCube", "NoWeb", "NoText", "TooGreat", "is_whole", "is_below", "all_below", "is_rising", "web_good", "far_table", "is_joined", "near_table", "_many_good", "_tie_good", "_far_row", "refuse_apart", "nearest_of", "_are_places", "_law_cell_at", "_law_next", "_law_pen_of", "_law_draw", "_law_whole"]
def nm1 : List PySem.Str := ["_law_kind_of", "_law_mixed", "_law_web_of", "_law_unlike", "_law_web_by", "_law_lying", "_law_joined_web", "_law_fars", "_law_no_place", "_law_tuple_is", "_law_told", "_law_right"]
abbrev loose : List PySem.Str := nm0 ++ nm1
set_option maxHeartbeats 0 in
theorem run (w : World) : HandSHeadRun.RunEq Rw (PySem.W.view Rw.prog [48]) hk ob 6000 loose w := by
  intro os
  kernel_rfl
def gx (K : PySem.W.Frag) : Gx := ⟨K, fun _ => none, fun c => He.ga K (clsL.getD c ""), (tf.map (He.cT K)).map (·.2), []⟩
theorem cs_m {K : PySem.W.Frag} {x : Str} (h : ((x, none) : He.Defn) ∈ tf) : He.cT K (x, none) ∈ tf.map (He.cT K) := List.mem_map_of_mem h
theorem tb_m {K : PySem.W.Frag} {x : Str} (h : ((x, none) : He.Defn) ∈ tf) : (He.cT K (x, none)).2 ∈ (gx K).tabs := List.mem_map_of_mem (cs_m h)
section
variable {P : Program} {w : World} {K : PySem.W.Frag} {h : Heap} {mg : Str → Option Value} {base : Heap}
theorem c_is_whole (X : K.In h) (Gm : h.Ns mainGlobals mg) (c : He.SaysX fa fn [] tf exf w h K) : ∃ fd, DefC (gx K).K mg "is_whole" (topS 11) (He.ga K "is_whole") fd (.ref (He.codeOf K ("is_whole", none))) := by
  obtain ⟨fd, F⟩ := c.t.d.def_ 0 (d := dD "is_whole" 11) rfl
  exact ⟨fd, defC_of F (He.glo_ok X Gm (c.t.d.fact 0 (f := .glo "is_whole") rfl))⟩
theorem c_is_below (X : K.In h) (Gm : h.Ns mainGlobals mg) (c : He.SaysX fa fn [] tf exf w h K) : ∃ fd, DefC (gx K).K mg "is_below" (topS 12) (He.ga K "is_below") fd (.ref (He.codeOf K ("is_below", none))) := by
  obtain ⟨fd, F⟩ := c.t.d.def_ 1 (d := dD "is_below" 12) rfl
  exact ⟨fd, defC_of F (He.glo_ok X Gm (c.t.d.fact 1 (f := .glo "is_below") rfl))⟩
theorem c_all_below (X : K.In h) (Gm : h.Ns mainGlobals mg) (c : He.SaysX fa fn [] tf exf w h K) : ∃ fd, DefC (gx K).K mg "all_below" (topS 13) (He.ga K "all_below") fd (.ref (He.codeOf K ("all_below", none))) := by
  obtain ⟨fd, F⟩ := c.t.d.def_ 2 (d := dD "all_below" 13) rfl
  exact ⟨fd, defC_of F (He.glo_ok X Gm (c.t.d.fact 2 (f := .glo "all_below") rfl))⟩
theorem c_is_rising (X : K.In h) (Gm : h.Ns mainGlobals mg) (c : He.SaysX fa fn [] tf exf w h K) : ∃ fd, DefC (gx K).K mg "is_rising" (topS 14) (He.ga K "is_rising") fd (.ref (He.codeOf K ("is_rising", none))) := by
  obtain ⟨fd, F⟩ := c.t.d.def_ 3 (d := dD "is_rising" 14) rfl
  exact ⟨fd, defC_of F (He.glo_ok X Gm (c.t.d.fact 3 (f := .glo "is_rising") rfl))⟩
theorem c_web_good (X : K.In h) (Gm : h.Ns mainGlobals mg) (c : He.SaysX fa fn [] tf exf w h K) : ∃ fd, DefC (gx K).K mg "web_good" (topS 17) (He.ga K "web_good") fd (.ref (He.codeOf K ("web_good", none))) := by
  obtain ⟨fd, F⟩ := c.t.d.def_ 4 (d := dD "web_good" 17) rfl
  exact ⟨fd, defC_of F (He.glo_ok X Gm (c.t.d.fact 4 (f := .glo "web_good") rfl))⟩
theorem c_far_table (X : K.In h) (Gm : h.Ns mainGlobals mg) (c : He.SaysX fa fn [] tf exf w h K) : ∃ fd, DefC (gx K).K mg "far_table" (topS 18) (He.ga K "far_table") fd (.ref (He.codeOf K ("far_table", none))) := by
  obtain ⟨fd, F⟩ := c.t.d.def_ 5 (d := dD "far_table" 18) rfl
  exact ⟨fd, defC_of F (He.glo_ok X Gm (c.t.d.fact 5 (f := .glo "far_table") rfl))⟩
theorem c_is_joined (X : K.In h) (Gm : h.Ns mainGlobals mg) (c : He.SaysX fa fn [] tf exf w h K) : ∃ fd, DefC (gx K).K mg "is_joined" (topS 19) (He.ga K "is_joined") fd (.ref (He.codeOf K ("is_joined", none))) := by
  obtain ⟨fd, F⟩ := c.t.d.def_ 6 (d := dD "is_joined" 19) rfl
  exact ⟨fd, defC_of F (He.glo_ok X Gm (c.t.d.fact 6 (f := .glo "is_joined") rfl))⟩
theorem c_near_table (X : K.In h) (Gm : h.Ns mainGlobals mg) (c : He.SaysX fa fn [] tf exf w h K) : ∃ fd, DefC (gx K).K mg "near_table" (topS 20) (He.ga K "near_table") fd (.ref (He.codeOf K ("near_table", none))) := by
  obtain ⟨fd, F⟩ := c.t.d.def_ 7 (d := dD "near_table" 20) rfl
  exact ⟨fd, defC_of F (He.glo_ok X Gm (c.t.d.fact 7 (f := .glo "near_table") rfl))⟩
theorem c__many_good (X : K.In h) (Gm : h.Ns mainGlobals mg) (c : He.SaysX fa fn [] tf exf w h K) : ∃ fd, DefC (gx K).K mg "_many_good" (topS 21) (He.ga K "_many_good") fd (.ref (He.codeOf K ("_many_good", none))) := by
  obtain ⟨fd, F⟩ := c.t.d.def_ 8 (d := dD "_many_good" 21) rfl
  exact ⟨fd, defC_of F (He.glo_ok X Gm (c.t.d.fact 8 (f := .glo "_many_good") rfl))⟩
theorem c__tie_good (X : K.In h) (Gm : h.Ns mainGlobals mg) (c : He.SaysX fa fn [] tf exf w h K) : ∃ fd, DefC (gx K).K mg "_tie_good" (topS 22) (He.ga K "_tie_good") fd (.ref (He.codeOf K ("_tie_good", none))) := by
  obtain ⟨fd, F⟩ := c.t.d.def_ 9 (d := dD "_tie_good" 22) rfl
  exact ⟨fd, defC_of F (He.glo_ok X Gm (c.t.d.fact 9 (f := .glo "_tie_good") rfl))⟩
theorem c__far_row (X : K.In h) (Gm : h.Ns mainGlobals mg) (c : He.SaysX fa fn [] tf exf w h K) : ∃ fd, DefC (gx K).K mg "_far_row" (topS 23) (He.ga K "_far_row") fd (.ref (He.codeOf K ("_far_row", none))) := by
  obtain ⟨fd, F⟩ := c.t.d.def_ 10 (d := dD "_far_row" 23) rfl
  exact ⟨fd, defC_of F (He.glo_ok X Gm (c.t.d.fact 10 (f := .glo "_far_row") rfl))⟩
theorem c_refuse_apart (X : K.In h) (Gm : h.Ns mainGlobals mg) (c : He.SaysX fa fn [] tf exf w h K) : ∃ fd, DefC (gx K).K mg "refuse_apart" (topS 25) (He.ga K "refuse_apart") fd (.ref (He.codeOf K ("refuse_apart", none))) := by
  obtain ⟨fd, F⟩ := c.t.d.def_ 11 (d := dD "refuse_apart" 25) rfl
  exact ⟨fd, defC_of F (He.glo_ok X Gm (c.t.d.fact 11 (f := .glo "refuse_apart") rfl))⟩
theorem c_nearest_of (X : K.In h) (Gm : h.Ns mainGlobals mg) (c : He.SaysX fa fn [] tf exf w h K) : ∃ fd, DefC (gx K).K mg "nearest_of" (topS 28) (He.ga K "nearest_of") fd (.ref (He.codeOf K ("nearest_of", none))) := by
  obtain ⟨fd, F⟩ := c.t.d.def_ 12 (d := dD "nearest_of" 28) rfl
  exact ⟨fd, defC_of F (He.glo_ok X Gm (c.t.d.fact 12 (f := .glo "nearest_of") rfl))⟩
theorem c__are_places (X : K.In h) (Gm : h.Ns mainGlobals mg) (c : He.SaysX fa fn [] tf exf w h K) : ∃ fd, DefC (gx K).K mg "_are_places" (topS 29) (He.ga K "_are_places") fd (.ref (He.codeOf K ("_are_places", none))) := by
  obtain ⟨fd, F⟩ := c.t.d.def_ 13 (d := dD "_are_places" 29) rfl
  exact ⟨fd, defC_of F (He.glo_ok X Gm (c.t.d.fact 13 (f := .glo "_are_places") rfl))⟩
theorem c__law_cell_at (X : K.In h) (Gm : h.Ns mainGlobals mg) (c : He.SaysX fa fn [] tf exf w h K) : ∃ fd, DefC (gx K).K mg "_law_cell_at" (topS 31) (He.ga K "_law_cell_at") fd (.ref (He.codeOf K ("_law_cell_at", none))) := by
  obtain ⟨fd, F⟩ := c.t.d.def_ 14 (d := dD "_law_cell_at" 31) rfl
  exact ⟨fd, defC_of F (He.glo_ok X Gm (c.t.d.fact 14 (f := .glo "_law_cell_at") rfl))⟩
theorem c__law_next (X : K.In h) (Gm : h.Ns mainGlobals mg) (c : He.SaysX fa fn [] tf exf w h K) : ∃ fd, DefC (gx K).K mg "_law_next" (topS 32) (He.ga K "_law_next") fd (.ref (He.codeOf K ("_law_next", none))) := by
  obtain ⟨fd, F⟩ := c.t.d.def_ 15 (d := dD "_law_next" 32) rfl
  exact ⟨fd, defC_of F (He.glo_ok X Gm (c.t.d.fact 15 (f := .glo "_law_next") rfl))⟩
theorem c__law_pen_of (X : K.In h) (Gm : h.Ns mainGlobals mg) (c : He.SaysX fa fn [] tf exf w h K) : ∃ fd, DefC (gx K).K mg "_law_pen_of" (topS 33) (He.ga K "_law_pen_of") fd (.ref (He.codeOf K ("_law_pen_of", none))) := by
  obtain ⟨fd, F⟩ := c.t.d.def_ 16 (d := dD "_law_pen_of" 33) rfl
  exact ⟨fd, defC_of F (He.glo_ok X Gm (c.t.d.fact 16 (f := .glo "_law_pen_of") rfl))⟩
theorem c__law_draw (X : K.In h) (Gm : h.Ns mainGlobals mg) (c : He.SaysX fa fn [] tf exf w h K) : ∃ fd, DefC (gx K).K mg "_law_draw" (topS 34) (He.ga K "_law_draw") fd (.ref (He.codeOf K ("_law_draw", none))) := by
  obtain ⟨fd, F⟩ := c.t.d.def_ 17 (d := dD "_law_draw" 34) rfl
  exact ⟨fd, defC_of F (He.glo_ok X Gm (c.t.d.fact 17 (f := .glo "_law_draw") rfl))⟩
theorem c__law_whole (X : K.In h) (Gm : h.Ns mainGlobals mg) (c : He.SaysX fa fn [] tf exf w h K) : ∃ fd, DefC (gx K).K mg "_law_whole" (topS 35) (He.ga K "_law_whole") fd (.ref (He.codeOf K ("_law_whole", none))) := by
  obtain ⟨fd, F⟩ := c.t.d.def_ 18 (d := dD "_law_whole" 35) rfl
  exact ⟨fd, defC_of F (He.glo_ok X Gm (c.t.d.fact 18 (f := .glo "_law_whole") rfl))⟩
theorem c__law_kind_of (X : K.In h) (Gm : h.Ns mainGlobals mg) (c : He.SaysX fa fn [] tf exf w h K) : ∃ fd, DefC (gx K).K mg "_law_kind_of" (topS 36) (He.ga K "_law_kind_of") fd (.ref (He.codeOf K ("_law_kind_of", none))) := by
  obtain ⟨fd, F⟩ := c.t.d.def_ 19 (d := dD "_law_kind_of" 36) rfl
  exact ⟨fd, defC_of F (He.glo_ok X Gm (c.t.d.fact 19 (f := .glo "_law_kind_of") rfl))⟩
theorem c__law_mixed (X : K.In h) (Gm : h.Ns mainGlobals mg) (c : He.SaysX fa fn [] tf exf w h K) : ∃ fd, DefC (gx K).K mg "_law_mixed" (topS 37) (He.ga K "_law_mixed") fd (.ref (He.codeOf K ("_law_mixed", none))) := by
  obtain ⟨fd, F⟩ := c.t.d.def_ 20 (d := dD "_law_mixed" 37) rfl
  exact ⟨fd, defC_of F (He.glo_ok X Gm (c.t.d.fact 20 (f := .glo "_law_mixed") rfl))⟩
theorem c__law_web_of (X : K.In h) (Gm : h.Ns mainGlobals mg) (c : He.SaysX fa fn [] tf exf w h K) : ∃ fd, DefC (gx K).K mg "_law_web_of" (topS 38) (He.ga K "_law_web_of") fd (.ref (He.codeOf K ("_law_web_of", none))) := by
  obtain ⟨fd, F⟩ := c.t.d.def_ 21 (d := dD "_law_web_of" 38) rfl
  exact ⟨fd, defC_of F (He.glo_ok X Gm (c.t.d.fact 21 (f := .glo "_law_web_of") rfl))⟩
theorem c__law_unlike (X : K.In h) (Gm : h.Ns mainGlobals mg) (c : He.SaysX fa fn [] tf exf w h K) : ∃ fd, DefC (gx K).K mg "_law_unlike" (topS 39) (He.ga K "_law_unlike") fd (.ref (He.codeOf K ("_law_unlike", none))) := by
  obtain ⟨fd, F⟩ := c.t.d.def_ 22 (d := dD "_law_unlike" 39) rfl
  exact ⟨fd, defC_of F (He.glo_ok X Gm (c.t.d.fact 22 (f := .glo "_law_unlike") rfl))⟩
theorem c__law_web_by (X : K.In h) (Gm : h.Ns mainGlobals mg) (c : He.SaysX fa fn [] tf exf w h K) : ∃ fd, DefC (gx K).K mg "_law_web_by" (topS 40) (He.ga K "_law_web_by") fd (.ref (He.codeOf K ("_law_web_by", none))) := by
  obtain ⟨fd, F⟩ := c.t.d.def_ 23 (d := dD "_law_web_by" 40) rfl
  exact ⟨fd, defC_of F (He.glo_ok X Gm (c.t.d.fact 23 (f := .glo "_law_web_by") rfl))⟩
theorem c__law_lying (X : K.In h) (Gm : h.Ns mainGlobals mg) (c : He.SaysX fa fn [] tf exf w h K) : ∃ fd, DefC (gx K).K mg "_law_lying" (topS 41) (He.ga K "_law_lying") fd (.ref (He.codeOf K ("_law_lying", none))) := by
  obtain ⟨fd, F⟩ := c.t.d.def_ 24 (d := dD "_law_lying" 41) rfl
  exact ⟨fd, defC_of F (He.glo_ok X Gm (c.t.d.fact 24 (f := .glo "_law_lying") rfl))⟩
theorem c__law_joined_web (X : K.In h) (Gm : h.Ns mainGlobals mg) (c : He.SaysX fa fn [] tf exf w h K) : ∃ fd, DefC (gx K).K mg "_law_joined_web" (topS 42) (He.ga K "_law_joined_web") fd (.ref (He.codeOf K ("_law_joined_web", none))) := by
  obtain ⟨fd, F⟩ := c.t.d.def_ 25 (d := dD "_law_joined_web" 42) rfl
  exact ⟨fd, defC_of F (He.glo_ok X Gm (c.t.d.fact 25 (f := .glo "_law_joined_web") rfl))⟩
theorem c__law_fars (X : K.In h) (Gm : h.Ns mainGlobals mg) (c : He.SaysX fa fn [] tf exf w h K) : ∃ fd, DefC (gx K).K mg "_law_fars" (topS 43) (He.ga K "_law_fars") fd (.ref (He.codeOf K ("_law_fars", none))) := by
  obtain ⟨fd, F⟩ := c.t.d.def_ 26 (d := dD "_law_fars" 43) rfl
  exact ⟨fd, defC_of F (He.glo_ok X Gm (c.t.d.fact 26 (f := .glo "_law_fars") rfl))⟩
theorem c__law_no_place (X : K.In h) (Gm : h.Ns mainGlobals mg) (c : He.SaysX fa fn [] tf exf w h K) : ∃ fd, DefC (gx K).K mg "_law_no_place" (topS 44) (He.ga K "_law_no_place") fd (.ref (He.codeOf K ("_law_no_place", none))) := by
  obtain ⟨fd, F⟩ := c.t.d.def_ 27 (d := dD "_law_no_place" 44) rfl
  exact ⟨fd, defC_of F (He.glo_ok X Gm (c.t.d.fact 27 (f := .glo "_law_no_place") rfl))⟩
theorem c__law_tuple_is (X : K.In h) (Gm : h.Ns mainGlobals mg) (c : He.SaysX fa fn [] tf exf w h K) : ∃ fd, DefC (gx K).K mg "_law_tuple_is" (topS 45) (He.ga K "_law_tuple_is") fd (.ref (He.codeOf K ("_law_tuple_is", none))) := by
  obtain ⟨fd, F⟩ := c.t.d.def_ 28 (d := dD "_law_tuple_is" 45) rfl
  exact ⟨fd, defC_of F (He.glo_ok X Gm (c.t.d.fact 28 (f := .glo "_law_tuple_is") rfl))⟩
theorem c__law_told (X : K.In h) (Gm : h.Ns mainGlobals mg) (c : He.SaysX fa fn [] tf exf w h K) : ∃ fd, DefC (gx K).K mg "_law_told" (topS 46) (He.ga K "_law_told") fd (.ref (He.codeOf K ("_law_told", none))) := by
  obtain ⟨fd, F⟩ := c.t.d.def_ 29 (d := dD "_law_told" 46) rfl
  exact ⟨fd, defC_of F (He.glo_ok X Gm (c.t.d.fact 29 (f := .glo "_law_told") rfl))⟩
theorem c__law_right (X : K.In h) (Gm : h.Ns mainGlobals mg) (c : He.SaysX fa fn [] tf exf w h K) : ∃ fd, DefC (gx K).K mg "_law_right" (topS 47) (He.ga K "_law_right") fd (.ref (He.codeOf K ("_law_right", none))) := by
  obtain ⟨fd, F⟩ := c.t.d.def_ 30 (d := dD "_law_right" 47) rfl
  exact ⟨fd, defC_of F (He.glo_ok X Gm (c.t.d.fact 30 (f := .glo "_law_right") rfl))⟩
theorem c_law (X : K.In h) (Gm : h.Ns mainGlobals mg) (c : He.SaysX fa fn [] tf exf w h K) : ∃ fd, DefC (gx K).K mg "law" (topS 48) (He.ga K "law") fd (.ref (He.codeOf K ("law", none))) := by
  obtain ⟨fd, F⟩ := c.t.d.def_ 31 (d := dD "law" 48) rfl
  exact ⟨fd, defC_of F (He.glo_ok X Gm (c.t.d.fact 31 (f := .glo "law") rfl))⟩
theorem kds (c : He.SaysX fa fn [] tf exf w h K) : Kinds K (gx K).ca 8 ∧ ∀ c, c < 8 → PySem.W.exmOne K (.ref ((gx K).ca c)) (.ref (He.ga K "CubeError")) = some true := kindsB_ok (xs := clsL) (K := K) (by decide) (Bool.and_eq_true_iff.mp c.more).1
theorem moreF (c : He.SaysX fa fn [] tf exf w h K) : bareB clsL [] K = true := by
  have h := (Bool.and_eq_true_iff.mp c.more).2
  first
    | exact h
    | (simp only [Bool.and_eq_true] at h; exact h)
theorem u_is_whole (X : K.In h) (Gm : h.Ns mainGlobals mg) (c : He.SaysX fa fn [] tf exf w h K) (hT : ∀ p ∈ tf.map (He.cT K), LamX.TabB base mg p.1 p.2) : Own P w (gx K) mg base "is_whole" 1 1 d_is_whole := by
  obtain ⟨fd, F⟩ := c_is_whole X Gm c
  exact own_of F (f_is_whole F (He.free_ok X Gm (c.t.d.fact 37 (f := .free "bool") rfl)) (He.free_ok X Gm (c.t.d.fact 38 (f := .free "int") rfl)) (He.free_ok X Gm (c.t.d.fact 39 (f := .free "isinstance") rfl))) bi_is_whole
theorem u_is_below (X : K.In h) (Gm : h.Ns mainGlobals mg) (c : He.SaysX fa fn [] tf exf w h K) (hT : ∀ p ∈ tf.map (He.cT K), LamX.TabB base mg p.1 p.2) : Own P w (gx K) mg base "is_below" 2 2 d_is_below := by
  obtain ⟨fd, F⟩ := c_is_below X Gm c
  exact own_of F (f_is_below F (u_is_whole X Gm c hT)) bi_is_below
theorem u_all_below (X : K.In h) (Gm : h.Ns mainGlobals mg) (c : He.SaysX fa fn [] tf exf w h K) (hT : ∀ p ∈ tf.map (He.cT K), LamX.TabB base mg p.1 p.2) : Own P w (gx K) mg base "all_below" 4 3 d_all_below := by
  obtain ⟨fd, F⟩ := c_all_below X Gm c
  exact own_of F (f_all_below F (u_is_below X Gm c hT) (He.free_ok X Gm (c.t.d.fact 36 (f := .free "all") rfl)) (He.free_ok X Gm (c.t.d.fact 39 (f := .free "isinstance") rfl)) (He.free_ok X Gm (c.t.d.fact 40 (f := .free "len") rfl)) (He.free_ok X Gm (c.t.d.fact 48 (f := .free "tuple") rfl)) rfl (hT _ (cs_m (x := "all_below") (by decide +kernel))) (tb_m (x := "all_below") (by decide +kernel))) bi_all_below
theorem u_is_rising (X : K.In h) (Gm : h.Ns mainGlobals mg) (c : He.SaysX fa fn [] tf exf w h K) (hT : ∀ p ∈ tf.map (He.cT K), LamX.TabB base mg p.1 p.2) : Own P w (gx K) mg base "is_rising" 2 1 d_is_rising := by
  obtain ⟨fd, F⟩ := c_is_rising X Gm c
  exact own_of F (f_is_rising F (He.free_ok X Gm (c.t.d.fact 36 (f := .free "all") rfl)) (He.free_ok X Gm (c.t.d.fact 40 (f := .free "len") rfl)) (He.free_ok X Gm (c.t.d.fact 44 (f := .free "range") rfl)) rfl (hT _ (cs_m (x := "is_rising") (by decide +kernel))) (tb_m (x := "is_rising") (by decide +kernel))) bi_is_rising
theorem u__many_good (X : K.In h) (Gm : h.Ns mainGlobals mg) (c : He.SaysX fa fn [] tf exf w h K) (hT : ∀ p ∈ tf.map (He.cT K), LamX.TabB base mg p.1 p.2) : Own P w (gx K) mg base "_many_good" 2 1 d__many_good := by
  obtain ⟨fd, F⟩ := c__many_good X Gm c
  obtain ⟨t_MOST_PLACES, e_MOST_PLACES⟩ := (He.int_ok X Gm (c.t.d.fact 33 (f := .int "MOST_PLACES" 8) rfl))
  exact own_of F (f__many_good F (u_is_whole X Gm c hT) e_MOST_PLACES) bi__many_good
theorem u__tie_good (X : K.In h) (Gm : h.Ns mainGlobals mg) (c : He.SaysX fa fn [] tf exf w h K) (hT : ∀ p ∈ tf.map (He.cT K), LamX.TabB base mg p.1 p.2) : Own P w (gx K) mg base "_tie_good" 5 2 d__tie_good := by
  obtain ⟨fd, F⟩ := c__tie_good X Gm c
  exact own_of F (f__tie_good F (u_all_below X Gm c hT)) bi__tie_good
theorem u_web_good (X : K.In h) (Gm : h.Ns mainGlobals mg) (c : He.SaysX fa fn [] tf exf w h K) (hT : ∀ p ∈ tf.map (He.cT K), LamX.TabB base mg p.1 p.2) : Own P w (gx K) mg base "web_good" 7 1 d_web_good := by
  obtain ⟨fd, F⟩ := c_web_good X Gm c
  exact own_of F (f_web_good F (u__many_good X Gm c hT) (u__tie_good X Gm c hT) (u_is_rising X Gm c hT) (He.free_ok X Gm (c.t.d.fact 36 (f := .free "all") rfl)) (He.free_ok X Gm (c.t.d.fact 39 (f := .free "isinstance") rfl)) (He.free_ok X Gm (c.t.d.fact 40 (f := .free "len") rfl)) (He.free_ok X Gm (c.t.d.fact 48 (f := .free "tuple") rfl)) rfl (hT _ (cs_m (x := "web_good") (by decide +kernel))) (tb_m (x := "web_good") (by decide +kernel))) bi_web_good
theorem u_near_table (X : K.In h) (Gm : h.Ns mainGlobals mg) (c : He.SaysX fa fn [] tf exf w h K) (hT : ∀ p ∈ tf.map (He.cT K), LamX.TabB base mg p.1 p.2) : Own P w (gx K) mg base "near_table" 1 1 d_near_table := by
  obtain ⟨fd, F⟩ := c_near_table X Gm c
  exact own_of F (f_near_table F (He.free_ok X Gm (c.t.d.fact 44 (f := .free "range") rfl))) bi_near_table
theorem u__far_row (X : K.In h) (Gm : h.Ns mainGlobals mg) (c : He.SaysX fa fn [] tf exf w h K) (hT : ∀ p ∈ tf.map (He.cT K), LamX.TabB base mg p.1 p.2) : Own P w (gx K) mg base "_far_row" 1 2 d__far_row := by
  obtain ⟨fd, F⟩ := c__far_row X Gm c
  exact own_of F (f__far_row F (He.free_ok X Gm (c.t.d.fact 40 (f := .free "len") rfl))) bi__far_row
theorem u_far_table (X : K.In h) (Gm : h.Ns mainGlobals mg) (c : He.SaysX fa fn [] tf exf w h K) (hT : ∀ p ∈ tf.map (He.cT K), LamX.TabB base mg p.1 p.2) : Own P w (gx K) mg base "far_table" 2 1 d_far_table := by
  obtain ⟨fd, F⟩ := c_far_table X Gm c
  exact own_of F (f_far_table F (u_near_table X Gm c hT) (u__far_row X Gm c hT) (He.free_ok X Gm (c.t.d.fact 44 (f := .free "range") rfl))) bi_far_table
theorem u_is_joined (X : K.In h) (Gm : h.Ns mainGlobals mg) (c : He.SaysX fa fn [] tf exf w h K) (hT : ∀ p ∈ tf.map (He.cT K), LamX.TabB base mg p.1 p.2) : Own P w (gx K) mg base "is_joined" 2 1 d_is_joined := by
  obtain ⟨fd, F⟩ := c_is_joined X Gm c
  exact own_of F (f_is_joined F (u__far_row X Gm c hT) (u_near_table X Gm c hT)) bi_is_joined
theorem u_refuse_apart (X : K.In h) (Gm : h.Ns mainGlobals mg) (c : He.SaysX fa fn [] tf exf w h K) (hT : ∀ p ∈ tf.map (He.cT K), LamX.TabB base mg p.1 p.2) : Own P w (gx K) mg base "refuse_apart" 8 1 d_refuse_apart := by
  obtain ⟨fd, F⟩ := c_refuse_apart X Gm c
  exact own_of F (f_refuse_apart F (u_web_good X Gm c hT) (u_is_joined X Gm c hT) (He.glo_ok X Gm (c.t.d.fact 49 (f := .glo "Apart") rfl)) (excN_of (c.t.d.fact 58 (f := .exc "Apart") rfl))) bi_refuse_apart
theorem u__are_places (X : K.In h) (Gm : h.Ns mainGlobals mg) (c : He.SaysX fa fn [] tf exf w h K) (hT : ∀ p ∈ tf.map (He.cT K), LamX.TabB base mg p.1 p.2) : Own P w (gx K) mg base "_are_places" 5 2 d__are_places := by
  obtain ⟨fd, F⟩ := c__are_places X Gm c
  obtain ⟨t_MOST_NEARED, e_MOST_NEARED⟩ := (He.int_ok X Gm (c.t.d.fact 32 (f := .int "MOST_NEARED" 12) rfl))
  exact own_of F (f__are_places F (u_all_below X Gm c hT) (He.free_ok X Gm (c.t.d.fact 39 (f := .free "isinstance") rfl)) (He.free_ok X Gm (c.t.d.fact 40 (f := .free "len") rfl)) (He.free_ok X Gm (c.t.d.fact 41 (f := .free "list") rfl)) (He.free_ok X Gm (c.t.d.fact 48 (f := .free "tuple") rfl)) e_MOST_NEARED) bi__are_places
theorem u_nearest_of (X : K.In h) (Gm : h.Ns mainGlobals mg) (c : He.SaysX fa fn [] tf exf w h K) (hT : ∀ p ∈ tf.map (He.cT K), LamX.TabB base mg p.1 p.2) : Own P w (gx K) mg base "nearest_of" 9 2 d_nearest_of := by
  obtain ⟨fd, F⟩ := c_nearest_of X Gm c
  exact own_of F (f_nearest_of F (u_refuse_apart X Gm c hT) (u__are_places X Gm c hT) (u_far_table X Gm c hT) (He.glo_ok X Gm (c.t.d.fact 53 (f := .glo "NoPlace") rfl)) (excN_of (c.t.d.fact 59 (f := .exc "NoPlace") rfl)) (He.free_ok X Gm (c.t.d.fact 43 (f := .free "min") rfl)) (He.free_ok X Gm (c.t.d.fact 44 (f := .free "range") rfl)) (He.free_ok X Gm (c.t.d.fact 47 (f := .free "sum") rfl)) (He.free_ok X Gm (c.t.d.fact 48 (f := .free "tuple") rfl))) bi_nearest_of
theorem u__law_cell_at (X : K.In h) (Gm : h.Ns mainGlobals mg) (c : He.SaysX fa fn [] tf exf w h K) (hT : ∀ p ∈ tf.map (He.cT K), LamX.TabB base mg p.1 p.2) : Own P w (gx K) mg base "_law_cell_at" 1 2 d__law_cell_at := by
  obtain ⟨fd, F⟩ := c__law_cell_at X Gm c
  exact own_of F (f__law_cell_at F (He.free_ok X Gm (c.t.d.fact 40 (f := .free "len") rfl))) bi__law_cell_at
theorem u__law_next (X : K.In h) (Gm : h.Ns mainGlobals mg) (c : He.SaysX fa fn [] tf exf w h K) (hT : ∀ p ∈ tf.map (He.cT K), LamX.TabB base mg p.1 p.2) : Own P w (gx K) mg base "_law_next" 1 1 d__law_next := by
  obtain ⟨fd, F⟩ := c__law_next X Gm c
  exact own_of F (f__law_next F ) bi__law_next
theorem u__law_pen_of (X : K.In h) (Gm : h.Ns mainGlobals mg) (c : He.SaysX fa fn [] tf exf w h K) (hT : ∀ p ∈ tf.map (He.cT K), LamX.TabB base mg p.1 p.2) : Own P w (gx K) mg base "_law_pen_of" 1 1 d__law_pen_of := by
  obtain ⟨fd, F⟩ := c__law_pen_of X Gm c
  exact own_of F (f__law_pen_of F (He.free_ok X Gm (c.t.d.fact 38 (f := .free "int") rfl)) (He.free_ok X Gm (c.t.d.fact 42 (f := .free "max") rfl))) bi__law_pen_of
theorem u__law_draw (X : K.In h) (Gm : h.Ns mainGlobals mg) (c : He.SaysX fa fn [] tf exf w h K) (hT : ∀ p ∈ tf.map (He.cT K), LamX.TabB base mg p.1 p.2) : Own P w (gx K) mg base "_law_draw" 2 2 d__law_draw := by
  obtain ⟨fd, F⟩ := c__law_draw X Gm c
  exact own_of F (f__law_draw F (u__law_next X Gm c hT)) bi__law_draw
theorem u__law_whole (X : K.In h) (Gm : h.Ns mainGlobals mg) (c : He.SaysX fa fn [] tf exf w h K) (hT : ∀ p ∈ tf.map (He.cT K), LamX.TabB base mg p.1 p.2) : Own P w (gx K) mg base "_law_whole" 1 1 d__law_whole := by
  obtain ⟨fd, F⟩ := c__law_whole X Gm c
  exact own_of F (f__law_whole F (He.free_ok X Gm (c.t.d.fact 37 (f := .free "bool") rfl)) (He.free_ok X Gm (c.t.d.fact 38 (f := .free "int") rfl)) (He.free_ok X Gm (c.t.d.fact 39 (f := .free "isinstance") rfl))) bi__law_whole
theorem u__law_kind_of (X : K.In h) (Gm : h.Ns mainGlobals mg) (c : He.SaysX fa fn [] tf exf w h K) (hT : ∀ p ∈ tf.map (He.cT K), LamX.TabB base mg p.1 p.2) : OwnE P w (gx K) mg base "_law_kind_of" 8 1 zK := by
  obtain ⟨fd, F⟩ := c__law_kind_of X Gm c
  exact own_ofE F (f__law_kind_of rfl (kds c).1 F (He.glo_ok X Gm (c.t.d.fact 49 (f := .glo "Apart") rfl)) (He.glo_ok X Gm (c.t.d.fact 51 (f := .glo "NoCube") rfl)) (He.glo_ok X Gm (c.t.d.fact 52 (f := .glo "NoLine") rfl)) (He.glo_ok X Gm (c.t.d.fact 53 (f := .glo "NoPlace") rfl)) (He.glo_ok X Gm (c.t.d.fact 54 (f := .glo "NoText") rfl)) (He.glo_ok X Gm (c.t.d.fact 55 (f := .glo "NoTie") rfl)) (He.glo_ok X Gm (c.t.d.fact 56 (f := .glo "NoWeb") rfl)) (He.glo_ok X Gm (c.t.d.fact 57 (f := .glo "TooGreat") rfl)) (He.free_ok X Gm (c.t.d.fact 34 (f := .free "ValueError") rfl)) (He.free_ok X Gm (c.t.d.fact 39 (f := .free "isinstance") rfl))) bi__law_kind_of
theorem u__law_mixed (X : K.In h) (Gm : h.Ns mainGlobals mg) (c : He.SaysX fa fn [] tf exf w h K) (hT : ∀ p ∈ tf.map (He.cT K), LamX.TabB base mg p.1 p.2) : Own P w (gx K) mg base "_law_mixed" 3 2 d__law_mixed := by
  obtain ⟨fd, F⟩ := c__law_mixed X Gm c
  exact own_of F (f__law_mixed F (u__law_draw X Gm c hT) (He.free_ok X Gm (c.t.d.fact 40 (f := .free "len") rfl)) (He.free_ok X Gm (c.t.d.fact 41 (f := .free "list") rfl))) bi__law_mixed
theorem u__law_web_of (X : K.In h) (Gm : h.Ns mainGlobals mg) (c : He.SaysX fa fn [] tf exf w h K) (hT : ∀ p ∈ tf.map (He.cT K), LamX.TabB base mg p.1 p.2) : Own P w (gx K) mg base "_law_web_of" 1 2 d__law_web_of := by
  obtain ⟨fd, F⟩ := c__law_web_of X Gm c
  exact own_of F (f__law_web_of F (He.free_ok X Gm (c.t.d.fact 42 (f := .free "max") rfl)) (He.free_ok X Gm (c.t.d.fact 43 (f := .free "min") rfl)) (He.free_ok X Gm (c.t.d.fact 45 (f := .free "set") rfl)) (He.free_ok X Gm (c.t.d.fact 46 (f := .free "sorted") rfl)) (He.free_ok X Gm (c.t.d.fact 48 (f := .free "tuple") rfl))) bi__law_web_of
theorem u__law_unlike (X : K.In h) (Gm : h.Ns mainGlobals mg) (c : He.SaysX fa fn [] tf exf w h K) (hT : ∀ p ∈ tf.map (He.cT K), LamX.TabB base mg p.1 p.2) : Own P w (gx K) mg base "_law_unlike" 1 2 d__law_unlike := by
  obtain ⟨fd, F⟩ := c__law_unlike X Gm c
  exact own_of F (f__law_unlike F (He.free_ok X Gm (c.t.d.fact 40 (f := .free "len") rfl)) (He.free_ok X Gm (c.t.d.fact 44 (f := .free "range") rfl))) bi__law_unlike
theorem u__law_web_by (X : K.In h) (Gm : h.Ns mainGlobals mg) (c : He.SaysX fa fn [] tf exf w h K) (hT : ∀ p ∈ tf.map (He.cT K), LamX.TabB base mg p.1 p.2) : Own P w (gx K) mg base "_law_web_by" 2 1 d__law_web_by := by
  obtain ⟨fd, F⟩ := c__law_web_by X Gm c
  exact own_of F (f__law_web_by F (u__law_unlike X Gm c hT) (u__law_web_of X Gm c hT) (He.free_ok X Gm (c.t.d.fact 40 (f := .free "len") rfl)) (He.free_ok X Gm (c.t.d.fact 44 (f := .free "range") rfl))) bi__law_web_by
theorem u__law_lying (X : K.In h) (Gm : h.Ns mainGlobals mg) (c : He.SaysX fa fn [] tf exf w h K) (hT : ∀ p ∈ tf.map (He.cT K), LamX.TabB base mg p.1 p.2) : Own P w (gx K) mg base "_law_lying" 4 2 d__law_lying := by
  obtain ⟨fd, F⟩ := c__law_lying X Gm c
  exact own_of F (f__law_lying F (u__law_draw X Gm c hT) (u__law_mixed X Gm c hT) (He.free_ok X Gm (c.t.d.fact 35 (f := .free "abs") rfl)) (He.free_ok X Gm (c.t.d.fact 40 (f := .free "len") rfl)) (He.free_ok X Gm (c.t.d.fact 41 (f := .free "list") rfl)) (He.free_ok X Gm (c.t.d.fact 44 (f := .free "range") rfl)) (He.free_ok X Gm (c.t.d.fact 48 (f := .free "tuple") rfl))) bi__law_lying
theorem u__law_joined_web (X : K.In h) (Gm : h.Ns mainGlobals mg) (c : He.SaysX fa fn [] tf exf w h K) (hT : ∀ p ∈ tf.map (He.cT K), LamX.TabB base mg p.1 p.2) : Own P w (gx K) mg base "_law_joined_web" 5 1 d__law_joined_web := by
  obtain ⟨fd, F⟩ := c__law_joined_web X Gm c
  exact own_of F (f__law_joined_web F (u__law_draw X Gm c hT) (u__law_web_by X Gm c hT) (u__law_lying X Gm c hT) (u__law_mixed X Gm c hT) (u__law_web_of X Gm c hT) (He.free_ok X Gm (c.t.d.fact 41 (f := .free "list") rfl)) (He.free_ok X Gm (c.t.d.fact 44 (f := .free "range") rfl))) bi__law_joined_web
theorem u__law_fars (X : K.In h) (Gm : h.Ns mainGlobals mg) (c : He.SaysX fa fn [] tf exf w h K) (hT : ∀ p ∈ tf.map (He.cT K), LamX.TabB base mg p.1 p.2) : Own P w (gx K) mg base "_law_fars" 1 1 d__law_fars := by
  obtain ⟨fd, F⟩ := c__law_fars X Gm c
  exact own_of F (f__law_fars F (He.free_ok X Gm (c.t.d.fact 38 (f := .free "int") rfl)) (He.free_ok X Gm (c.t.d.fact 43 (f := .free "min") rfl)) (He.free_ok X Gm (c.t.d.fact 44 (f := .free "range") rfl))) bi__law_fars
theorem u__law_no_place (X : K.In h) (Gm : h.Ns mainGlobals mg) (c : He.SaysX fa fn [] tf exf w h K) (hT : ∀ p ∈ tf.map (He.cT K), LamX.TabB base mg p.1 p.2) : Own P w (gx K) mg base "_law_no_place" 3 2 d__law_no_place := by
  obtain ⟨fd, F⟩ := c__law_no_place X Gm c
  exact own_of F (f__law_no_place F (u__law_draw X Gm c hT)) bi__law_no_place
theorem u__law_tuple_is (X : K.In h) (Gm : h.Ns mainGlobals mg) (c : He.SaysX fa fn [] tf exf w h K) (hT : ∀ p ∈ tf.map (He.cT K), LamX.TabB base mg p.1 p.2) : Own P w (gx K) mg base "_law_tuple_is" 2 2 d__law_tuple_is := by
  obtain ⟨fd, F⟩ := c__law_tuple_is X Gm c
  exact own_of F (f__law_tuple_is F (u__law_whole X Gm c hT) (He.free_ok X Gm (c.t.d.fact 36 (f := .free "all") rfl)) (He.free_ok X Gm (c.t.d.fact 39 (f := .free "isinstance") rfl)) (He.free_ok X Gm (c.t.d.fact 48 (f := .free "tuple") rfl))) bi__law_tuple_is
theorem u__law_told (X : K.In h) (Gm : h.Ns mainGlobals mg) (c : He.SaysX fa fn [] tf exf w h K) (hT : ∀ p ∈ tf.map (He.cT K), LamX.TabB base mg p.1 p.2) : Own P w (gx K) mg base "_law_told" 10 2 d__law_told := by
  obtain ⟨fd, F⟩ := c__law_told X Gm c
  exact own_of F (f__law_told F (u_nearest_of X Gm c hT) rfl (kds c).1 (u__law_kind_of X Gm c hT) (He.glo_ok X Gm (c.t.d.fact 50 (f := .glo "CubeError") rfl)) (kds c).2) bi__law_told
theorem u__law_right (X : K.In h) (Gm : h.Ns mainGlobals mg) (c : He.SaysX fa fn [] tf exf w h K) (hT : ∀ p ∈ tf.map (He.cT K), LamX.TabB base mg p.1 p.2) : Own P w (gx K) mg base "_law_right" 11 3 d__law_right := by
  obtain ⟨fd, F⟩ := c__law_right X Gm c
  exact own_of F (f__law_right F (u__law_told X Gm c hT) (u__law_tuple_is X Gm c hT) (He.free_ok X Gm (c.t.d.fact 41 (f := .free "list") rfl)) (He.free_ok X Gm (c.t.d.fact 43 (f := .free "min") rfl)) (He.free_ok X Gm (c.t.d.fact 44 (f := .free "range") rfl)) (He.free_ok X Gm (c.t.d.fact 47 (f := .free "sum") rfl)) (He.free_ok X Gm (c.t.d.fact 48 (f := .free "tuple") rfl))) bi__law_right
end
/-- what is left: what the law is on trees -/
def Goal : Prop := ∀ ns : List Int, ns.length ≤ 63 → (∀ z ∈ ns, Builtin.Int.intBits z ≤ 1048576) → ∃ M, d_law [.scr (ns.map D.int)] [] = .ok (.bl true) M
theorem law_at (goal : Goal) {w : World} {mg : Str → Option Value} {fL : Addr} {h : Heap} {K : PySem.W.Frag} (X : K.In h) (c : He.SaysX fa fn [] tf exf w h K) (Gm : h.Ns mainGlobals mg) (hfa : mg "law" = some (.ref fL)) :
    ∃ (fd : FuncData) (cs : List (Addr × Addr)) (sp : Sp), LawG PySem.Challenge.rw_cubewebs_k43_nearest_places w K 12 63 "_law_script" mg fL h fd cs sp := by
  obtain ⟨fd, F⟩ := c_law X Gm c
  have e := hfa.symm.trans F.mgf
  cases e
  refine ⟨fd, tf.map (He.cT K), spF (gx K) 1 d_law, fun p hp => ?_, fun p hp => ?_, fun p hp => ?_, fun s u => ?_, fun H a ns h1 h2 h3 h4 => sp_law rfl rfl rfl h3 h4 (goal ns h1 h2), fun base X2 G2 hT => FnG.of (f_law F (u__law_told X Gm c hT) (u__law_cell_at X Gm c hT) (u__law_pen_of X Gm c hT) (u__law_joined_web X Gm c hT) (u__law_fars X Gm c hT) (u__law_draw X Gm c hT) (u__law_right X Gm c hT) (u__law_no_place X Gm c hT) (He.free_ok X Gm (c.t.d.fact 40 (f := .free "len") rfl)) (He.free_ok X Gm (c.t.d.fact 44 (f := .free "range") rfl)) (He.free_ok X Gm (c.t.d.fact 48 (f := .free "tuple") rfl)))⟩
  · obtain ⟨q, hq, rfl⟩ := List.mem_map.mp hp; exact c.empty q hq
  · obtain ⟨q, hq, rfl⟩ := List.mem_map.mp hp; exact c.out q hq
  · obtain ⟨q, hq, rfl⟩ := List.mem_map.mp hp; exact c.hd q hq
  · obtain ⟨oc, od, kV, doc, pm, an, ct, osl, rfl, lk⟩ := F.ex; exact .of_eq (bi_law kV doc pm an _ ct [u] rfl)
end Hd
open PySem PySem.W PySem.Calls PyProof.Rows Mi
set_option maxHeartbeats 0 in
theorem PySem.Challenge.cubewebs_k43_nearest_places_of (goal : Hd.Goal) : PySem.Challenge.rw_cubewebs_k43_nearest_places.Holds := by
  w_on; o_law
  refine HandSHeadRun.head_any (r := OpenLaw.row PySem.Challenge.rw_cubewebs_k43_nearest_places) (q := view (OpenLaw.row PySem.Challenge.rw_cubewebs_k43_nearest_places).prog [48]) (H := Hd.hk) (ob := Hd.ob) (M := 6000) (loose := Hd.loose) (d := HandSHeadRun.topDef (OpenLaw.row PySem.Challenge.rw_cubewebs_k43_nearest_places).prog 48) (kwd := []) Hd.ob_eq
    (by kernel_rfl) (fun s => by kernel_rfl) Hd.run (by kernel_rfl) (by kernel_rfl) (by kernel_rfl) (by rfl) (by first | assumption | decide +kernel) (by decide +kernel) ⟨rfl, rfl, rfl, rfl, rfl, by decide +kernel⟩ ?hw ?hc
  case hw => w_witness2
  case hc =>
    refine walkG (l := PySem.Challenge.rw_cubewebs_k43_nearest_places) (n := 63) (k := 12) (x := "_law_script") rfl (by decide) (by kernel_rfl) ⟨rfl, by decide, by decide⟩ ?F
    case F =>
      intro w mg fL h Y G hmg0
      obtain ⟨K, KX, c⟩ := Y
      have hmg : mg ("law" : PySem.Str) = some (.ref fL) := by
        have e : (HandSHeadRun.topDef (OpenLaw.row PySem.Challenge.rw_cubewebs_k43_nearest_places).prog 48).name = ("law" : PySem.Str) := by kernel_rfl
        rw [← e]
        exact hmg0
      obtain ⟨fd, cs, sp, L⟩ := Hd.law_at goal KX c G hmg
      exact ⟨K, fd, cs, sp, KX, L⟩

set_option Elab.async false
set_option linter.all false
set_option maxRecDepth 100000
namespace Hd
open Mi PySem PySem.Spec PyProof.Rows L2
theorem next_ok (s : Int) (M : Store) : ∃ r, 0 ≤ r ∧ d__law_next [.int s] M = .ok (.int r) M := by
  have h1 := Int.emod_nonneg (s + 7919) (b := 2147483647) (by decide)
  have h2 := Int.emod_lt_of_pos (s + 7919) (b := 2147483647) (by decide)
  generalize e : (s + 7919) % 2147483647 = t at h1 h2
  refine ⟨(t * t + 48271 * t + 12345) % 2147483629, Int.emod_nonneg _ (by decide), ?_⟩
  have b1 : CMulB t t := .inl ⟨by omega, by omega⟩
  have b2 : CMulB 48271 t := .inl ⟨by decide, by decide⟩
  unfold d__law_next runF b__law_next
  simp [mod_i, e, mul_i b1, mul_i b2, frzD, pureD]
/-- a pen in the store -/
def pen (a b c : Int) : Option Ob := some (.lst [.int a, .int b, .int c])
theorem draw_ok {M : Store} {l : Nat} {a b c m : Int} (hM : M[l]? = some (pen a b c)) (ha : 0 ≤ a) (hc : 0 ≤ c) (h1 : 1 ≤ m) (h2 : m < 1073741824) :
    ∃ r a' c', 0 ≤ r ∧ r < m ∧ 0 ≤ a' ∧ 0 ≤ c' ∧ d__law_draw [.loc l, .int m] M = .ok (.int r) (M.set l (pen a' b c')) := by
  have hm : 0 < m := by omega
  unfold pen at hM
  have hs : ∀ x, (M.set l x)[l]? = some x := fun x => get_set hM
  by_cases hb : b = 1
  · subst hb
    refine ⟨a % m, a / m, c, Int.emod_nonneg _ (by omega), Int.emod_lt_of_pos _ hm, Int.ediv_nonneg ha (by omega), hc, ?_⟩
    unfold d__law_draw runF b__law_draw
    simp [ix_loc hM, mod_i hm, fdiv_i hm h2, setD_loc hM, pureDs, pureD, frzD, pen]
  · obtain ⟨r1, h3, e1⟩ := next_ok c M
    obtain ⟨r2, h4, e2⟩ := next_ok (r1 + 7) M
    refine ⟨r2 / 64 % m, a, r2, Int.emod_nonneg _ (by omega), Int.emod_lt_of_pos _ hm, ha, h4, ?_⟩
    unfold d__law_draw runF b__law_draw
    have e3 : ∀ i : Int, opIx (.loc l) (.int i) (M.set l (some (.lst [.int a, .int b, .int r2]))) = _ := fun i => ix_loc (hs _)
    simp [ix_loc hM, hb, mod_i hm, fdiv_i, e1, e2, setD_loc hM, pureDs, pureD, frzD, pen, e3]
end Hd

set_option Elab.async false
set_option linter.all false
set_option maxRecDepth 100000
namespace Hd
open Mi PySem PySem.Spec PyProof.Rows L2
/-! ### data -/
mutual
def okD : D → Bool
  | .non => true
  | .bl _ => true
  | .int _ => true
  | .str _ => true
  | .tup xs => okDs xs
  | .lst xs => okDs xs
  | .dct0 => true
  | _ => false
def okDs : List D → Bool
  | [] => true
  | d :: ds => okD d && okDs ds
end
theorem okDs_iff : ∀ {xs : List D}, okDs xs = true ↔ ∀ x ∈ xs, okD x = true
  | [] => by simp [okDs]
  | x :: xs => by simp [okDs, okDs_iff]
mutual
theorem ok_pure : ∀ x : D, okD x = true → pureD x = true
  | .tup xs, h => by simp only [okD] at h; simp only [pureD]; exact oks_pure xs h
  | .lst xs, h => by simp only [okD] at h; simp only [pureD]; exact oks_pure xs h
  | .non, _ => rfl
  | .bl _, _ => rfl
  | .int _, _ => rfl
  | .str _, _ => rfl
  | .dct0, _ => rfl
  | .scr _, h => by simp [okD] at h
  | .loc _, h => by simp [okD] at h
  | .fn _, h => by simp [okD] at h
  | .cls _, h => by simp [okD] at h
  | .ty _, h => by simp [okD] at h
theorem oks_pure : ∀ xs : List D, okDs xs = true → pureDs xs = true
  | [], _ => rfl
  | x :: xs, h => by
    simp only [okDs, Bool.and_eq_true] at h
    simp only [pureDs, ok_pure x h.1, oks_pure xs h.2, Bool.and_self]
end
def isI : D → Bool
  | .int _ => true
  | _ => false
def isB : D → Bool
  | .bl _ => true
  | _ => false
def isT : D → Bool
  | .tup _ => true
  | _ => false
variable {M : Store} {x : D}
theorem isi_int (h : okD x = true) : biIsi [x, .ty "int"] M = .ok (.bl (isI x || isB x)) M := by
  cases x <;> simp [okD] at h <;> simp [biIsi, tyD, isiB, isI, isB]
theorem isi_bool (h : okD x = true) : biIsi [x, .ty "bool"] M = .ok (.bl (isB x)) M := by
  cases x <;> simp [okD] at h <;> simp [biIsi, tyD, isiB, isI, isB]
theorem isi_tup (h : okD x = true) : biIsi [x, .ty "tuple"] M = .ok (.bl (isT x)) M := by
  cases x <;> simp [okD] at h <;> simp [biIsi, tyD, isiB, isT]
@[simp] theorem frz_bl {b : Bool} : frzD M (.bl b) = some (.bl b, M) := by simp [frzD, pureD]
theorem whole_ok (h : okD x = true) : d_is_whole [x] M = .ok (.bl (isI x)) M := by
  unfold d_is_whole runF b_is_whole
  simp [isi_int h, isi_bool h]
  cases x <;> simp [isI, isB]
theorem lwhole_ok (h : okD x = true) : d__law_whole [x] M = .ok (.bl (isI x)) M := by
  unfold d__law_whole runF b__law_whole
  simp [isi_int h, isi_bool h]
  cases x <;> simp [isI, isB]
/-- a whole number from a to b, without b -/
def inR (a b : Int) : D → Bool
  | .int i => decide (a ≤ i) && decide (i < b)
  | _ => false
theorem below_ok {m : Int} (h : okD x = true) : d_is_below [x, .int m] M = .ok (.bl (inR 0 m x)) M := by
  unfold d_is_below runF b_is_below
  simp [whole_ok h]
  cases x <;> simp [isI, inR]
  rename_i i
  by_cases h0 : 0 ≤ i <;> simp [h0]
theorem many_ok (h : okD x = true) : d__many_good [x] M = .ok (.bl (inR 1 9 x)) M := by
  unfold d__many_good runF b__many_good
  simp [whole_ok h]
  cases x <;> simp [isI, inR]
  rename_i i
  by_cases h0 : 1 ≤ i <;> simp [h0]
  omega
/-- all(..) of truths that stay -/
theorem ga_all {j : Nat} {fe : Ev → Store → Res D} {p : D → Bool} {env : Ev} (hj : j < env.length) : ∀ (xs : List D), (∀ x ∈ xs, fe (env.set j (some x)) M = .ok (.bl (p x)) M) → gaD false (.nm j) evYes fe xs env M = .ok (xs.all p) M
  | [], _ => rfl
  | x :: xs, h => by
    have h1 := h x (by simp)
    have ih := ga_all hj xs fun y hy => h y (by simp [hy])
    simp only [gaD, asgP, hj, if_true, evYes, bindN_ok, h1, List.all_cons]
    cases p x with
    | true => simp [ih]
    | false => simp
theorem isT_tup (h : isT x = true) : ∃ xs, x = .tup xs := by
  cases x <;> simp [isT] at h
  exact ⟨_, rfl⟩
theorem isi_T {xs : List D} : biIsi [.tup xs, .ty "tuple"] M = .ok (.bl true) M := by simp [biIsi, tyD, isiB]
theorem isi_N (h : okD x = true) (ht : ¬ isT x = true) : biIsi [x, .ty "tuple"] M = .ok (.bl false) M := by
  rw [isi_tup h]; simp at ht; rw [ht]
/-- a tuple of s things, all so -/
def tupB (s : Int) (p : D → Bool) : D → Bool
  | .tup xs => decide ((xs.length : Int) = s) && xs.all p
  | _ => false
theorem tupB_N {s : Int} {p : D → Bool} (ht : ¬ isT x = true) : tupB s p x = false := by
  cases x <;> simp [isT] at ht <;> rfl
theorem allb_ok {s m : Int} (h : okD x = true) : d_all_below [x, .int s, .int m] M = .ok (.bl (tupB s (inR 0 m) x)) M := by
  unfold d_all_below runF b_all_below
  by_cases ht : isT x = true
  · obtain ⟨xs, rfl⟩ := isT_tup ht
    by_cases hl : (xs.length : Int) = s
    · simp only [okD] at h
      simp [isi_T, biLen, seqOf, hl, evGa, evIter, itOf, wipeD, tupB]
      rw [ga_all (p := inR 0 m) (by simp) xs fun y hy => by simp [below_ok (okDs_iff.mp h y hy)]]
      simp
    · simp [isi_T, biLen, seqOf, hl, tupB]
  · simp [isi_N h ht, tupB_N ht]
/-- a tie of n places -/
def tieB (n : Int) : D → Bool
  | .tup [.int a, .int b] => decide (0 ≤ a) && decide (a < b) && decide (b < n)
  | _ => false
theorem tieB_inv {n : Int} (h : tieB n x = true) : ∃ a b : Int, x = .tup [.int a, .int b] ∧ 0 ≤ a ∧ a < b ∧ b < n := by
  unfold tieB at h
  split at h
  · rename_i a b
    simp only [Bool.and_eq_true, decide_eq_true_eq] at h
    exact ⟨a, b, rfl, h.1.1, h.1.2, h.2⟩
  · cases h
theorem inR_int {a b : Int} (h : inR a b x = true) : ∃ i, x = .int i ∧ a ≤ i ∧ i < b := by
  cases x <;> simp [inR] at h
  exact ⟨_, rfl, h.1, h.2⟩
theorem tie_ok {n : Int} (h : okD x = true) : d__tie_good [.int n, x] M = .ok (.bl (tieB n x)) M := by
  unfold d__tie_good runF b__tie_good
  by_cases hb : tupB 2 (inR 0 n) x = true
  · have ht : isT x = true := by
      cases x <;> simp [tupB] at hb <;> rfl
    obtain ⟨xs, rfl⟩ := isT_tup ht
    simp only [tupB, Bool.and_eq_true, decide_eq_true_eq, List.all_eq_true] at hb
    obtain ⟨h1, h2⟩ := hb
    match xs, h1, h2 with
    | [y, z], _, h2 =>
      obtain ⟨i, rfl, i1, i2⟩ := inR_int (h2 y (by simp))
      obtain ⟨j, rfl, j1, j2⟩ := inR_int (h2 z (by simp))
      have e : d_all_below [.tup [.int i, .int j], .int 2, .int n] M = .ok (.bl true) M := by
        rw [allb_ok h]; simp [tupB, inR, i1, i2, j1, j2]
      simp [e, tieB, i1, j2]
  · have e : tieB n x = false := by
      cases q : tieB n x with
      | false => rfl
      | true =>
        obtain ⟨a, b, rfl, h1, h2, h3⟩ := tieB_inv q
        exact absurd (by simp [tupB, inR]; omega) hb
    have hb' : tupB 2 (inR 0 n) x = false := by simpa using hb
    simp [allb_ok h, hb', e]
/-! rising -/
def ltP (p q : Int × Int) : Bool := if p.1 = q.1 then decide (p.2 < q.2) else decide (p.1 < q.1)
def tieD (p : Int × Int) : D := .tup [.int p.1, .int p.2]
theorem lt_tie {p q : Int × Int} : opLt (tieD p) (tieD q) M = .ok (.bl (ltP p q)) M := by
  simp [tieD, opLt, opOrd, intsOf, HT.lexLt, ltP]
  by_cases h : p.1 = q.1 <;> simp [h]
  omega
theorem ge_not (a b : Int) : decide (a ≤ b) = !decide (b < a) := by
  by_cases h : a ≤ b
  · have h2 : ¬ b < a := by omega
    simp [h, h2]
  · have h2 : b < a := by omega
    simp [h, h2]
theorem le_tie {p q : Int × Int} : opLe (tieD p) (tieD q) M = .ok (.bl (!ltP q p)) M := by
  simp [tieD, opLe, opOrd, intsOf, leT, _root_.Ob.lexAt, ltP]
  by_cases h : p.1 = q.1
  · by_cases h2 : p.2 = q.2
    · simp [h, h2]
    · simp [h, h2]; exact ge_not _ _
  · have h' : ¬ q.1 = p.1 := fun z => h z.symm
    simp [h, h']; exact ge_not _ _
def rise : List (Int × Int) → Bool
  | [] => true
  | [_] => true
  | p :: q :: r => ltP p q && rise (q :: r)
theorem rise_range : ∀ (ps : List (Int × Int)), ((List.range (ps.length - 1)).all fun k => ltP (ps.getD k (0, 0)) (ps.getD (k + 1) (0, 0))) = rise ps
  | [] => rfl
  | [_] => rfl
  | p :: q :: r => by
    have ih := rise_range (q :: r)
    have e : (p :: q :: r).length - 1 = ((q :: r).length - 1) + 1 := by simp
    rw [e, List.range_succ_eq_map, List.all_cons, List.all_map, rise, ← ih]
    rfl
def prD : D → Int × Int
  | .tup [.int a, .int b] => (a, b)
  | _ => (0, 0)
@[simp] theorem pr_tie {p : Int × Int} : prD (tieD p) = p := rfl
theorem all_ties {n : Int} : ∀ {xs : List D}, (∀ x ∈ xs, tieB n x = true) → xs = (xs.map prD).map tieD
  | [], _ => rfl
  | x :: xs, h => by
    obtain ⟨a, b, rfl, _⟩ := tieB_inv (h x (by simp))
    have ih := all_ties (n := n) (xs := xs) fun y hy => h y (List.mem_cons_of_mem _ hy)
    rw [List.map_cons, List.map_cons, ← ih]
    rfl
theorem getD_map {ps : List (Int × Int)} {k : Nat} (h : k < ps.length) : (ps.map tieD)[k]? = some (tieD (ps.getD k (0, 0))) := by
  rw [List.getElem?_map, List.getElem?_eq_getElem h, List.getD_eq_getElem?_getD, List.getElem?_eq_getElem h]; rfl
theorem rising_ok {ps : List (Int × Int)} (hl : ps.length ≤ 1000) : d_is_rising [.tup (ps.map tieD)] M = .ok (.bl (rise ps)) M := by
  have hr : rng1 [.int ((ps.length : Int) - 1)] = some (rngD 0 1 (ps.length - 1)) := by
    show (if -(2 ^ 62) ≤ (ps.length : Int) - 1 ∧ (ps.length : Int) - 1 < 2 ^ 62 then some (rngD 0 1 ((ps.length : Int) - 1).toNat) else none) = _
    rw [if_pos (by omega)]
    congr 2
    omega
  unfold d_is_rising runF b_is_rising
  simp [biLen, seqOf, evGa, evRng, hr, wipeD]
  rw [ga_all (p := fun d => match d with | .int i => ltP (ps.getD i.toNat (0, 0)) (ps.getD (i.toNat + 1) (0, 0)) | _ => false) (by simp) (rngD 0 1 (ps.length - 1)) fun y hy => ?_]
  · simp
    rw [← rise_range, rngD, List.all_map]
    simp only [Function.comp_def]
    congr 1
    funext k
    simp
  · unfold rngD at hy
    obtain ⟨k, hk, rfl⟩ := List.mem_map.mp hy
    have hk := List.mem_range.mp hk
    have e1 := getD_map (ps := ps) (k := k) (by omega)
    have e2 := getD_map (ps := ps) (k := k + 1) (by omega)
    have c1 : (k : Int) < ps.length := by omega
    have c2 : (k : Int) + 1 < ps.length := by omega
    have c3 : (0 : Int) ≤ (k : Int) + 1 := by omega
    have c4 : ((k : Int) + 1).toNat = k + 1 := by omega
    simp only [List.getElem?_map] at e1 e2
    simp [c1, c2, c3, c4, e1, e2, lt_tie]
/-! ### webs -/
def goodB (n : Int) (ties : List D) : Bool := ties.all (tieB n) && rise (ties.map prD)
def webB : D → Bool
  | .tup [.int n, .tup ties] => decide (1 ≤ n) && decide (n < 9) && goodB n ties
  | _ => false
/-- not too many ties -/
def fewB : D → Bool
  | .tup [_, .tup ties] => decide (ties.length ≤ 1000)
  | _ => true
theorem web_ok (h : okD x = true) (hf : fewB x = true) : d_web_good [x] M = .ok (.bl (webB x)) M := by
  unfold d_web_good runF b_web_good
  by_cases ht : isT x = true
  · obtain ⟨xs, rfl⟩ := isT_tup ht
    by_cases hl : (xs.length : Int) = 2
    · match xs, hl with
      | [m, t], _ =>
        simp only [okD, okDs, Bool.and_eq_true] at h
        by_cases hm : inR 1 9 m = true
        · obtain ⟨n, rfl, n1, n2⟩ := inR_int hm
          by_cases htt : isT t = true
          · obtain ⟨ts, rfl⟩ := isT_tup htt
            simp only [fewB, decide_eq_true_eq] at hf
            have ht' : okDs ts = true := by simpa [okD] using h.2.1
            simp [isi_T, biLen, seqOf, asgP, partsOf, asgPs, many_ok h.1, hm, evGa, evIter, itOf, wipeD, webB, n1, n2]
            rw [ga_all (p := tieB n) (by simp) ts fun y hy => by simp [tie_ok (okDs_iff.mp ht' y hy)]]
            by_cases ha : ∀ y ∈ ts, tieB n y = true
            · have e := all_ties ha
              have ha' : ts.all (tieB n) = true := List.all_eq_true.mpr ha
              have er : d_is_rising [.tup ts] M = .ok (.bl (rise (ts.map prD))) M := by
                conv => lhs; rw [e]
                exact rising_ok (by simpa using hf)
              simp [ha', er, goodB]
            · have ha' : ts.all (tieB n) = false := by
                cases q : ts.all (tieB n) with
                | false => rfl
                | true => exact absurd (List.all_eq_true.mp q) ha
              simp [ha', goodB]
          · have e : webB (.tup [.int n, t]) = false := by
              cases t <;> simp [isT] at htt <;> rfl
            simp [isi_T, biLen, seqOf, asgP, partsOf, asgPs, many_ok h.1, hm, isi_N h.2.1 htt, e]
        · have e : webB (.tup [m, t]) = false := by
            cases q : webB (.tup [m, t]) with
            | false => rfl
            | true =>
              unfold webB at q
              split at q
              · rename_i n ties he
                simp only [D.tup.injEq, List.cons.injEq, and_true] at he
                obtain ⟨rfl, rfl⟩ := he
                simp only [Bool.and_eq_true, decide_eq_true_eq] at q
                exact absurd (by simp [inR]; omega) hm
              · cases q
          have hm' : inR 1 9 m = false := by simpa using hm
          simp [isi_T, biLen, seqOf, asgP, partsOf, asgPs, many_ok h.1, hm', e]
    · have e : webB (.tup xs) = false := by
        unfold webB
        split
        · rename_i he
          simp only [D.tup.injEq] at he
          subst he
          simp at hl
        · rfl
      simp [isi_T, biLen, seqOf, hl, e]
  · have e : webB x = false := by
      cases x <;> simp [isT] at ht <;> rfl
    simp [isi_N h ht, e]
end Hd

set_option Elab.async false
set_option linter.all false
set_option maxRecDepth 100000
namespace Hd
open Mi PySem PySem.Spec PyProof.Rows L2
variable {M : Store} {x : D}
/-! ### names -/
def PenO (o : Option Ob) : Prop := ∃ a b c, o = pen a b c ∧ 0 ≤ a ∧ 0 ≤ c
theorem draw' {l : Nat} {o : Option Ob} {m : Int} (hM : M[l]? = some o) (ho : PenO o) (h1 : 1 ≤ m) (h2 : m < 1073741824) : ∃ r o', 0 ≤ r ∧ r < m ∧ PenO o' ∧ d__law_draw [.loc l, .int m] M = .ok (.int r) (M.set l o') := by
  obtain ⟨a, b, c, rfl, ha, hc⟩ := ho
  obtain ⟨r, a', c', r1, r2, r3, r4, e⟩ := draw_ok hM ha hc h1 h2
  exact ⟨r, _, r1, r2, ⟨a', b, c', rfl, r3, r4⟩, e⟩
theorem map_erase {α β : Type} (f : α → β) : ∀ (l : List α) (k : Nat), (l.map f).eraseIdx k = (l.eraseIdx k).map f
  | [], _ => by simp
  | a :: l, 0 => by simp
  | a :: l, k + 1 => by simp [map_erase f l k]
theorem perm_erase {left : List Int} {r : Nat} {v : Int} (h : left[r]? = some v) : (v :: left.eraseIdx r).Perm left := by
  induction left generalizing r with
  | nil => simp at h
  | cons a left ih =>
    cases r with
    | zero => simp at h; subst h; simp
    | succ r =>
      simp at h
      simp only [List.eraseIdx_cons_succ]
      exact (List.Perm.swap a v _).trans (List.Perm.cons a (ih h))
def rngI (n : Nat) : List Int := (List.range n).map fun (i : Nat) => (i : Int)
theorem rg_rngI (n : Nat) : rgD n = (rngI n).map D.int := by
  unfold rgD rngI
  rw [List.map_map]
  have e : ((n : Int) - 0).toNat = n := by omega
  rw [e]
  refine List.map_congr_left fun i _ => ?_
  show D.int (0 + (i : Int)) = D.int (i : Int)
  rw [Int.zero_add]
theorem rng1_int {j : Int} (h : -(2 ^ 62) ≤ j ∧ j < 2 ^ 62) : rng1 [.int j] = some (rngD 0 1 j.toNat) := if_pos h
theorem rng1_nat {n : Nat} (hn : n ≤ 1000) : rng1 [.int (n : Int)] = some (rngD 0 1 n) := by
  rw [rng1_int (by omega), Int.toNat_natCast]
theorem pure_ints : ∀ l : List Int, pureDs (l.map D.int) = true
  | [] => rfl
  | _ :: l => by simp only [List.map_cons, pureDs, pureD, pure_ints l, Bool.and_self]
theorem frz_tup {xs : List D} (h : pureDs xs = true) : frzD M (.tup xs) = some (.tup xs, M) := by
  simp [frzD, pureD, h]
end Hd

set_option Elab.async false
set_option linter.all false
set_option maxRecDepth 100000
namespace Hd
open Mi PySem PySem.Spec PyProof.Rows L2
variable {M : Store} {x : D}
theorem lc_map {p : Pat} {fe : Ev → Store → Res D} {h : D → D} {env : Ev} : ∀ (xs acc : List D), (∀ x ∈ xs, ∃ env1, asgP M p x env = some env1 ∧ fe env1 M = .ok (h x) M) → acc.length + xs.length ≤ 1000 → lcD p evYes fe xs acc env M = .ok (acc ++ xs.map h) M
  | [], acc, _, _ => by simp [lcD]
  | x :: xs, acc, hx, hl => by
    obtain ⟨env1, h1, h2⟩ := hx x (by simp)
    simp only [List.length_cons] at hl
    have ih := lc_map xs (acc ++ [h x]) (fun y hy => hx y (by simp [hy])) (by simp; omega)
    simp only [lcD, h1, evYes, bindN_ok, if_true, h2]
    rw [if_pos (by rw [sizeLine_eq]; omega), ih]
    simp
theorem mm_ok {a b : Int} : biMM minI [tieD (a, b)] M = .ok (.int (min a b)) M ∧ biMM maxI [tieD (a, b)] M = .ok (.int (max a b)) M := by
  constructor
  · simp [biMM, tieD, seqOf, intsOf, minI]
  · simp [biMM, tieD, seqOf, intsOf, maxI]
def prL (p : Int × Int) : List Int := [p.1, p.2]
theorem tieD_eq (p : Int × Int) : tieD p = tupD (prL p) := rfl
theorem ties_tups (ps : List (Int × Int)) : tupsOf (ps.map tieD) = some (ps.map prL) := by
  have e : ps.map tieD = (ps.map prL).map tupD := by rw [List.map_map]; rfl
  rw [e, tupsOf_map]
theorem ok_prs {ps : List (Int × Int)} (h : ∀ p ∈ ps, 0 ≤ p.1 ∧ p.1 < 64 ∧ 0 ≤ p.2 ∧ p.2 < 64) : okTups (ps.map prL) = true := by
  cases ps with
  | nil => rfl
  | cons p ps =>
    simp only [List.map_cons, okTups, Bool.and_eq_true, decide_eq_true_eq, List.all_eq_true]
    refine ⟨by simp [prL], fun m hm => ?_⟩
    rw [← List.map_cons] at hm
    obtain ⟨q, hq, rfl⟩ := List.mem_map.mp hm
    obtain ⟨a, b, c, d⟩ := h q hq
    refine ⟨rfl, fun y hy => ?_⟩
    simp [prL] at hy
    rcases hy with rfl | rfl <;> exact ⟨by assumption, by assumption⟩
theorem cd_pr (p : Int × Int) : cd (prL p) = p.1 * 64 + p.2 := by
  simp [cd, TS.code, prL]
/-- all of pairs -/
theorem all_prs : ∀ {ls : List (List Int)}, (∀ l ∈ ls, ∃ p, l = prL p) → ∃ qs : List (Int × Int), ls = qs.map prL
  | [], _ => ⟨[], rfl⟩
  | l :: ls, h => by
    obtain ⟨p, rfl⟩ := h l (by simp)
    obtain ⟨qs, rfl⟩ := all_prs (ls := ls) fun m hm => h m (List.mem_cons_of_mem _ hm)
    exact ⟨p :: qs, rfl⟩
theorem lt_of_cd {p q : Int × Int} (hp : 0 ≤ p.2 ∧ p.2 < 64) (hq : 0 ≤ q.2 ∧ q.2 < 64) (h : cd (prL p) < cd (prL q)) : ltP p q = true := by
  rw [cd_pr, cd_pr] at h
  unfold ltP
  by_cases e : p.1 = q.1
  · rw [if_pos e]; exact decide_eq_true (by omega)
  · rw [if_neg e]; exact decide_eq_true (by omega)
theorem rise_pw : ∀ {qs : List (Int × Int)}, qs.Pairwise (fun p q => ltP p q = true) → rise qs = true
  | [], _ => rfl
  | [_], _ => rfl
  | p :: q :: r, h => by
    rw [List.pairwise_cons] at h
    rw [rise, h.1 q (by simp), rise_pw h.2]
    rfl
/-- sorted, without doubles -/
theorem sort_ok {ps : List (Int × Int)} (h : ∀ p ∈ ps, 0 ≤ p.1 ∧ p.1 < 64 ∧ 0 ≤ p.2 ∧ p.2 < 64) (hl : ps.length < 64) :
    ∃ qs : List (Int × Int), biSortSet [.lst (ps.map tieD)] M = .ok (.lst (qs.map tieD)) M ∧ rise qs = true ∧ (∀ q ∈ qs, q ∈ ps) ∧ qs.length ≤ ps.length := by
  have hmem : ∀ l ∈ sortC (nubL (ps.map prL)), ∃ p ∈ ps, l = prL p := fun l hl' => by
    have := mem_nubL.mp ((sortC_perm _).mem_iff.mp hl')
    obtain ⟨p, hp, e⟩ := List.mem_map.mp this
    exact ⟨p, hp, e.symm⟩
  obtain ⟨qs, hqs⟩ := all_prs fun l hl' => by
    obtain ⟨p, _, e⟩ := hmem l hl'
    exact ⟨p, e⟩
  have inj : ∀ {p q : Int × Int}, prL p = prL q → p = q := fun {p q} e => by
    simp [prL] at e
    exact Prod.ext e.1 e.2
  have hin : ∀ q ∈ qs, q ∈ ps := fun q hq => by
    obtain ⟨p, hp, e⟩ := hmem (prL q) (by rw [hqs]; exact List.mem_map_of_mem hq)
    rw [inj e]; exact hp
  have hnd : (sortC (nubL (ps.map prL))).Nodup := (sortC_perm _).nodup_iff.mpr (nodup_nubL _)
  have hpw := sortC_pw (nubL (ps.map prL))
  rw [hqs] at hnd hpw
  have hs : qs.Pairwise fun p q => ltP p q = true := by
    have a := List.pairwise_map.mp hpw
    have b : qs.Pairwise fun p q => prL p ≠ prL q := List.pairwise_map.mp hnd
    refine (a.and b).imp_of_mem fun {p q} hp hq ⟨h1, h2⟩ => ?_
    obtain ⟨a1, a2, a3, a4⟩ := h p (hin p hp)
    obtain ⟨b1, b2, b3, b4⟩ := h q (hin q hq)
    refine lt_of_cd ⟨a3, a4⟩ ⟨b3, b4⟩ ?_
    rcases Int.lt_or_eq_of_le h1 with z | z
    · exact z
    · rw [cd_pr, cd_pr] at z
      have e1 : p.1 = q.1 := by omega
      have e2 : p.2 = q.2 := by omega
      exact absurd (by rw [Prod.ext e1 e2]) h2
  have nubl : ∀ l : List (List Int), (nubL l).length ≤ l.length := fun l => by
    induction l with
    | nil => exact Nat.le_refl _
    | cons a l ih =>
      unfold nubL
      split
      · simp; omega
      · simp; omega
  refine ⟨qs, ?_, rise_pw hs, hin, ?_⟩
  · unfold biSortSet
    simp only [Mi.listOf, of_ok, bind_ok, ties_tups]
    rw [if_pos ⟨ok_prs h, by simpa using hl⟩, hqs, List.map_map]
    rfl
  · have e1 := (sortC_perm (nubL (ps.map prL))).length_eq
    have e2 := nubl (ps.map prL)
    rw [hqs] at e1
    simp at e1 e2
    omega
end Hd

set_option Elab.async false
set_option linter.all false
set_option maxRecDepth 100000
namespace Hd
open Mi PySem PySem.Spec PyProof.Rows L2
variable {M : Store} {x : D}
theorem for_inv {p : Pat} {body : Ev → Store → Out} (I : Nat → Ev → Store → Prop) : ∀ (xs : List D) (i : Nat) (env : Ev) (M : Store), I i env M →
    (∀ j x env M, xs[j]? = some x → I (i + j) env M → ∃ env1 env' M', asgP M p x env = some env1 ∧ body env1 M = .nx env' M' ∧ I (i + j + 1) env' M') → ∃ env' M', forD p body xs env M = .nx env' M' ∧ I (i + xs.length) env' M'
  | [], i, env, M, h, _ => ⟨env, M, rfl, h⟩
  | x :: xs, i, env, M, h, hs => by
    obtain ⟨env1, env', M', h1, h2, h3⟩ := hs 0 x env M rfl h
    obtain ⟨e2, M2, h4, h5⟩ := for_inv I xs (i + 1) env' M' h3 fun j y env M hy hI => by
      have := hs (j + 1) y env M (by simpa using hy) (by rw [show i + (j + 1) = i + 1 + j by omega]; exact hI)
      rw [show i + (j + 1) + 1 = i + 1 + j + 1 by omega] at this
      exact this
    refine ⟨e2, M2, ?_, by rw [List.length_cons, show i + (xs.length + 1) = i + 1 + xs.length by omega]; exact h5⟩
    simp only [forD, h1, h2]
    exact h4
/-- a list of draws -/
theorem lc_draws {l j : Nat} {fe : Ev → Store → Res D} {env : Ev} {R : D → D → Prop} (hj : j < env.length) : ∀ (xs acc : List D) (M : Store) (o : Option Ob), M[l]? = some o → PenO o →
    (∀ x ∈ xs, ∀ M o, M[l]? = some o → PenO o → ∃ d o', R x d ∧ PenO o' ∧ fe (env.set j (some x)) M = .ok d (M.set l o')) → acc.length + xs.length ≤ 1000 →
    ∃ outs o', (outs.length = xs.length ∧ ∀ d ∈ outs, ∃ x ∈ xs, R x d) ∧ PenO o' ∧ lcD (.nm j) evYes fe xs acc env M = .ok (acc ++ outs) (M.set l o')
  | [], acc, M, o, hM, ho, _, _ => ⟨[], o, ⟨rfl, fun d hd => by cases hd⟩, ho, by
      have h := lt_of_get hM
      have z : M.set l o = M := by
        rw [List.getElem?_eq_getElem h] at hM
        simp only [Option.some.injEq] at hM
        rw [← hM, List.set_getElem_self]
      rw [z]; simp [lcD]⟩
  | x :: xs, acc, M, o, hM, ho, hx, hl => by
    obtain ⟨d, o1, r1, p1, e1⟩ := hx x (by simp) M o hM ho
    simp only [List.length_cons] at hl
    obtain ⟨outs, o2, r2, p2, e2⟩ := lc_draws hj xs (acc ++ [d]) (M.set l o1) o1 (get_set hM) p1 (fun y hy => hx y (by simp [hy])) (by simp; omega)
    refine ⟨d :: outs, o2, ⟨by simp [r2.1], fun e he => ?_⟩, p2, ?_⟩
    · rcases List.mem_cons.mp he with rfl | he
      · exact ⟨x, by simp, r1⟩
      · obtain ⟨y, hy, hr⟩ := r2.2 e he
        exact ⟨y, by simp [hy], hr⟩
    simp only [lcD, asgP, hj, if_true, evYes, bindN_ok, e1]
    rw [if_pos (by rw [sizeLine_eq]; omega), e2]
    simp
/-- what stays by draws -/
theorem lc_filter {l j : Nat} {fi : Ev → Store → Res Bool} {env : Ev} (hj : j < env.length) : ∀ (xs acc : List D) (M : Store) (o : Option Ob), M[l]? = some o → PenO o →
    (∀ x ∈ xs, ∀ M o, M[l]? = some o → PenO o → ∃ b o', PenO o' ∧ fi (env.set j (some x)) M = .ok b (M.set l o')) → acc.length + xs.length ≤ 1000 →
    ∃ outs o', outs.Sublist xs ∧ PenO o' ∧ lcD (.nm j) fi (evVar j) xs acc env M = .ok (acc ++ outs) (M.set l o')
  | [], acc, M, o, hM, ho, _, _ => ⟨[], o, .slnil, ho, by
      have h := lt_of_get hM
      have z : M.set l o = M := by
        rw [List.getElem?_eq_getElem h] at hM
        simp only [Option.some.injEq] at hM
        rw [← hM, List.set_getElem_self]
      rw [z]; simp [lcD]⟩
  | x :: xs, acc, M, o, hM, ho, hx, hl => by
    obtain ⟨b, o1, p1, e1⟩ := hx x (by simp) M o hM ho
    simp only [List.length_cons] at hl
    have ev : evVar j (env.set j (some x)) (M.set l o1) = .ok x (M.set l o1) := evVar_e (by simp [hj])
    cases b with
    | true =>
      obtain ⟨outs, o2, r2, p2, e2⟩ := lc_filter hj xs (acc ++ [x]) (M.set l o1) o1 (get_set hM) p1 (fun y hy => hx y (by simp [hy])) (by simp; omega)
      refine ⟨x :: outs, o2, r2.cons_cons x, p2, ?_⟩
      simp only [lcD, asgP, hj, if_true, bindN_ok, e1, ev]
      rw [if_pos (by rw [sizeLine_eq]; omega), e2]
      simp
    | false =>
      obtain ⟨outs, o2, r2, p2, e2⟩ := lc_filter hj xs acc (M.set l o1) o1 (get_set hM) p1 (fun y hy => hx y (by simp [hy])) (by omega)
      refine ⟨outs, o2, r2.cons x, p2, ?_⟩
      simp only [lcD, asgP, hj, if_true, bindN_ok, e1]
      simp [e2]
/-! ### the shape of a web -/
/-- the ties of n places, the lesser first; not many -/
def TiesOk (n : Int) (ds : List D) : Prop := ∃ ps : List (Int × Int), ds = ps.map tieD ∧ ∀ p ∈ ps, 0 ≤ p.1 ∧ p.1 < p.2 ∧ p.2 < n
theorem TiesOk.of {n : Int} {ds : List D} (h : ∀ d ∈ ds, ∃ a b : Int, d = tieD (a, b) ∧ 0 ≤ a ∧ a < b ∧ b < n) : TiesOk n ds := by
  induction ds with
  | nil => exact ⟨[], rfl, fun p hp => by cases hp⟩
  | cons d ds ih =>
    obtain ⟨a, b, rfl, h1⟩ := h d (by simp)
    obtain ⟨ps, rfl, h2⟩ := ih fun e he => h e (by simp [he])
    refine ⟨(a, b) :: ps, rfl, fun p hp => ?_⟩
    rcases List.mem_cons.mp hp with rfl | hp
    · exact h1
    · exact h2 p hp
theorem TiesOk.each {n : Int} {ds : List D} (h : TiesOk n ds) : ∀ d ∈ ds, ∃ a b : Int, d = tieD (a, b) ∧ 0 ≤ a ∧ a < b ∧ b < n := by
  obtain ⟨ps, rfl, h⟩ := h
  intro d hd
  obtain ⟨p, hp, rfl⟩ := List.mem_map.mp hd
  exact ⟨p.1, p.2, rfl, h p hp⟩
/-- numbers of range -/
theorem mem_rng {lo c : Int} {n : Nat} {d : D} (h : d ∈ rngD lo c n) : ∃ i : Nat, i < n ∧ d = .int (lo + i * c) := by
  unfold rngD at h
  obtain ⟨i, hi, rfl⟩ := List.mem_map.mp h
  exact ⟨i, List.mem_range.mp hi, rfl⟩
theorem len_rng {lo c : Int} {n : Nat} : (rngD lo c n).length = n := by simp [rngD]
theorem pure_ties {n : Int} {ts : List D} (h : TiesOk n ts) : pureDs ts = true := by
  obtain ⟨ps, rfl, h⟩ := h
  clear h
  induction ps with
  | nil => rfl
  | cons q qs ih => simp [pureDs, tieD, pureD, ih]
theorem app_ok {N : Store} {ts : List D} {x : D} (h1 : ts.length ≤ 1000) (h2 : pureDs (ts ++ [x]) = true) : mAppend (.loc N.length) [x] (N ++ [some (.lst ts)]) = .ok .non (N ++ [some (.lst (ts ++ [x]))]) := by
  have hL : (N ++ [some (Ob.lst ts)])[N.length]? = some (some (.lst ts)) := by simp
  unfold mAppend
  simp only [hL]
  rw [if_pos ⟨by rw [sizeLine_eq]; omega, h2⟩, List.set_append_right _ _ (by simp)]
  simp
theorem isl_ok {N : Store} {ts : List D} : isLst (N ++ [some (.lst ts)]) (.loc N.length) = true := by
  simp [isLst, Mi.listOf]
theorem get_rng {n k : Nat} {d : D} (h : (rngD 0 1 n)[k]? = some d) : k < n ∧ d = .int k := by
  have hk : k < n := by
    rcases Nat.lt_or_ge k n with q | q
    · exact q
    · rw [List.getElem?_eq_none (by rw [len_rng]; exact q)] at h; cases h
  rw [rngD_get hk] at h
  simp at h
  exact ⟨hk, h.symm⟩
theorem nat_rng {n : Nat} (h : n ≤ 1000) : Res.of (rng1 [.int (n : Int)]) M = .ok (rngD 0 1 n) M := by rw [rng1_nat h, of_ok]
/-- the for of a cube's part -/
theorem frz_web {n : Nat} {ts : List D} (h : pureDs ts = true) : frzD M (.tup [.int n, .tup ts]) = some (.tup [.int n, .tup ts], M) := frz_tup (by simp [pureDs, pureD, h])
theorem take_app {N : Store} {o : Option Ob} : (N ++ [o]).take N.length = N := by simp
end Hd

set_option Elab.async false
set_option linter.all false
set_option maxRecDepth 100000
namespace Hd
open Mi PySem PySem.Spec PyProof.Rows L2
variable {M : Store} {x : D}
theorem add_lst {xs ys : List D} (h : xs.length + ys.length ≤ 1000) : opAdd (.lst xs) (.lst ys) M = .ok (.lst (xs ++ ys)) M := by
  have h2 : xs.length + ys.length ≤ 16777216 := by omega
  simp [opAdd, Mi.listOf, h2]
theorem rng2_int {i j : Int} (h : -(2 ^ 62) ≤ i ∧ i < 2 ^ 62 ∧ -(2 ^ 62) ≤ j ∧ j < 2 ^ 62) : rng2 [.int i, .int j] = some (rngD i 1 (j - i).toNat) := if_pos h
end Hd

set_option Elab.async false
set_option linter.all false
set_option maxRecDepth 100000
namespace Hd
open Mi PySem PySem.Spec PyProof.Rows L2
variable {M : Store} {x : D}
theorem drawN {N : Store} {l : Nat} {o z : Option Ob} {m : Int} (hN : N[l]? = some o) (ho : PenO o) (h1 : 1 ≤ m) (h2 : m < 1073741824) : ∃ r o', 0 ≤ r ∧ r < m ∧ PenO o' ∧ d__law_draw [.loc l, .int m] (N ++ [z]) = .ok (.int r) (N.set l o' ++ [z]) := by
  have hl := lt_of_get hN
  obtain ⟨r, o', r1, r2, r3, e⟩ := draw' (M := N ++ [z]) (l := l) (o := o) (m := m) (by rw [List.getElem?_append_left hl]; exact hN) ho h1 h2
  exact ⟨r, o', r1, r2, r3, by rw [e, List.set_append_left _ _ hl]⟩
theorem popN {N : Store} {ts : List D} {r : Int} (h0 : 0 ≤ r) (h1 : r < ts.length) (h2 : ts.length ≤ 1000) : ∃ d, mPop (.loc N.length) [.int r] (N ++ [some (.lst ts)]) = .ok d (N ++ [some (.lst (ts.eraseIdx r.toNat))]) := by
  have hL : (N ++ [some (Ob.lst ts)])[N.length]? = some (some (.lst ts)) := by simp
  have hr : r.toNat < ts.length := by omega
  have es : seqIndex? r ts.length = some r.toNat := by
    have hn : ¬ r < 0 := by omega
    simp [seqIndex?, hn, h0, h1]
  refine ⟨ts[r.toNat], ?_⟩
  unfold mPop
  simp only [hL]
  rw [if_pos (by omega), es, of_ok, bind_ok, List.getElem?_eq_getElem hr, of_ok, bind_ok, List.set_append_right _ _ (by simp)]
  simp
def pyTie (p : Int × Int) : PyData := .tuple [.int p.1, .int p.2]
theorem py_ties : ∀ ps : List (Int × Int), toPys (ps.map tieD) = some (ps.map pyTie)
  | [] => rfl
  | p :: ps => by simp [toPys, tieD, toPy, py_ties ps, pyTie]
theorem shaped_ties (ps : List (Int × Int)) (h : ps.length ≤ 1000) : SeqAt.shaped (.list (ps.map pyTie)) = true := by
  have h1 : ∀ qs : List (Int × Int), PyData.canLayAll0 (qs.map pyTie) = true := fun qs => by
    induction qs with
    | nil => rfl
    | cons q qs ih => simp [PyData.canLayAll0, ih, pyTie, PyData.canLay0]
  have h2 : ∀ qs : List (Int × Int), PyData.depthAll (qs.map pyTie) ≤ 10 := fun qs => by
    induction qs with
    | nil => simp [PyData.depthAll]
    | cons q qs ih => simp [PyData.depthAll, pyTie, PyData.depth]; omega
  have h3 := h2 ps
  simp [SeqAt.shaped, PyData.canLay0, PyData.depth, h1]
  omega
theorem ne_nil {N : Store} {ps : List (Int × Int)} (h : ps.length ≤ 1000) : opNe (.loc N.length) (.lst []) (N ++ [some (.lst (ps.map tieD))]) = .ok (.bl (!(ps.map tieD).isEmpty)) (N ++ [some (.lst (ps.map tieD))]) := by
  have hL : (N ++ [some (Ob.lst (ps.map tieD))])[N.length]? = some (some (.lst (ps.map tieD))) := by simp
  have hs := shaped_ties [] (by simp)
  simp at hs
  have hs2 := shaped_ties ps h
  simp [opNe, eqDs, toPyM, Mi.listOf, py_ties, toPy, toPys, hs, hs2]
  cases ps <;> simp [PyData.eqv, PyData.eqvAll, pyTie]
/-- ties of n places, either end ahead -/
def RawOk (n : Int) (ds : List D) : Prop := ∃ ps : List (Int × Int), ds = ps.map tieD ∧ ∀ p ∈ ps, 0 ≤ p.1 ∧ p.1 < n ∧ 0 ≤ p.2 ∧ p.2 < n ∧ p.1 ≠ p.2
theorem RawOk.of {n : Int} {ds : List D} (h : ∀ d ∈ ds, ∃ a b : Int, d = tieD (a, b) ∧ 0 ≤ a ∧ a < n ∧ 0 ≤ b ∧ b < n ∧ a ≠ b) : RawOk n ds := by
  induction ds with
  | nil => exact ⟨[], rfl, fun p hp => by cases hp⟩
  | cons d ds ih =>
    obtain ⟨a, b, rfl, h1⟩ := h d (by simp)
    obtain ⟨ps, rfl, h2⟩ := ih fun e he => h e (by simp [he])
    refine ⟨(a, b) :: ps, rfl, fun p hp => ?_⟩
    rcases List.mem_cons.mp hp with rfl | hp
    · exact h1
    · exact h2 p hp
theorem RawOk.each {n : Int} {ds : List D} (h : RawOk n ds) : ∀ d ∈ ds, ∃ a b : Int, d = tieD (a, b) ∧ 0 ≤ a ∧ a < n ∧ 0 ≤ b ∧ b < n ∧ a ≠ b := by
  obtain ⟨ps, rfl, h⟩ := h
  intro d hd
  obtain ⟨p, hp, rfl⟩ := List.mem_map.mp hd
  exact ⟨p.1, p.2, rfl, h p hp⟩
theorem TiesOk.raw {n : Int} {ds : List D} (h : TiesOk n ds) : RawOk n ds := RawOk.of fun d hd => by
  obtain ⟨a, b, e, h1, h2, h3⟩ := h.each d hd
  exact ⟨a, b, e, h1, by omega, by omega, h3, by omega⟩
theorem pure_raw {n : Int} {ts : List D} (h : RawOk n ts) : pureDs ts = true := by
  obtain ⟨ps, rfl, h⟩ := h
  clear h
  induction ps with
  | nil => rfl
  | cons q qs ih => simp [pureDs, tieD, pureD, ih]
theorem mem_erase {α : Type} {a : α} : ∀ {l : List α} {k : Nat}, a ∈ l.eraseIdx k → a ∈ l := fun {l k} h => List.mem_of_mem_eraseIdx h
end Hd

set_option Elab.async false
set_option linter.all false
set_option maxRecDepth 100000
namespace Hd
open Mi PySem PySem.Spec PyProof.Rows L2
variable {M : Store} {x : D} {env : Ev}
/-! ### repr -/
theorem shown_small : ∀ i : Int, 0 ≤ i → i < 64 → (PyData.shown (.int i)).length ≤ 2 := fun i h0 h1 => by
  have key : ∀ k : Fin 64, (PyData.shown (.int ((k.val : Nat) : Int))).length ≤ 2 := by decide +kernel
  have := key ⟨i.toNat, by omega⟩
  rwa [show ((i.toNat : Nat) : Int) = i by omega] at this
theorem sum_le {l : List Nat} {c : Nat} (h : ∀ a ∈ l, a ≤ c) : l.sum ≤ c * l.length := by
  induction l with
  | nil => simp
  | cons a l ih =>
    have h1 := h a (by simp)
    have h2 := ih fun b hb => h b (by simp [hb])
    rw [List.sum_cons, List.length_cons, Nat.mul_succ]; omega
theorem shown_tie {p : Int × Int} (h : 0 ≤ p.1 ∧ p.1 < 64 ∧ 0 ≤ p.2 ∧ p.2 < 64) : (PyData.shown (pyTie p)).length ≤ 20 := by
  have a := shown_small p.1 h.1 h.2.1
  have b := shown_small p.2 h.2.2.1 h.2.2.2
  unfold pyTie
  simp only [PyData.shown, PyData.shownAll] at a b ⊢
  refine Nat.le_trans (tupleText_len_le _) ?_
  simp only [List.map_cons, List.map_nil, List.sum_cons, List.sum_nil, List.length_cons, List.length_nil]
  omega
theorem shownAll_map (ds : List PyData) : PyData.shownAll ds = ds.map PyData.shown := by
  induction ds with
  | nil => simp [PyData.shownAll]
  | cons d ds ih => simp [PyData.shownAll, ih]
theorem log_small {i : Int} (h0 : 0 ≤ i) (h1 : i < 64) : i.natAbs.log2 < 1920 := by
  have : i.natAbs < 2 ^ 1920 := Nat.lt_of_lt_of_le (show i.natAbs < 2 ^ 6 by omega) (Nat.pow_le_pow_right (by decide) (by decide))
  rcases Nat.eq_zero_or_pos i.natAbs with z | z
  · rw [z]; decide
  · exact (Nat.log2_lt (by omega)).mpr this
end Hd

set_option Elab.async false
set_option linter.all false
set_option maxRecDepth 100000
namespace Hd
open Mi PySem PySem.Spec PyProof.Rows L2
variable {M : Store} {x : D}
theorem frz_ok (h : okD x = true) : frzD M x = some (x, M) := by
  have hp := ok_pure x h
  cases x with
  | tup xs => simp only [pureD] at hp; simp [frzD, pureD, hp]
  | lst xs => simp only [pureD] at hp; simp [frzD, hp]
  | non => rfl
  | bl b => rfl
  | int i => rfl
  | str s => rfl
  | dct0 => rfl
  | _ => simp [okD] at h
theorem ix_mem {L : List D} {r : Int} (h0 : 0 ≤ r) (h1 : r < L.length) : ∃ d ∈ L, ∀ N : Store, opIx (.lst L) (.int r) N = .ok d N := by
  have h2 : r.toNat < L.length := by omega
  exact ⟨L[r.toNat], List.getElem_mem h2, fun N => by simp [L2.atI, L2.ixN, h0, h1, h2]⟩
theorem cut_sub {xs : List D} {lo hi : Option Int} : ∀ d ∈ Mi.cutD xs lo hi, d ∈ xs := fun d hd => List.mem_of_mem_drop (List.mem_of_mem_take hd)
theorem cut_ok {xs : List D} {lo hi : Option Int} (h : okDs xs = true) : okDs (Mi.cutD xs lo hi) = true := okDs_iff.mpr fun d hd => okDs_iff.mp h d (cut_sub d hd)
theorem cut_len {xs : List D} {lo hi : Option Int} : (Mi.cutD xs lo hi).length ≤ xs.length := by
  unfold Mi.cutD
  rw [List.length_take, List.length_drop]
  omega
theorem oks_app {xs ys : List D} (h : okDs xs = true) (h' : okDs ys = true) : okDs (xs ++ ys) = true := okDs_iff.mpr fun d hd => (List.mem_append.mp hd).elim (okDs_iff.mp h d) (okDs_iff.mp h' d)
theorem add_tup {xs ys : List D} (h : xs.length + ys.length ≤ 1000) : opAdd (.tup xs) (.tup ys) M = .ok (.tup (xs ++ ys)) M := by
  have h2 : xs.length + ys.length ≤ 16777216 := by omega
  simp [opAdd, h2]
theorem evNeg_e {f1 : Ev → Store → Res D} {env : Ev} : evNeg f1 env M = (f1 env M).bind fun d M => match d with | .int i => .ok (.int (-i)) M | _ => .stuck := (rfl)
end Hd

set_option Elab.async false
set_option linter.all false
set_option maxRecDepth 100000
namespace Hd
open Mi PySem PySem.Spec PyProof.Rows L2
variable {M : Store} {x : D}
theorem penof_ok (c : Int) : ∃ o, PenO o ∧ d__law_pen_of [.int c] M = .ok (.loc M.length) (M ++ [o]) := by
  have h0 : 0 ≤ max c (0 - c) := by omega
  have hmm : biMM maxI [.int c, .int (0 - c)] M = .ok (.int (max c (0 - c))) M := by simp [biMM, maxI]
  have hpow : opPow (.int 10) (.int 18) M = .ok (.int ((10 : Int) ^ 18)) M := by
    have : CPowB 10 18 := ⟨by decide, by decide, by decide⟩
    simp [opPow, opII, this]
  have hmod : opMod (.int (max c (0 - c))) (.int 1000003) M = .ok (.int (max c (0 - c) % 1000003)) M := mod_i (by decide)
  have hge : ∀ j : Int, biInt [.bl (decide (j ≤ max c (0 - c)))] M = .ok (.int (if decide (j ≤ max c (0 - c)) = true then 1 else 0)) M := fun j => rfl
  generalize max c (0 - c) = v at *
  refine ⟨pen v (if decide ((10 : Int) ^ 18 ≤ v) = true then 1 else 0) (v % 1000003), ⟨v, _, _, rfl, h0, Int.emod_nonneg _ (by decide)⟩, ?_⟩
  have b : b__law_pen_of [some (.int c), none] M = .ret (.loc M.length) (M ++ [pen v (if decide ((10 : Int) ^ 18 ≤ v) = true then 1 else 0) (v % 1000003)]) := by
    unfold b__law_pen_of
    simp only [sSeq_e, sSet_e, evN_e, evCons_e, evNil_e, ev2_e, evC_e, bind_ok, Mi.sub_int, evVar_e (show ([some (.int c), none] : Ev)[0]? = some (some (.int c)) from rfl), hmm, out_ok]
    rw [if_pos (by simp), then_nx]
    have ex : ([some (.int c), none] : Ev).set 1 (some (.int v)) = [some (.int c), some (.int v)] := rfl
    rw [ex, sRet_e, evNew_e]
    simp only [evCons_e, evN_e, evNil_e, ev2_e, evC_e, bind_ok, evVar_e (show ([some (.int c), some (.int v)] : Ev)[1]? = some (some (.int v)) from rfl), hpow, Mi.ge_int, hge, hmod]
    rw [if_pos ⟨by rw [sizeLine_eq]; simp, by simp [pureDs, pureD]⟩, out_ok]
    rfl
  unfold d__law_pen_of runF
  have e0 : ([D.int c].map some ++ List.replicate (2 - [D.int c].length) none : Ev) = [some (.int c), none] := rfl
  rw [e0, b]
  rfl
/-- all ties of eight places -/
theorem cellat_ok (ns : List Int) : ∃ c : Int, d__law_cell_at [.scr (ns.map D.int), .int 0] M = .ok (.int c) M := by
  have hbl : biLen [.scr (ns.map D.int)] M = .ok (.int ns.length) M := by simp [biLen, seqOf]
  have hp : ∀ c : Int, frzD M (.int c) = some (.int c, M) := fun c => rfl
  cases ns with
  | nil =>
    refine ⟨0, ?_⟩
    have b : b__law_cell_at [some (.scr []), some (.int 0)] M = .ret (.int 0) M := by
      unfold b__law_cell_at
      simp [biLen, seqOf]
    exact (run_ret b (hp _)).trans (by rw [List.take_length])
  | cons c cs =>
    refine ⟨c, ?_⟩
    have hix : opIx (.scr (.int c :: cs.map D.int)) (.int 0) M = .ok (.int c) M := by
      simp [L2.atI, L2.ixN]
    have b : b__law_cell_at [some (.scr (.int c :: cs.map D.int)), some (.int 0)] M = .ret (.int c) M := by
      unfold b__law_cell_at
      simp at hbl
      have h9 : (0 : Int) < (cs.length : Int) + 1 := by omega
      simp [-Mi.ix_scr, hbl, hix, h9]
    exact (run_ret b (hp _)).trans (by rw [List.take_length])
end Hd

set_option Elab.async false
set_option linter.all false
set_option maxRecDepth 100000
/-! how far: levels -/
namespace Hd
section
variable (n : Nat) (adj : Nat → Nat → Bool) (s : Nat)
def Bl : Nat → Nat → Bool
  | 0, v => decide (v = s)
  | k + 1, v => Bl k v || (List.range n).any fun u => Bl k u && adj u v
def Al_ (k v : Nat) : Option Nat := (List.range (k + 1)).find? fun d => Bl n adj s d v
end
section
variable {n : Nat} {adj : Nat → Nat → Bool} {s : Nat}
theorem bl_succ {k v : Nat} (h : Bl n adj s k v = true) : Bl n adj s (k + 1) v = true := by simp [Bl, h]
theorem bl_le {j k v : Nat} (hj : j ≤ k) (h : Bl n adj s j v = true) : Bl n adj s k v = true := by
  induction k with
  | zero => rw [Nat.le_zero.mp hj] at h; exact h
  | succ k ih =>
    rcases Nat.lt_or_ge k j with q | q
    · rw [show k + 1 = j by omega]; exact h
    · exact bl_succ (ih q)
theorem bl_step {k v : Nat} : Bl n adj s (k + 1) v = true ↔ Bl n adj s k v = true ∨ ∃ u, u < n ∧ Bl n adj s k u = true ∧ adj u v = true := by
  simp [Bl]
theorem al_some {k v d : Nat} : Al_ n adj s k v = some d ↔ d ≤ k ∧ Bl n adj s d v = true ∧ ∀ j, j < d → ¬ Bl n adj s j v = true := by
  unfold Al_
  rw [List.find?_range_eq_some]
  constructor
  · rintro ⟨h1, h2, h3⟩
    refine ⟨by have := List.mem_range.mp h2; omega, h1, fun j hj => by simpa using h3 j hj⟩
  · rintro ⟨h1, h2, h3⟩
    exact ⟨h2, List.mem_range.mpr (by omega), fun j hj => by simpa using h3 j hj⟩
theorem al_none {k v : Nat} : Al_ n adj s k v = none ↔ ¬ Bl n adj s k v = true := by
  unfold Al_
  rw [List.find?_eq_none]
  constructor
  · exact fun h => h k (List.mem_range.mpr (by omega))
  · intro h d hd hb
    exact h (bl_le (by have := List.mem_range.mp hd; omega) hb)
theorem al_le {j k v d : Nat} (hj : j ≤ k) (h : Al_ n adj s j v = some d) : Al_ n adj s k v = some d := by
  obtain ⟨a, b, c⟩ := al_some.mp h
  exact al_some.mpr ⟨by omega, b, c⟩
theorem al_new {k v : Nat} (h : Al_ n adj s k v = none) : Al_ n adj s (k + 1) v = if Bl n adj s (k + 1) v = true then some (k + 1) else none := by
  have h0 := al_none.mp h
  by_cases hb : Bl n adj s (k + 1) v = true
  · rw [if_pos hb]
    exact al_some.mpr ⟨Nat.le_refl _, hb, fun j hj q => h0 (bl_le (by omega) q)⟩
  · rw [if_neg hb]
    exact al_none.mpr hb
/-- what is new is tied to the border -/
theorem bl_new {k v : Nat} (h : Al_ n adj s k v = none) : Bl n adj s (k + 1) v = true ↔ ∃ u, u < n ∧ Al_ n adj s k u = some k ∧ adj u v = true := by
  have h0 := al_none.mp h
  rw [bl_step]
  constructor
  · rintro (q | ⟨u, hu, hb, ha⟩)
    · exact absurd q h0
    · refine ⟨u, hu, ?_, ha⟩
      cases e : Al_ n adj s k u with
      | none => exact absurd hb (al_none.mp e)
      | some d =>
        obtain ⟨d1, d2, _⟩ := al_some.mp e
        rcases Nat.lt_or_ge d k with q | q
        · exact absurd (bl_le (j := d + 1) (by omega) (bl_step.mpr (.inr ⟨u, hu, d2, ha⟩))) h0
        · rw [show d = k by omega]
  · rintro ⟨u, hu, e, ha⟩
    exact .inr ⟨u, hu, (al_some.mp e).2.1, ha⟩
/-- behind an empty border nothing is reached -/
theorem al_still {k : Nat} (h : ∀ v, v < n → Al_ n adj s k v ≠ some k) : ∀ j, k ≤ j → ∀ v, v < n → Al_ n adj s j v = Al_ n adj s k v := by
  intro j hj
  induction j with
  | zero => intro v _; rw [Nat.le_zero.mp hj]
  | succ j ih =>
    intro v hv
    rcases Nat.lt_or_ge j k with q | q
    · rw [show j + 1 = k by omega]
    · have e := ih q v hv
      cases e2 : Al_ n adj s j v with
      | some d => rw [al_le (by omega) e2, ← e, e2]
      | none =>
        rw [al_new e2, ← e, e2]
        refine if_neg fun hb => ?_
        obtain ⟨u, hu, eu, _⟩ := (bl_new e2).mp hb
        rw [ih q u hu] at eu
        have d1 := (al_some.mp eu).1
        exact h u hu (by rw [eu, show j = k by omega])
/-- as many levels as places at most -/
theorem levels {k : Nat} (h : ∀ d, d < k → ∃ v, v < n ∧ Al_ n adj s d v = some d) : k ≤ n := by
  let f : Nat → Nat := fun d => (List.range n).find? (fun v => decide (Al_ n adj s d v = some d)) |>.getD 0
  have hf : ∀ d, d < k → f d < n ∧ Al_ n adj s d (f d) = some d := fun d hd => by
    obtain ⟨v, hv, e⟩ := h d hd
    cases q : (List.range n).find? (fun v => decide (Al_ n adj s d v = some d)) with
    | none => exact absurd (by simpa using e) (List.find?_eq_none.mp q v (List.mem_range.mpr hv))
    | some w =>
      have h1 := List.mem_of_find?_eq_some q
      have h2 := List.find?_some q
      have e3 : f d = w := by show ((List.range n).find? _ |>.getD 0) = w; rw [q]; rfl
      rw [e3]
      exact ⟨List.mem_range.mp h1, by simpa using h2⟩
  have nd : ((List.range k).map f).Nodup := by
    refine List.pairwise_map.mpr (List.pairwise_lt_range.imp_of_mem fun {a b} ha hb lt e => ?_)
    have h1 := (hf a (List.mem_range.mp ha)).2
    have h2 := (hf b (List.mem_range.mp hb)).2
    rw [e] at h1
    exact (al_some.mp h2).2.2 a lt (al_some.mp h1).2.1
  have := L2.nat_nodup_len ((List.range k).map f) (List.range n) nd fun x hx => by
    obtain ⟨d, hd, rfl⟩ := List.mem_map.mp hx
    exact List.mem_range.mpr (hf d (List.mem_range.mp hd)).1
  simpa using this
/-- where the border is empty the first time, all is told -/
theorem al_end {k : Nat} (hn : 1 ≤ n) (h : ∀ d, d < k → ∃ v, v < n ∧ Al_ n adj s d v = some d) (he : ∀ v, v < n → Al_ n adj s k v ≠ some k) : ∀ v, v < n → Al_ n adj s k v = Al_ n adj s (n - 1) v := by
  intro v hv
  have hk := levels h
  rcases Nat.lt_or_ge (n - 1) k with q | q
  · cases e2 : Al_ n adj s (n - 1) v with
    | some d => exact al_le (by omega) e2
    | none =>
      have hk2 : k = (n - 1) + 1 := by omega
      have := al_new e2
      rw [← hk2] at this
      rw [this]
      refine if_neg fun hb => he v hv ?_
      rw [this, if_pos hb]
  · exact (al_still he (n - 1) q v hv).symm
end
end Hd

set_option Elab.async false
set_option linter.all false
set_option maxRecDepth 100000
/-! rows that are filled level by level -/
namespace Hd
abbrev Row := List (Option Nat)
def visit (k : Nat) (st : Row × List Nat) (v : Nat) : Row × List Nat := if st.1[v]? = some none then (st.1.set v (some (k + 1)), st.2 ++ [v]) else st
def relax (k : Nat) (r : Row) (e : Nat × Nat) : Row := if r[e.1]? = some (some k) ∧ r[e.2]? = some none then r.set e.2 (some (k + 1)) else r
def cnt (r : Row) : Nat := r.countP Option.isNone
theorem cnt_set {r : Row} {v k : Nat} (h : r[v]? = some none) : cnt (r.set v (some k)) + 1 = cnt r := by
  induction r generalizing v with
  | nil => simp at h
  | cons a r ih =>
    cases v with
    | zero =>
      simp only [List.getElem?_cons_zero, Option.some.injEq] at h
      subst h
      simp [cnt]
    | succ v =>
      simp only [List.getElem?_cons_succ] at h
      have := ih h
      simp only [cnt, List.set_cons_succ, List.countP_cons] at this ⊢
      omega
theorem visit_all {k : Nat} : ∀ (ts : List Nat) (st : Row × List Nat), (ts.foldl (visit k) st).1.length = st.1.length ∧
    (∀ v, (ts.foldl (visit k) st).1[v]? = if st.1[v]? = some none ∧ v ∈ ts then some (some (k + 1)) else st.1[v]?) ∧
    (∀ v, v ∈ (ts.foldl (visit k) st).2 ↔ v ∈ st.2 ∨ (st.1[v]? = some none ∧ v ∈ ts)) ∧
    (ts.foldl (visit k) st).2.length + cnt (ts.foldl (visit k) st).1 = st.2.length + cnt st.1
  | [], st => ⟨rfl, fun v => by simp, fun v => by simp, rfl⟩
  | t :: ts, st => by
    obtain ⟨h1, h2, h3, h4⟩ := visit_all (k := k) ts (visit k st t)
    rw [List.foldl_cons]
    by_cases c : st.1[t]? = some none
    · have e : visit k st t = (st.1.set t (some (k + 1)), st.2 ++ [t]) := if_pos c
      have ht : t < st.1.length := (List.getElem?_eq_some_iff.mp c).1
      rw [e] at h1 h2 h3 h4 ⊢
      simp only [List.length_set] at h1
      refine ⟨h1, fun v => ?_, fun v => ?_, ?_⟩
      · rw [h2 v]
        by_cases q : v = t
        · subst q
          rw [List.getElem?_set_self ht]
          simp [c]
        · rw [List.getElem?_set_ne (Ne.symm q)]
          simp [q]
      · rw [h3 v]
        by_cases q : v = t
        · subst q
          rw [List.getElem?_set_self ht]
          simp [c]
        · rw [List.getElem?_set_ne (Ne.symm q)]
          simp [q]
      · rw [h4]
        have := cnt_set (k := k + 1) c
        simp only [List.length_append, List.length_cons, List.length_nil]
        omega
    · have e : visit k st t = st := if_neg c
      rw [e] at h1 h2 h3 h4 ⊢
      refine ⟨h1, fun v => ?_, fun v => ?_, h4⟩
      · rw [h2 v]
        by_cases q : v = t
        · subst q; simp [c]
        · simp [q]
      · rw [h3 v]
        by_cases q : v = t
        · subst q; simp [c]
        · simp [q]
open Classical in
theorem relax_all {k : Nat} : ∀ (es : List (Nat × Nat)) (r : Row), (es.foldl (relax k) r).length = r.length ∧
    ∀ v, (es.foldl (relax k) r)[v]? = if r[v]? = some none ∧ ∃ u, (u, v) ∈ es ∧ r[u]? = some (some k) then some (some (k + 1)) else r[v]?
  | [], r => ⟨rfl, fun v => by simp⟩
  | (a, b) :: es, r => by
    obtain ⟨h1, h2⟩ := relax_all (k := k) es (relax k r (a, b))
    rw [List.foldl_cons]
    by_cases c : r[a]? = some (some k) ∧ r[b]? = some none
    · have e : relax k r (a, b) = r.set b (some (k + 1)) := if_pos c
      have hb : b < r.length := (List.getElem?_eq_some_iff.mp c.2).1
      rw [e] at h1 h2 ⊢
      refine ⟨by rw [h1, List.length_set], fun v => ?_⟩
      rw [h2 v]
      -- what has k stands
      have same : ∀ u, (r.set b (some (k + 1)))[u]? = some (some k) ↔ r[u]? = some (some k) := fun u => by
        by_cases q : u = b
        · subst q
          rw [List.getElem?_set_self hb, c.2]
          simp
        · rw [List.getElem?_set_ne (Ne.symm q)]
      by_cases q : v = b
      · subst q
        rw [List.getElem?_set_self hb]
        rw [if_neg (by simp), if_pos ⟨c.2, a, by simp, c.1⟩]
      · rw [List.getElem?_set_ne (Ne.symm q)]
        have : (∃ u, (u, v) ∈ es ∧ (r.set b (some (k + 1)))[u]? = some (some k)) ↔ ∃ u, (u, v) ∈ (a, b) :: es ∧ r[u]? = some (some k) := by
          constructor
          · rintro ⟨u, hu, e⟩; exact ⟨u, by simp [hu], (same u).mp e⟩
          · rintro ⟨u, hu, e⟩
            refine ⟨u, ?_, (same u).mpr e⟩
            rcases List.mem_cons.mp hu with z | z
            · exact absurd (Prod.mk.inj z).2 q
            · exact z
        simp only [this]
    · have e : relax k r (a, b) = r := if_neg c
      rw [e] at h1 h2 ⊢
      refine ⟨h1, fun v => ?_⟩
      rw [h2 v]
      by_cases hv : r[v]? = some none
      · have : (∃ u, (u, v) ∈ es ∧ r[u]? = some (some k)) ↔ ∃ u, (u, v) ∈ (a, b) :: es ∧ r[u]? = some (some k) := by
          constructor
          · rintro ⟨u, hu, e⟩; exact ⟨u, by simp [hu], e⟩
          · rintro ⟨u, hu, eu⟩
            rcases List.mem_cons.mp hu with z | z
            · obtain ⟨rfl, rfl⟩ := Prod.mk.inj z
              exact absurd ⟨eu, hv⟩ c
            · exact ⟨u, z, eu⟩
        simp only [this]
      · simp [hv]
section
variable {n : Nat} {adj : Nat → Nat → Bool} {s : Nat}
/-- the row at a level -/
def RowIs (n : Nat) (adj : Nat → Nat → Bool) (s k : Nat) (r : Row) : Prop := r.length = n ∧ ∀ v, v < n → r[v]? = some (Al_ n adj s k v)
def BordIs (n : Nat) (adj : Nat → Nat → Bool) (s k : Nat) (b : List Nat) : Prop := ∀ v, v ∈ b ↔ v < n ∧ Al_ n adj s k v = some k
theorem row0 (hs : s < n) : RowIs n adj s 0 ((List.replicate n (none : Option Nat)).set s (some 0)) := by
  refine ⟨by simp, fun v hv => ?_⟩
  have e : Al_ n adj s 0 v = if v = s then some 0 else none := by
    by_cases q : v = s
    · rw [if_pos q]; exact al_some.mpr ⟨Nat.le_refl _, by simp [Bl, q], fun j hj => by omega⟩
    · rw [if_neg q]; exact al_none.mpr (by simp [Bl, q])
  rw [e]
  by_cases q : v = s
  · subst q; simp [hv]
  · rw [List.getElem?_set_ne (Ne.symm q), if_neg q]; simp [hv]
theorem bord0 (hs : s < n) : BordIs n adj s 0 [s] := fun v => by
  rw [List.mem_singleton]
  constructor
  · rintro rfl; exact ⟨hs, al_some.mpr ⟨Nat.le_refl _, by simp [Bl], fun j hj => by omega⟩⟩
  · rintro ⟨_, e⟩
    have := (al_some.mp e).2.1
    simpa [Bl] using this
theorem pass_bfs {k : Nat} {r : Row} {b ts : List Nat} (hr : RowIs n adj s k r) (hb : BordIs n adj s k b) (ht : ∀ v, v ∈ ts ↔ v < n ∧ ∃ u, u ∈ b ∧ adj u v = true) :
    RowIs n adj s (k + 1) (ts.foldl (visit k) (r, [])).1 ∧ BordIs n adj s (k + 1) (ts.foldl (visit k) (r, [])).2 ∧ (ts.foldl (visit k) (r, [])).2.length ≤ n := by
  obtain ⟨h1, h2, h3, h4⟩ := visit_all (k := k) ts (r, [])
  have key : ∀ v, v < n → Al_ n adj s k v = none → (v ∈ ts ↔ Bl n adj s (k + 1) v = true) := fun v hv e => by
    rw [ht, bl_new e]
    constructor
    · rintro ⟨_, u, hu, ha⟩
      obtain ⟨u1, u2⟩ := (hb u).mp hu
      exact ⟨u, u1, u2, ha⟩
    · rintro ⟨u, u1, u2, ha⟩
      exact ⟨hv, u, (hb u).mpr ⟨u1, u2⟩, ha⟩
  refine ⟨⟨h1.trans hr.1, fun v hv => ?_⟩, fun v => ?_, ?_⟩
  · rw [h2 v]
    show (if r[v]? = some none ∧ v ∈ ts then some (some (k + 1)) else r[v]?) = _
    rw [hr.2 v hv]
    cases e : Al_ n adj s k v with
    | some d => rw [if_neg (by simp), al_le (by omega) e]
    | none =>
      rw [al_new e]
      by_cases q : v ∈ ts
      · rw [if_pos ⟨rfl, q⟩, if_pos ((key v hv e).mp q)]
      · rw [if_neg (fun z => q z.2), if_neg (fun z => q ((key v hv e).mpr z))]
  · rw [h3 v]
    show (v ∈ [] ∨ (r[v]? = some none ∧ v ∈ ts)) ↔ _
    constructor
    · rintro (z | ⟨z, q⟩)
      · cases z
      · have hv := ((ht v).mp q).1
        rw [hr.2 v hv] at z
        have e := Option.some.inj z
        exact ⟨hv, by rw [al_new e, if_pos ((key v hv e).mp q)]⟩
    · rintro ⟨hv, e⟩
      have e0 : Al_ n adj s k v = none := by
        cases q : Al_ n adj s k v with
        | none => rfl
        | some d =>
          rw [al_le (by omega) q] at e
          have := (al_some.mp q).1
          have := Option.some.inj e
          omega
      refine .inr ⟨by rw [hr.2 v hv, e0], (key v hv e0).mpr ?_⟩
      rw [al_new e0] at e
      split at e
      · assumption
      · cases e
  · have c : cnt r ≤ n := by rw [← hr.1]; exact List.countP_le_length
    simp only [List.length_nil, Nat.zero_add] at h4
    omega
theorem pass_law {k : Nat} {r : Row} {es : List (Nat × Nat)} (hr : RowIs n adj s k r) (he : ∀ u v, (u, v) ∈ es ↔ u < n ∧ v < n ∧ adj u v = true) : RowIs n adj s (k + 1) (es.foldl (relax k) r) := by
  obtain ⟨h1, h2⟩ := relax_all (k := k) es r
  refine ⟨h1.trans hr.1, fun v hv => ?_⟩
  rw [h2 v, hr.2 v hv]
  cases e : Al_ n adj s k v with
  | some d => rw [if_neg (by simp), al_le (by omega) e]
  | none =>
    rw [al_new e]
    have key : (∃ u, (u, v) ∈ es ∧ r[u]? = some (some k)) ↔ Bl n adj s (k + 1) v = true := by
      rw [bl_new e]
      constructor
      · rintro ⟨u, hu, eu⟩
        obtain ⟨u1, _, ha⟩ := (he u v).mp hu
        rw [hr.2 u u1] at eu
        exact ⟨u, u1, Option.some.inj eu, ha⟩
      · rintro ⟨u, u1, eu, ha⟩
        exact ⟨u, (he u v).mpr ⟨u1, hv, ha⟩, by rw [hr.2 u u1, eu]⟩
    by_cases q : ∃ u, (u, v) ∈ es ∧ r[u]? = some (some k)
    · rw [if_pos ⟨rfl, q⟩, if_pos (key.mp q)]
    · rw [if_neg (fun z => q z.2), if_neg (fun z => q (key.mpr z))]
theorem row_same {k j : Nat} {r r' : Row} (h : RowIs n adj s k r) (h' : RowIs n adj s j r') (e : ∀ v, v < n → Al_ n adj s k v = Al_ n adj s j v) : r = r' := by
  refine List.ext_getElem? fun v => ?_
  by_cases hv : v < n
  · rw [h.2 v hv, h'.2 v hv, e v hv]
  · rw [List.getElem?_eq_none (by rw [h.1]; omega), List.getElem?_eq_none (by rw [h'.1]; omega)]
end
end Hd

set_option Elab.async false
set_option linter.all false
set_option maxRecDepth 100000
namespace Hd
open Mi PySem PySem.Spec PyProof.Rows L2
variable {M : Store} {x : D} {env : Ev}
abbrev natD (v : Nat) : D := .int (v : Int)
abbrev tieN (q : Nat × Nat) : D := .tup [natD q.1, natD q.2]
abbrev webN (n : Nat) (qs : List (Nat × Nat)) : D := .tup [natD n, .tup (qs.map tieN)]
/-- ties as they stand in a web -/
def TiesN (n : Nat) (qs : List (Nat × Nat)) : Prop := (∀ q ∈ qs, q.1 < q.2 ∧ q.2 < n) ∧ qs.Pairwise fun p q => p.1 < q.1 ∨ (p.1 = q.1 ∧ p.2 < q.2)
def nbr (v : Nat) (q : Nat × Nat) : Option Nat := if q.1 = v then some q.2 else if q.2 = v then some q.1 else none
def nearL (qs : List (Nat × Nat)) (v : Nat) : List Nat := qs.filterMap (nbr v)
def adjN (qs : List (Nat × Nat)) (u v : Nat) : Bool := qs.any fun q => decide ((q.1 = u ∧ q.2 = v) ∨ (q.1 = v ∧ q.2 = u))
theorem adj_iff {qs : List (Nat × Nat)} {u v : Nat} : adjN qs u v = true ↔ (u, v) ∈ qs ∨ (v, u) ∈ qs := by
  simp only [adjN, List.any_eq_true, decide_eq_true_eq]
  constructor
  · rintro ⟨⟨a, b⟩, hq, h⟩
    rcases h with ⟨rfl, rfl⟩ | ⟨rfl, rfl⟩
    · exact .inl hq
    · exact .inr hq
  · rintro (h | h)
    · exact ⟨_, h, .inl ⟨rfl, rfl⟩⟩
    · exact ⟨_, h, .inr ⟨rfl, rfl⟩⟩
theorem mem_near {n : Nat} {qs : List (Nat × Nat)} (h : TiesN n qs) {u v : Nat} : v ∈ nearL qs u ↔ v < n ∧ adjN qs u v = true := by
  rw [adj_iff]
  unfold nearL
  rw [List.mem_filterMap]
  constructor
  · rintro ⟨⟨a, b⟩, hq, e⟩
    have lt := h.1 _ hq
    unfold nbr at e
    simp only at e lt
    split at e
    · rename_i e1
      subst e1
      obtain rfl := Option.some.inj e
      exact ⟨lt.2, .inl hq⟩
    · split at e
      · rename_i e1
        subst e1
        obtain rfl := Option.some.inj e
        exact ⟨by omega, .inr hq⟩
      · cases e
  · rintro ⟨_, hq | hq⟩
    · exact ⟨_, hq, by simp [nbr]⟩
    · have lt := h.1 _ hq
      refine ⟨_, hq, ?_⟩
      have : ¬ v = u := by simp only at lt; omega
      simp [nbr, this]
/-! ### the table of neighbours -/
abbrev rowsS (M : Store) (T : List (List Nat)) : Store := M ++ T.map fun t => some (Ob.lst (t.map natD))
def addT (T : List (List Nat)) (a x : Nat) : List (List Nat) := T.set a (T.getD a [] ++ [x])
theorem rows_len {T : List (List Nat)} : (rowsS M T).length = M.length + T.length := by simp
theorem rows_get {T : List (List Nat)} {a : Nat} {t : List Nat} (h : T[a]? = some t) : (rowsS M T)[M.length + a]? = some (some (.lst (t.map natD))) := by
  rw [List.getElem?_append_right (by omega)]
  simp [h]
theorem pure_nats : ∀ l : List Nat, pureDs (l.map natD) = true
  | [] => rfl
  | v :: l => by simp [pureDs, pureD, pure_nats l]
theorem rows_app {T : List (List Nat)} {a v : Nat} (ha : a < T.length) (hl : ∀ t ∈ T, t.length ≤ 900) : mAppend (.loc (M.length + a)) [natD v] (rowsS M T) = .ok .non (rowsS M (addT T a v)) := by
  have hT : T[a]? = some T[a] := List.getElem?_eq_getElem ha
  have hg : T.getD a [] = T[a] := by rw [List.getD_eq_getElem?_getD, hT]; rfl
  have hl2 := hl _ (List.getElem_mem ha)
  unfold mAppend
  simp only [rows_get (M := M) hT]
  have pu : pureDs (T[a].map natD ++ [natD v]) = true := by
    rw [pureDs_app, pure_nats]; rfl
  rw [if_pos ⟨by rw [sizeLine_eq, List.length_map]; omega, pu⟩, List.set_append_right _ _ (by omega)]
  unfold addT
  rw [hg]
  congr 2
  rw [show M.length + a - M.length = a by omega]
  rw [List.map_set]
  simp
theorem rows_isl {T : List (List Nat)} {a : Nat} (ha : a < T.length) : isLst (rowsS M T) (.loc (M.length + a)) = true := by
  have := rows_get (M := M) (List.getElem?_eq_getElem ha)
  simp only [isLst, Mi.listOf, this]; rfl
abbrev locsD (m n : Nat) : List D := (List.range n).map fun i => .loc (m + i)
theorem ix_loc {m n a : Nat} (ha : a < n) : opIx (.lst (locsD m n)) (natD a) M = .ok (.loc (m + a)) M := by
  have e : L2.atI (locsD m n) (a : Int) = some (.loc (m + a)) := by
    unfold L2.atI L2.ixN
    rw [if_pos (by omega), if_pos (by simp; omega)]
    simp [ha]
  rw [Mi.ix_lst, e, of_ok, bind_ok]
theorem lc_new {n : Nat} {j : Nat} {env : Ev} (hj : j < env.length) : ∀ (xs : List D) (acc : List D) (S : Store), acc.length + xs.length ≤ 1000 → lcD (.nm j) evYes (evNew evNil) xs acc env S = .ok (acc ++ locsD S.length xs.length) (rowsS S (List.replicate xs.length []))
  | [], acc, S, _ => by simp [lcD]
  | x :: xs, acc, S, h => by
    simp only [List.length_cons] at h
    have ih := lc_new (n := n) (j := j) (env := env) hj xs (acc ++ [.loc S.length]) (S ++ [some (.lst [])]) (by simp; omega)
    have en : evNew evNil (env.set j (some x)) S = .ok (.loc S.length) (S ++ [some (.lst [])]) := by
      rw [evNew_e, evNil_e, bind_ok, if_pos ⟨by simp, rfl⟩]
    simp only [lcD, asgP]
    rw [if_pos hj]
    simp only [evYes, bindN_ok, if_true, en]
    rw [if_pos (by rw [sizeLine_eq]; omega), ih]
    have e1 : locsD S.length (xs.length + 1) = .loc S.length :: locsD (S.length + 1) xs.length := by
      simp only [locsD, List.range_succ_eq_map, List.map_cons, List.map_map]
      congr 1
      refine List.map_congr_left fun i _ => ?_
      show D.loc (S.length + (i + 1)) = _
      congr 1; omega
    have e2 : (S ++ [some (Ob.lst [])]).length = S.length + 1 := by simp
    rw [e2, List.length_cons, e1]
    simp [List.replicate_succ]
theorem addT_len {T : List (List Nat)} {a v : Nat} : (addT T a v).length = T.length := by simp [addT]
theorem addT_get {T : List (List Nat)} {a v w : Nat} (ha : a < T.length) : (addT T a v)[w]? = if w = a then T[a]?.map (· ++ [v]) else T[w]? := by
  unfold addT
  by_cases q : w = a
  · subst q
    rw [if_pos rfl, List.getElem?_set_self ha, List.getD_eq_getElem?_getD, List.getElem?_eq_getElem ha]
    rfl
  · rw [if_neg q, List.getElem?_set_ne (Ne.symm q)]
theorem addT_small {T : List (List Nat)} {a v c : Nat} (h : ∀ t ∈ T, t.length ≤ c) : ∀ t ∈ addT T a v, t.length ≤ c + 1 := fun t ht => by
  unfold addT at ht
  rcases List.mem_or_eq_of_mem_set ht with ht | rfl
  · exact Nat.le_succ_of_le (h t ht)
  · rw [List.length_append, List.getD_eq_getElem?_getD]
    cases q : T[a]? with
    | none => simp
    | some u =>
      have := h u (List.mem_of_getElem? q)
      simp; omega
def addN (T : List (List Nat)) (q : Nat × Nat) : List (List Nat) := addT (addT T q.1 q.2) q.2 q.1
theorem addN_all : ∀ (qs : List (Nat × Nat)) (T : List (List Nat)), (∀ q ∈ qs, q.1 < q.2 ∧ q.2 < T.length) → (qs.foldl addN T).length = T.length ∧ ∀ v, (qs.foldl addN T)[v]? = T[v]?.map (· ++ nearL qs v)
  | [], T, _ => ⟨rfl, fun v => by show T[v]? = T[v]?.map (· ++ nearL [] v); cases T[v]? <;> simp [nearL]⟩
  | q :: qs, T, h => by
    have hq := h q (by simp)
    have l1 : (addN T q).length = T.length := by simp [addN, addT_len]
    obtain ⟨h1, h2⟩ := addN_all qs (addN T q) fun p hp => by rw [l1]; exact h p (by simp [hp])
    rw [List.foldl_cons]
    refine ⟨h1.trans l1, fun v => ?_⟩
    rw [h2 v]
    have e : (addN T q)[v]? = T[v]?.map (· ++ (nbr v q).toList) := by
      unfold addN
      rw [addT_get (by rw [addT_len]; omega)]
      by_cases c2 : v = q.2
      · rw [if_pos c2, addT_get (by omega), if_neg (by omega)]
        subst c2
        have : ¬ q.1 = q.2 := by omega
        simp [nbr, this]
      · rw [if_neg c2, addT_get (by omega)]
        by_cases c1 : v = q.1
        · rw [if_pos c1]
          subst c1
          simp [nbr]
        · rw [if_neg c1]
          have a1 : ¬ q.1 = v := fun z => c1 z.symm
          have a2 : ¬ q.2 = v := fun z => c2 z.symm
          cases T[v]? <;> simp [nbr, a1, a2]
    rw [e]
    cases T[v]? with
    | none => rfl
    | some t =>
      simp only [Option.map_some, Option.some.injEq]
      unfold nearL
      rw [List.filterMap_cons]
      cases nbr v q <;> simp
abbrev NTB : Ev → Store → Out := (sSeq (sExp (evM mAppend (ev2 opIx (evVar 3) (evVar 4)) (evCons (evVar 5) evNil))) (sExp (evM mAppend (ev2 opIx (evVar 3) (evVar 5)) (evCons (evVar 4) evNil))))
theorem near_for {n : Nat} {w tl : D} {s6 : Option D} : ∀ (qs : List (Nat × Nat)) (T : List (List Nat)) (s4 s5 : Option D) (c : Nat), T.length = n → (∀ q ∈ qs, q.1 < q.2 ∧ q.2 < n) → (∀ t ∈ T, t.length ≤ c) → c + 2 * qs.length ≤ 800 →
    ∃ t4 t5, forD (.tp [(.nm 4), (.nm 5)]) NTB (qs.map tieN) [some w, some (natD n), some tl, some (.lst (locsD M.length n)), s4, s5, s6] (rowsS M T) = .nx [some w, some (natD n), some tl, some (.lst (locsD M.length n)), t4, t5, s6] (rowsS M (qs.foldl addN T))
  | [], T, s4, s5, c, _, _, _, _ => ⟨s4, s5, rfl⟩
  | q :: qs, T, s4, s5, c, hT, hq, hc, hl => by
    have h := hq q (by simp)
    simp only [List.length_cons] at hl
    obtain ⟨t4, t5, ih⟩ := near_for (w := w) (tl := tl) (s6 := s6) qs (addN T q) (some (natD q.1)) (some (natD q.2)) (c + 2) (by simp [addN, addT_len, hT]) (fun p hp => hq p (by simp [hp])) (fun t ht => addT_small (addT_small hc) t ht) (by omega)
    have as : asgP (rowsS M T) (.tp [(.nm 4), (.nm 5)]) (tieN q) [some w, some (natD n), some tl, some (.lst (locsD M.length n)), s4, s5, s6] = some [some w, some (natD n), some tl, some (.lst (locsD M.length n)), some (natD q.1), some (natD q.2), s6] := by simp [asgP, asgPs, partsOf]
    have i1 := ix_loc (M := rowsS M T) (m := M.length) (n := n) (a := q.1) (by omega)
    have i2 := ix_loc (M := rowsS M (addT T q.1 q.2)) (m := M.length) (n := n) (a := q.2) (by omega)
    have l1 := rows_isl (M := M) (T := T) (a := q.1) (by omega)
    have l2 := rows_isl (M := M) (T := addT T q.1 q.2) (a := q.2) (by rw [addT_len]; omega)
    have a1 := rows_app (M := M) (T := T) (a := q.1) (v := q.2) (by omega) (fun t ht => by have := hc t ht; omega)
    have a2 := rows_app (M := M) (T := addT T q.1 q.2) (a := q.2) (v := q.1) (by rw [addT_len]; omega) (fun t ht => by have := addT_small hc t ht; omega)
    have b : NTB [some w, some (natD n), some tl, some (.lst (locsD M.length n)), some (natD q.1), some (natD q.2), s6] (rowsS M T) = .nx [some w, some (natD n), some tl, some (.lst (locsD M.length n)), some (natD q.1), some (natD q.2), s6] (rowsS M (addN T q)) := by
      unfold NTB
      rw [sSeq_e, sExp_e]
      simp only [evM_e, ev2_e, evCons_e, evNil_e, u_var, List.getElem?_cons_zero, List.getElem?_cons_succ, bind_ok, i1, l1, if_true, a1, out_ok, then_nx, sExp_e, i2, l2, a2]
      rfl
    refine ⟨t4, t5, ?_⟩
    simp only [List.map_cons, forD, as, b, List.foldl_cons]
    exact ih
/-! ### what is handed back -/
theorem frzs_rows : ∀ (T : List (List Nat)) (P : Store) (Q : Store), frzD.frzs ((List.range T.length).map fun i => .loc (P.length + i)) (P ++ (T.map fun t => some (Ob.lst (t.map natD))) ++ Q) = some (T.map fun t => .lst (t.map natD), P ++ (T.map fun _ => none) ++ Q)
  | [], P, Q => rfl
  | t :: T, P, Q => by
    have ih := frzs_rows T (P ++ [none]) Q
    have e1 : ((List.range (t :: T).length).map fun i => D.loc (P.length + i)) = .loc P.length :: (List.range T.length).map fun i => .loc ((P ++ [(none : Option Ob)]).length + i) := by
      rw [List.length_cons, List.range_succ_eq_map, List.map_cons, List.map_map]
      congr 1
      refine List.map_congr_left fun i _ => ?_
      show D.loc (P.length + (i + 1)) = .loc ((P ++ [none]).length + i)
      rw [List.length_append]
      congr 1
      simp; omega
    rw [e1]
    have g : (P ++ ((t :: T).map fun t => some (Ob.lst (t.map natD))) ++ Q)[P.length]? = some (some (.lst (t.map natD))) := by simp
    have st : (P ++ ((t :: T).map fun t => some (Ob.lst (t.map natD))) ++ Q).set P.length none = P ++ [none] ++ (T.map fun t => some (Ob.lst (t.map natD))) ++ Q := by
      rw [List.append_assoc, List.set_append_right _ _ (by omega)]
      simp
    simp only [frzD.frzs, g, st, ih]
    simp
abbrev nearD (n : Nat) (qs : List (Nat × Nat)) : D := .lst ((List.range n).map fun v => .lst ((nearL qs v).map natD))
theorem near_b {n : Nat} {qs : List (Nat × Nat)} (hn : n ≤ 8) (h : TiesN n qs) (hl : qs.length ≤ 28) : b_near_table [some (webN n qs), none, none, none, none, none, none] M = .ret (.lst (locsD M.length n)) (rowsS M ((List.range n).map (nearL qs))) := by
  have rg : Res.of (rng1 [natD n]) M = .ok (rngD 0 1 n) M := nat_rng (by omega)
  have lc := lc_new (n := n) (j := 6) (env := [some (webN n qs), some (natD n), some (.tup (qs.map tieN)), none, none, none, none]) (by simp) (rngD 0 1 n) [] M (by simp [rngD]; omega)
  have lr : (rngD 0 1 n).length = n := len_rng
  rw [lr, List.nil_append] at lc
  obtain ⟨t4, t5, fo⟩ := near_for (M := M) (n := n) (w := webN n qs) (tl := .tup (qs.map tieN)) (s6 := none) qs (List.replicate n []) none none 0 (by simp) h.1 (fun t ht => by rw [(List.mem_replicate.mp ht).2]; simp) (by omega)
  obtain ⟨f1, f2⟩ := addN_all qs (List.replicate n []) (fun q hq => by simpa using h.1 q hq)
  have eT : qs.foldl addN (List.replicate n []) = (List.range n).map (nearL qs) := by
    refine List.ext_getElem? fun v => ?_
    rw [f2 v]
    by_cases hv : v < n
    · simp [hv]
    · rw [List.getElem?_eq_none (by simp; omega), List.getElem?_eq_none (by simp; omega)]; rfl
  rw [eT] at fo
  unfold b_near_table
  have as : asgP M (.tp [(.nm 1), (.nm 2)]) (webN n qs) [some (webN n qs), none, none, none, none, none, none] = some [some (webN n qs), some (natD n), some (.tup (qs.map tieN)), none, none, none, none] := by simp [asgP, asgPs, partsOf]
  rw [sSeq_e, sAsg_e]
  simp only [u_var, List.getElem?_cons_zero, out_ok, as, then_nx]
  rw [sSeq_e, sSet_e, evLc_e]
  have wp : wipeD [some (webN n qs), some (natD n), some (.tup (qs.map tieN)), none, none, none, none] [6] = [some (webN n qs), some (natD n), some (.tup (qs.map tieN)), none, none, none, none] := rfl
  simp only [evRng_e, evCons_e, evNil_e, u_var, List.getElem?_cons_zero, List.getElem?_cons_succ, bind_ok, rg, wp, lc, out_ok]
  rw [if_pos (by simp), then_nx]
  have ex : ([some (webN n qs), some (natD n), some (.tup (qs.map tieN)), none, none, none, none] : Ev).set 3 (some (.lst (locsD M.length n))) = [some (webN n qs), some (natD n), some (.tup (qs.map tieN)), some (.lst (locsD M.length n)), none, none, none] := rfl
  rw [ex, sSeq_e, sFor_e]
  simp only [evIter_e, u_var, List.getElem?_cons_zero, List.getElem?_cons_succ, bind_ok, itOf, of_ok, out_ok]
  rw [fo, then_nx, sRet_e]
  simp only [u_var, List.getElem?_cons_zero, List.getElem?_cons_succ, out_ok]
theorem near_fz {n : Nat} {qs : List (Nat × Nat)} (h1 : 1 ≤ n) : frzD (rowsS M ((List.range n).map (nearL qs))) (.lst (locsD M.length n)) = some (nearD n qs, M ++ ((List.range n).map (nearL qs)).map fun _ => none) := by
  have np : pureDs (locsD M.length n) = false := by
    cases n with
    | zero => omega
    | succ n => simp [locsD, List.range_succ_eq_map, pureDs, pureD]
  have := frzs_rows ((List.range n).map (nearL qs)) M []
  rw [List.length_map, List.length_range, List.append_nil, List.append_nil] at this
  unfold frzD
  simp only [np, Bool.false_eq_true, if_false, this]
  simp
theorem run_frz {n : Nat} {f : Ev → Store → Out} {ds : List D} {d d' : D} {M' M2 : Store} (h : f (ds.map some ++ List.replicate (n - ds.length) none) M = .ret d M') (hf : frzD M' d = some (d', M2)) : runF n false f ds M = .ok d' (M2.take M.length) := by
  unfold runF
  rw [h]
  simp only [Bool.false_eq_true, if_false, hf]
theorem near_ok {n : Nat} {qs : List (Nat × Nat)} (h1 : 1 ≤ n) (hn : n ≤ 8) (h : TiesN n qs) (hl : qs.length ≤ 28) : d_near_table [webN n qs] M = .ok (nearD n qs) M := by
  have b := near_b (M := M) hn h hl
  have z := run_frz (n := 7) (ds := [webN n qs]) b (near_fz (M := M) (qs := qs) h1)
  rw [List.take_append_of_le_length (Nat.le_refl _), List.take_length] at z
  exact z
end Hd

set_option Elab.async false
set_option linter.all false
set_option maxRecDepth 100000
namespace Hd
open Mi PySem PySem.Spec PyProof.Rows L2
variable {M : Store} {x : D} {env : Ev}
def oD : Option Nat → D
  | none => .non
  | some k => natD k
abbrev St (S : Store) (lr : Nat) (r : Row) (b : List Nat) : Store := S.set lr (some (.lst (r.map oD))) ++ [some (.lst (b.map natD))]
theorem ixNn {n j : Nat} (hj : j < n) : L2.ixN n (j : Int) = some j := by
  unfold L2.ixN
  rw [if_pos (by omega), if_pos (by omega)]
  simp
section
variable {S : Store} {lr : Nat} {r : Row} {b : List Nat}
theorem st_r (h : lr < S.length) : (St S lr r b)[lr]? = some (some (.lst (r.map oD))) := by
  rw [List.getElem?_append_left (by simpa using h), List.getElem?_set_self h]
theorem st_b : (St S lr r b)[S.length]? = some (some (.lst (b.map natD))) := by
  rw [List.getElem?_append_right (by simp)]; simp
theorem pure_row : ∀ r : Row, pureDs (r.map oD) = true
  | [] => rfl
  | none :: r => by simp [pureDs, pureD, oD, pure_row r]
  | some k :: r => by simp [pureDs, pureD, oD, pure_row r]
theorem ix_row (h : lr < S.length) {v : Nat} {o : Option Nat} (hv : r[v]? = some o) : opIx (.loc lr) (natD v) (St S lr r b) = .ok (oD o) (St S lr r b) := by
  have hl : v < (r.map oD).length := by simpa using (List.getElem?_eq_some_iff.mp hv).1
  have e : L2.atI (r.map oD) (v : Int) = some (oD o) := by
    unfold L2.atI
    rw [ixNn hl]
    simp [hv]
  have lo : Mi.seqOf (St S lr r b) (.loc lr) = some (r.map oD) := by simp only [Mi.seqOf, Mi.listOf, st_r h]
  unfold opIx
  simp only [lo, e, of_ok, bind_ok]
theorem sub_row (h : lr < S.length) {v k : Nat} {o : Option Nat} (hv : r[v]? = some o) : setD (St S lr r b) (.loc lr) (natD v) (natD k) = some (St S lr (r.set v (some k)) b) := by
  have hl : v < (r.map oD).length := by simpa using (List.getElem?_eq_some_iff.mp hv).1
  unfold setD
  simp only [st_r h, ixNn hl, Option.bind_some]
  have e : (r.map oD).set v (natD k) = (r.set v (some k)).map oD := by rw [List.map_set]; rfl
  rw [e, if_pos (pure_row _), List.set_append_left _ _ (by simpa using h), List.set_set]
theorem app_b (hb : b.length ≤ 900) {v : Nat} : mAppend (.loc S.length) [natD v] (St S lr r b) = .ok .non (St S lr r (b ++ [v])) := by
  unfold mAppend
  simp only [st_b]
  rw [if_pos ⟨by rw [sizeLine_eq, List.length_map]; omega, by rw [pureDs_app, pure_nats]; rfl⟩, List.set_append_right _ _ (by simp)]
  simp
theorem isl_b : isLst (St S lr r b) (.loc S.length) = true := by
  simp only [isLst, Mi.listOf, st_b]; rfl
end
abbrev IB : Ev → Store → Out := (sIf (evTr (ev2 (opIs false) (ev2 opIx (evVar 2) (evVar 6)) (evC .non))) (sSeq (sSub (evVar 2) (evVar 6) (ev2 opAdd (ev2 opIx (evVar 2) (evVar 5)) (evC (.int 1)))) (sExp (evM mAppend (evVar 4) (evCons (evVar 6) evNil)))) sNop)
abbrev HB : Ev → Store → Out := (sFor (.nm 6) (evIter (ev2 opIx (evVar 0) (evVar 5))) IB)
abbrev WB : Ev → Store → Out := (sSeq (sSet 4 (evNew evNil)) (sSeq (sEither (evVar 3) (sForL false (.nm 5) (evVar 3) HB) (sFor (.nm 5) (evIter (evVar 3)) HB)) (sSet 3 (evVar 4))))
@[simp] theorem opIs_non {o : Option Nat} : opIs false (oD o) .non M = .ok (.bl o.isNone) M := by cases o <;> rfl
theorem ib_ok {S : Store} {lr u v k : Nat} {r : Row} {b : List Nat} {o : Option Nat} {near s bd : D} (h : lr < S.length) (hb : b.length ≤ 900) (hu : r[u]? = some (some k)) (hv : r[v]? = some o) :
    IB [some near, some s, some (.loc lr), some bd, some (.loc S.length), some (natD u), some (natD v)] (St S lr r b) = .nx [some near, some s, some (.loc lr), some bd, some (.loc S.length), some (natD u), some (natD v)] (St S lr (visit k (r, b) v).1 (visit k (r, b) v).2) := by
  have i1 := ix_row (b := b) h hv
  have i2 := ix_row (b := b) h hu
  have t : evTr (ev2 (opIs false) (ev2 opIx (evVar 2) (evVar 6)) (evC .non)) [some near, some s, some (.loc lr), some bd, some (.loc S.length), some (natD u), some (natD v)] (St S lr r b) = .ok o.isNone (St S lr r b) := by
    simp only [evTr_e, ev2_e, evC_e, u_var, List.getElem?_cons_zero, List.getElem?_cons_succ, bind_ok, i1, opIs_non, tr_bl, of_ok]
  unfold IB
  rw [sIf_e, t, out_ok]
  cases o with
  | some d =>
    have e : visit k (r, b) v = (r, b) := if_neg (by simp [hv])
    rw [e]
    rfl
  | none =>
    have e : visit k (r, b) v = (r.set v (some (k + 1)), b ++ [v]) := if_pos hv
    rw [e]
    have sb := sub_row (b := b) (k := k + 1) h hv
    have n1 : (natD (k + 1) : D) = .int ((k : Int) + 1) := by simp [natD]
    rw [n1] at sb
    have ap := app_b (S := S) (lr := lr) (r := r.set v (some (k + 1))) (v := v) hb
    have isl := isl_b (S := S) (lr := lr) (r := r.set v (some (k + 1))) (b := b)
    have od : oD (some k) = .int (k : Int) := rfl
    rw [if_pos (show (none : Option Nat).isNone = true from rfl), sSeq_e, sSub_e]
    simp only [ev2_e, evC_e, u_var, List.getElem?_cons_zero, List.getElem?_cons_succ, bind_ok, i2, od, Mi.add_int, out_ok, sb, then_nx, sExp_e, evM_e, isl, if_true, evCons_e, evNil_e, ap]
theorem ib_for {S : Store} {lr u k : Nat} {near s bd : D} (h : lr < S.length) : ∀ (ts : List Nat) (r : Row) (b : List Nat) (s6 : Option D), (∀ t ∈ ts, t < r.length) → b.length + cnt r ≤ 900 → r[u]? = some (some k) →
    ∃ t6, forD (.nm 6) IB (ts.map natD) [some near, some s, some (.loc lr), some bd, some (.loc S.length), some (natD u), s6] (St S lr r b) = .nx [some near, some s, some (.loc lr), some bd, some (.loc S.length), some (natD u), t6] (St S lr (ts.foldl (visit k) (r, b)).1 (ts.foldl (visit k) (r, b)).2)
  | [], r, b, s6, _, _, _ => ⟨s6, rfl⟩
  | t :: ts, r, b, s6, ht, hb, hu => by
    have ht1 := ht t (by simp)
    have e := ib_ok (S := S) (b := b) (near := near) (s := s) (bd := bd) h (by omega) hu (List.getElem?_eq_getElem ht1)
    obtain ⟨v1, v2, v3, v4⟩ := visit_all (k := k) [t] (r, b)
    simp only [List.foldl_cons, List.foldl_nil] at v1 v2 v3 v4
    have hu2 : (visit k (r, b) t).1[u]? = some (some k) := by
      rw [v2 u]
      rw [if_neg (by simp [hu])]
      exact hu
    obtain ⟨t6, ih⟩ := ib_for (S := S) (near := near) (s := s) (bd := bd) h ts (visit k (r, b) t).1 (visit k (r, b) t).2 (some (natD t)) (fun y hy => by rw [v1]; exact ht y (by simp [hy])) (by rw [v4]; exact hb) hu2
    refine ⟨t6, ?_⟩
    have as : asgP (St S lr r b) (.nm 6) (natD t) [some near, some s, some (.loc lr), some bd, some (.loc S.length), some (natD u), s6] = some [some near, some s, some (.loc lr), some bd, some (.loc S.length), some (natD u), some (natD t)] := by simp [asgP]
    simp only [List.map_cons, forD, as, e, List.foldl_cons]
    exact ih
theorem ix_near {n : Nat} {qs : List (Nat × Nat)} {u : Nat} (hu : u < n) : opIx (nearD n qs) (natD u) M = .ok (.lst ((nearL qs u).map natD)) M := by
  have hl : u < ((List.range n).map fun v => D.lst ((nearL qs v).map natD)).length := by simpa using hu
  have e : L2.atI ((List.range n).map fun v => D.lst ((nearL qs v).map natD)) (u : Int) = some (.lst ((nearL qs u).map natD)) := by
    unfold L2.atI
    rw [ixNn hl]
    simp [hu]
  rw [Mi.ix_lst, e, of_ok, bind_ok]
theorem hb_ok {S : Store} {lr u k n : Nat} {qs : List (Nat × Nat)} {r : Row} {b : List Nat} {s bd : D} {s6 : Option D} (hq : TiesN n qs) (h : lr < S.length) (hu : u < n) (hr : r.length = n) (hb : b.length + cnt r ≤ 900) (hk : r[u]? = some (some k)) :
    ∃ t6, HB [some (nearD n qs), some s, some (.loc lr), some bd, some (.loc S.length), some (natD u), s6] (St S lr r b) = .nx [some (nearD n qs), some s, some (.loc lr), some bd, some (.loc S.length), some (natD u), t6] (St S lr ((nearL qs u).foldl (visit k) (r, b)).1 ((nearL qs u).foldl (visit k) (r, b)).2) := by
  obtain ⟨t6, e⟩ := ib_for (S := S) (near := nearD n qs) (s := s) (bd := bd) h (nearL qs u) r b s6 (fun t ht => by rw [hr]; exact (mem_near hq |>.mp ht).1) hb hk
  refine ⟨t6, ?_⟩
  have ix := ix_near (M := St S lr r b) (qs := qs) hu
  unfold HB
  rw [sFor_e]
  simp only [evIter_e, ev2_e, u_var, List.getElem?_cons_zero, List.getElem?_cons_succ, bind_ok, ix, itOf, of_ok, out_ok]
  exact e
/-- all of the border -/
def sweep (qs : List (Nat × Nat)) (k : Nat) (bl : List Nat) (st : Row × List Nat) : Row × List Nat := bl.foldl (fun st u => (nearL qs u).foldl (visit k) st) st
theorem sweep_eq {qs : List (Nat × Nat)} {k : Nat} : ∀ (bl : List Nat) (st : Row × List Nat), sweep qs k bl st = (bl.flatMap (nearL qs)).foldl (visit k) st
  | [], st => rfl
  | u :: bl, st => by
    show sweep qs k bl ((nearL qs u).foldl (visit k) st) = _
    rw [sweep_eq bl, List.flatMap_cons, List.foldl_append]
theorem keeps {k : Nat} (ts : List Nat) (st : Row × List Nat) : (ts.foldl (visit k) st).1.length = st.1.length ∧ (ts.foldl (visit k) st).2.length + cnt (ts.foldl (visit k) st).1 = st.2.length + cnt st.1 ∧ ∀ u : Nat, st.1[u]? = some (some k) → (ts.foldl (visit k) st).1[u]? = some (some k) := by
  obtain ⟨v1, v2, v3, v4⟩ := visit_all (k := k) ts st
  exact ⟨v1, v4, fun u hu => by rw [v2 u, if_neg (by simp [hu])]; exact hu⟩
/-- the border is a plain list -/
theorem hb_forD {S : Store} {lr k n : Nat} {qs : List (Nat × Nat)} {s bd : D} (hq : TiesN n qs) (h : lr < S.length) : ∀ (bl : List Nat) (r : Row) (b : List Nat) (s5 s6 : Option D), (∀ u ∈ bl, u < n ∧ r[u]? = some (some k)) → r.length = n → b.length + cnt r ≤ 900 →
    ∃ t5 t6, forD (.nm 5) HB (bl.map natD) [some (nearD n qs), some s, some (.loc lr), some bd, some (.loc S.length), s5, s6] (St S lr r b) = .nx [some (nearD n qs), some s, some (.loc lr), some bd, some (.loc S.length), t5, t6] (St S lr (sweep qs k bl (r, b)).1 (sweep qs k bl (r, b)).2)
  | [], r, b, s5, s6, _, _, _ => ⟨s5, s6, rfl⟩
  | u :: bl, r, b, s5, s6, hu, hr, hb => by
    obtain ⟨u1, u2⟩ := hu u (by simp)
    obtain ⟨t6, e⟩ := hb_ok (S := S) (s := s) (bd := bd) (s6 := s6) hq h u1 hr hb u2
    obtain ⟨k1, k2, k3⟩ := keeps (k := k) (nearL qs u) (r, b)
    obtain ⟨w5, w6, ih⟩ := hb_forD (S := S) (s := s) (bd := bd) hq h bl ((nearL qs u).foldl (visit k) (r, b)).1 ((nearL qs u).foldl (visit k) (r, b)).2 (some (natD u)) t6 (fun w hw => ⟨(hu w (by simp [hw])).1, k3 w (hu w (by simp [hw])).2⟩) (k1.trans hr) (by rw [k2]; exact hb)
    refine ⟨w5, w6, ?_⟩
    have as : asgP (St S lr r b) (.nm 5) (natD u) [some (nearD n qs), some s, some (.loc lr), some bd, some (.loc S.length), s5, s6] = some [some (nearD n qs), some s, some (.loc lr), some bd, some (.loc S.length), some (natD u), s6] := by simp [asgP]
    simp only [List.map_cons, forD, as, e]
    exact ih
/-- the border stands in the store -/
theorem hb_forL {S : Store} {lr lo k n : Nat} {qs : List (Nat × Nat)} {s bd : D} {bl : List Nat} (hq : TiesN n qs) (h : lr < S.length) (hlo : lo < S.length) (hne : lo ≠ lr) (hS : S[lo]? = some (some (.lst (bl.map natD)))) : ∀ (f i : Nat) (r : Row) (b : List Nat) (s5 s6 : Option D), i ≤ bl.length → bl.length - i < f → (∀ u ∈ bl, u < n ∧ r[u]? = some (some k)) → r.length = n → b.length + cnt r ≤ 900 →
    ∃ t5 t6, forL false (.nm 5) HB lo f i [some (nearD n qs), some s, some (.loc lr), some bd, some (.loc S.length), s5, s6] (St S lr r b) = .nx [some (nearD n qs), some s, some (.loc lr), some bd, some (.loc S.length), t5, t6] (St S lr (sweep qs k (bl.drop i) (r, b)).1 (sweep qs k (bl.drop i) (r, b)).2)
  | 0, i, r, b, s5, s6, h1, h2, _, _, _ => by omega
  | f + 1, i, r, b, s5, s6, h1, h2, hu, hr, hb => by
    have la : Mi.listAt (St S lr r b) lo = some (bl.map natD) := by
      have : (St S lr r b)[lo]? = some (some (.lst (bl.map natD))) := by
        rw [List.getElem?_append_left (by simpa using hlo), List.getElem?_set_ne (Ne.symm hne), hS]
      simp only [Mi.listAt, this]
    by_cases hi : i < bl.length
    · have hx : (bl.map natD)[i]? = some (natD bl[i]) := by simp [hi]
      have hdrop : bl.drop i = bl[i] :: bl.drop (i + 1) := List.drop_eq_getElem_cons hi
      obtain ⟨u1, u2⟩ := hu bl[i] (List.getElem_mem hi)
      generalize bl[i] = u at *
      obtain ⟨t6, e⟩ := hb_ok (S := S) (s := s) (bd := bd) (s6 := s6) hq h u1 hr hb u2
      obtain ⟨k1, k2, k3⟩ := keeps (k := k) (nearL qs u) (r, b)
      obtain ⟨w5, w6, ih⟩ := hb_forL (S := S) (s := s) (bd := bd) hq h hlo hne hS f (i + 1) ((nearL qs u).foldl (visit k) (r, b)).1 ((nearL qs u).foldl (visit k) (r, b)).2 (some (natD u)) t6 hi (by omega) (fun w hw => ⟨(hu w hw).1, k3 w (hu w hw).2⟩) (k1.trans hr) (by rw [k2]; exact hb)
      refine ⟨w5, w6, ?_⟩
      have as : asgP (St S lr r b) (.nm 5) (itemL false i (natD u)) [some (nearD n qs), some s, some (.loc lr), some bd, some (.loc S.length), s5, s6] = some [some (nearD n qs), some s, some (.loc lr), some bd, some (.loc S.length), some (natD u), s6] := by simp [asgP, itemL]
      rw [hdrop]
      simp only [forL, la, hx, as, e]
      exact ih
    · have hx : (bl.map natD)[i]? = none := by simp; omega
      have hd : bl.drop i = [] := List.drop_of_length_le (by omega)
      refine ⟨s5, s6, ?_⟩
      rw [hd]
      simp only [forL, la, hx]
      rfl
end Hd

set_option Elab.async false
set_option linter.all false
set_option maxRecDepth 100000
namespace Hd
open Mi PySem PySem.Spec PyProof.Rows L2
variable {M : Store} {x : D} {env : Ev}
@[simp] theorem sEither_e {f : Ev → Store → Res D} {a b : Ev → Store → Out} : sEither f a b env M = if isLoc (f env M) = true then a env M else b env M := (rfl)
@[simp] theorem sForL_e {en : Bool} {p : Pat} {f : Ev → Store → Res D} {b : Ev → Store → Out} : sForL en p f b env M = (f env M).out env fun d M1 => match d with | .loc l => forL en p b l 1000 0 env M1 | _ => .stuck := (rfl)
/-- what stands for the border -/
def BdIs (S : Store) (lr : Nat) (bd : D) (bl : List Nat) : Prop := bd = .lst (bl.map natD) ∨ ∃ lo, bd = .loc lo ∧ lo < S.length ∧ lo ≠ lr ∧ S[lo]? = some (some (.lst (bl.map natD)))
theorem set_same {α : Type} {S : List α} {l : Nat} {o : α} (h : S[l]? = some o) : S.set l o = S := by
  have := List.getElem?_eq_some_iff.mp h
  rw [← this.2]; exact List.set_getElem_self this.1
theorem wb_ok {S : Store} {lr k n : Nat} {qs : List (Nat × Nat)} {s bd : D} {bl : List Nat} {r : Row} {s4 s5 s6 : Option D} (hq : TiesN n qs) (h : lr < S.length) (hS : S[lr]? = some (some (.lst (r.map oD)))) (hbd : BdIs S lr bd bl) (hu : ∀ u ∈ bl, u < n ∧ r[u]? = some (some k)) (hr : r.length = n) (hn : n ≤ 8) (hl : bl.length ≤ 900) :
    ∃ t5 t6, WB [some (nearD n qs), some s, some (.loc lr), some bd, s4, s5, s6] S = .nx [some (nearD n qs), some s, some (.loc lr), some (.loc S.length), some (.loc S.length), t5, t6] (St S lr (sweep qs k bl (r, [])).1 (sweep qs k bl (r, [])).2) := by
  have cn : cnt r ≤ n := by rw [← hr]; exact List.countP_le_length
  have s0 : S ++ [some (Ob.lst [])] = St S lr r [] := by
    show _ = S.set lr (some (.lst (r.map oD))) ++ [some (.lst [])]
    rw [set_same hS]
  have step : ∃ t5 t6, (sEither (evVar 3) (sForL false (.nm 5) (evVar 3) HB) (sFor (.nm 5) (evIter (evVar 3)) HB)) [some (nearD n qs), some s, some (.loc lr), some bd, some (.loc S.length), s5, s6] (St S lr r []) = .nx [some (nearD n qs), some s, some (.loc lr), some bd, some (.loc S.length), t5, t6] (St S lr (sweep qs k bl (r, [])).1 (sweep qs k bl (r, [])).2) := by
    rcases hbd with rfl | ⟨lo, rfl, h1, h2, h3⟩
    · obtain ⟨t5, t6, e⟩ := hb_forD (S := S) (s := s) (bd := .lst (bl.map natD)) (k := k) hq h bl r [] s5 s6 hu hr (by simp; omega)
      refine ⟨t5, t6, ?_⟩
      rw [sEither_e, if_neg (by simp [isLoc]), sFor_e]
      simp only [evIter_e, u_var, List.getElem?_cons_zero, List.getElem?_cons_succ, bind_ok, itOf, of_ok, out_ok]
      exact e
    · obtain ⟨t5, t6, e⟩ := hb_forL (S := S) (s := s) (bd := .loc lo) (k := k) hq h h1 h2 h3 1000 0 r [] s5 s6 (by omega) (by omega) hu hr (by simp; omega)
      refine ⟨t5, t6, ?_⟩
      rw [sEither_e, if_pos (by simp [isLoc]), sForL_e]
      simp only [u_var, List.getElem?_cons_zero, List.getElem?_cons_succ, out_ok]
      exact e
  obtain ⟨t5, t6, e⟩ := step
  refine ⟨t5, t6, ?_⟩
  unfold WB
  rw [sSeq_e, sSet_e, evNew_e, evNil_e, bind_ok, if_pos ⟨by simp, rfl⟩, out_ok, if_pos (by simp), then_nx]
  have ex : ([some (nearD n qs), some s, some (.loc lr), some bd, s4, s5, s6] : Ev).set 4 (some (.loc S.length)) = [some (nearD n qs), some s, some (.loc lr), some bd, some (.loc S.length), s5, s6] := rfl
  rw [ex, s0, sSeq_e, e, then_nx, sSet_e]
  simp only [u_var, List.getElem?_cons_zero, List.getElem?_cons_succ, out_ok]
  rw [if_pos (by simp)]
  rfl
theorem bd_tr {S : Store} {lr : Nat} {bd : D} {bl : List Nat} (h : BdIs S lr bd bl) : trD S bd = some (!bl.isEmpty) := by
  rcases h with rfl | ⟨lo, rfl, _, _, h⟩
  · cases bl <;> rfl
  · simp only [trD, h]
    cases bl <;> rfl
theorem far_while {lr n : Nat} {qs : List (Nat × Nat)} {s : Nat} (hq : TiesN n qs) (h1 : 1 ≤ n) (hn : n ≤ 8) : ∀ (f k : Nat) (S : Store) (bd : D) (bl : List Nat) (r : Row) (s4 s5 s6 : Option D), n + 2 - k ≤ f → lr < S.length → S[lr]? = some (some (.lst (r.map oD))) → BdIs S lr bd bl → RowIs n (adjN qs) s k r → BordIs n (adjN qs) s k bl → bl.length ≤ n →
    (∀ d, d < k → ∃ v, v < n ∧ Al_ n (adjN qs) s d v = some d) →
    ∃ r' J bd' t4 t5 t6, whD (evTr (evVar 3)) WB f [some (nearD n qs), some (natD s), some (.loc lr), some bd, s4, s5, s6] S = .nx [some (nearD n qs), some (natD s), some (.loc lr), some bd', t4, t5, t6] (S.set lr (some (.lst (r'.map oD))) ++ J) ∧ RowIs n (adjN qs) s (n - 1) r'
  | 0, k, S, bd, bl, r, s4, s5, s6, hf, _, _, _, _, _, _, lv => by have := levels lv; omega
  | f + 1, k, S, bd, bl, r, s4, s5, s6, hf, hlr, hS, hbd, hrow, hbord, hbl, lv => by
    have t : evTr (evVar 3) [some (nearD n qs), some (natD s), some (.loc lr), some bd, s4, s5, s6] S = .ok (!bl.isEmpty) S := by
      simp only [evTr_e, u_var, List.getElem?_cons_zero, List.getElem?_cons_succ, bind_ok, bd_tr hbd, of_ok]
    cases bl with
    | nil =>
      refine ⟨r, [], bd, s4, s5, s6, ?_, hrow.1, fun v hv => ?_⟩
      · simp only [whD, t, out_ok]
        rw [if_neg (by simp), set_same hS, List.append_nil]
      · rw [hrow.2 v hv, al_end h1 lv (fun w hw e => by have := (hbord w).mpr ⟨hw, e⟩; cases this) v hv]
    | cons u us =>
      have hu : ∀ w ∈ u :: us, w < n ∧ r[w]? = some (some k) := fun w hw => by
        obtain ⟨a, b⟩ := (hbord w).mp hw
        exact ⟨a, by rw [hrow.2 w a, b]⟩
      obtain ⟨t5, t6, e⟩ := wb_ok (s := natD s) (s4 := s4) (s5 := s5) (s6 := s6) hq hlr hS hbd hu hrow.1 hn (by omega)
      have pb := pass_bfs (ts := (u :: us).flatMap (nearL qs)) hrow hbord (fun v => by
        rw [List.mem_flatMap]
        constructor
        · rintro ⟨w, hw, hm⟩
          have := (mem_near hq).mp hm
          exact ⟨this.1, w, hw, this.2⟩
        · rintro ⟨hv, w, hw, ha⟩
          exact ⟨w, hw, (mem_near hq).mpr ⟨hv, ha⟩⟩)
      rw [← sweep_eq] at pb
      obtain ⟨p1, p2, p3⟩ := pb
      generalize hst : sweep qs k (u :: us) (r, []) = st at *
      have len2 : (St S lr st.1 st.2).length = S.length + 1 := by simp
      obtain ⟨r', J, bd', t4, w5, w6, ih, hr'⟩ := far_while (lr := lr) (s := s) hq h1 hn f (k + 1) (St S lr st.1 st.2) (.loc S.length) st.2 st.1 (some (.loc S.length)) t5 t6 (by omega) (by rw [len2]; omega) (st_r hlr) (.inr ⟨S.length, rfl, by rw [len2]; omega, by omega, st_b⟩) p1 p2 p3
        (fun d hd => by
          rcases Nat.lt_or_ge d k with q | q
          · exact lv d q
          · have : d = k := by omega
            subst this
            exact ⟨u, (hbord u).mp (by simp)⟩)
      refine ⟨r', some (.lst (st.2.map natD)) :: J, bd', t4, w5, w6, ?_, hr'⟩
      have es : (St S lr st.1 st.2).set lr (some (.lst (r'.map oD))) ++ J = S.set lr (some (.lst (r'.map oD))) ++ some (.lst (st.2.map natD)) :: J := by
        rw [List.set_append_left _ _ (by simpa using hlr), List.set_set, List.append_assoc]
        rfl
      rw [← es]
      simp only [whD, t, out_ok]
      rw [if_pos (by simp), e]
      exact ih
/-- how far all are from s -/
def rowR (n : Nat) (qs : List (Nat × Nat)) (s : Nat) : Row := (List.range n).map fun v => Al_ n (adjN qs) s (n - 1) v
theorem rowR_is {n : Nat} {qs : List (Nat × Nat)} {s : Nat} : RowIs n (adjN qs) s (n - 1) (rowR n qs s) := ⟨by simp [rowR], fun v hv => by simp [rowR, hv]⟩
theorem run_keep {n : Nat} {f : Ev → Store → Out} {ds : List D} {d : D} {M' : Store} (h : f (ds.map some ++ List.replicate (n - ds.length) none) M = .ret d M') : runF n true f ds M = .ok d M' := by
  unfold runF
  rw [h]
  rfl
theorem run_frz1 {n : Nat} {f : Ev → Store → Out} {ds : List D} {d d' : D} {M' M2 : Store} (h : f (ds.map some ++ List.replicate (n - ds.length) none) M = .ret d M') (hf : frzD M' d = some (d', M2)) : runF n false f ds M = .ok d' (M2.take M.length) := by
  unfold runF
  rw [h]
  simp only [Bool.false_eq_true, if_false, hf]
theorem far_fz {r : Row} {J : Store} : frzD (M ++ some (.lst (r.map oD)) :: J) (.loc M.length) = some (.lst (r.map oD), (M ++ some (.lst (r.map oD)) :: J).set M.length none) := by
  have g : (M ++ some (Ob.lst (r.map oD)) :: J)[M.length]? = some (some (.lst (r.map oD))) := by simp
  unfold frzD
  simp only [g]
theorem far_ok {n s : Nat} {qs : List (Nat × Nat)} (hq : TiesN n qs) (h1 : 1 ≤ n) (hn : n ≤ 8) (hs : s < n) : d__far_row [nearD n qs, natD s] M = .ok (.lst ((rowR n qs s).map oD)) M := by
  have bl : biLen [nearD n qs] M = .ok (natD n) M := by simp [biLen, seqOf, Mi.listOf]
  have e0 : (List.replicate n [D.non]).flatten = (List.replicate n (none : Option Nat)).map oD := by
    induction n with
    | zero => rfl
    | succ n ih =>
      clear h1 hn hs hq bl
      have : ∀ m : Nat, (List.replicate m [D.non]).flatten = (List.replicate m (none : Option Nat)).map oD := fun m => by
        induction m with
        | zero => rfl
        | succ m ih => rw [List.replicate_succ, List.flatten_cons, ih, List.replicate_succ]; rfl
      exact this (n + 1)
  have mu : opMulN (.lst [.non]) (natD n) M = .ok (.loc M.length) (M ++ [some (.lst ((List.replicate n (none : Option Nat)).map oD))]) := by
    have lo : Mi.listOf M (.lst [.non]) = some [.non] := rfl
    unfold opMulN
    simp only [lo, of_ok, bind_ok]
    rw [show ((n : Int)).toNat = n by simp, e0, if_pos ⟨⟨by omega, by omega, by rw [sizeLine_eq]; simp; omega⟩, pure_row _⟩]
  have hl0 : s < ((List.replicate n (none : Option Nat)).map oD).length := by simpa using hs
  have su : setD (M ++ [some (.lst ((List.replicate n (none : Option Nat)).map oD))]) (.loc M.length) (natD s) (.int 0) = some (M ++ [some (.lst (((List.replicate n (none : Option Nat)).set s (some 0)).map oD))]) := by
    have g : (M ++ [some (Ob.lst ((List.replicate n (none : Option Nat)).map oD))])[M.length]? = some (some (.lst ((List.replicate n (none : Option Nat)).map oD))) := by simp
    have e : ((List.replicate n (none : Option Nat)).map oD).set s (.int 0) = ((List.replicate n (none : Option Nat)).set s (some 0)).map oD := by rw [List.map_set]; rfl
    unfold setD
    simp only [g, ixNn hl0, Option.bind_some]
    rw [e, if_pos (pure_row _), List.set_append_right _ _ (by omega)]
    simp
  obtain ⟨r', J, bd', t4, t5, t6, w, hr⟩ := far_while (lr := M.length) (s := s) hq h1 hn 1000 0 (M ++ [some (.lst (((List.replicate n (none : Option Nat)).set s (some 0)).map oD))]) (.lst ([s].map natD)) [s] ((List.replicate n (none : Option Nat)).set s (some 0)) none none none (by omega) (by simp) (by simp) (.inl rfl) (row0 hs) (bord0 hs) (by simp; omega) (fun d hd => by omega)
  have er : r' = rowR n qs s := row_same hr rowR_is fun v hv => rfl
  rw [er] at w
  have st : (M ++ [some (Ob.lst (((List.replicate n (none : Option Nat)).set s (some 0)).map oD))]).set M.length (some (.lst ((rowR n qs s).map oD))) ++ J = M ++ some (.lst ((rowR n qs s).map oD)) :: J := by
    rw [List.set_append_right _ _ (by omega)]
    simp
  rw [st] at w
  have b : b__far_row [some (nearD n qs), some (natD s), none, none, none, none, none] M = .ret (.loc M.length) (M ++ some (.lst ((rowR n qs s).map oD)) :: J) := by
    have fe : b__far_row = (sSeq (sSet 2 (ev2 opMulN (evLst (evCons (evC .non) evNil)) (evN biLen (evCons (evVar 0) evNil)))) (sSeq (sSub (evVar 2) (evVar 1) (evC (.int 0))) (sSeq (sSet 3 (evLst (evCons (evVar 1) evNil))) (sSeq (sWhile 1000 (evTr (evVar 3)) WB) (sRet (evVar 2)))))) := rfl
    rw [fe, sSeq_e, sSet_e]
    have one : ∀ d : D, ([d] : List D).length ≤ sizeLine := fun d => by rw [sizeLine_eq]; simp
    simp only [ev2_e, evLst_e, evCons_e, evNil_e, evC_e, evN_e, u_var, List.getElem?_cons_zero, List.getElem?_cons_succ, bind_ok, one, if_true, bl, mu, out_ok]
    rw [if_pos (by simp), then_nx]
    have x1 : ([some (nearD n qs), some (natD s), none, none, none, none, none] : Ev).set 2 (some (.loc M.length)) = [some (nearD n qs), some (natD s), some (.loc M.length), none, none, none, none] := rfl
    rw [x1, sSeq_e, sSub_e]
    simp only [evC_e, u_var, List.getElem?_cons_zero, List.getElem?_cons_succ, out_ok, su, then_nx]
    rw [sSeq_e, sSet_e]
    simp only [evLst_e, evCons_e, evNil_e, u_var, List.getElem?_cons_zero, List.getElem?_cons_succ, bind_ok, one, if_true, out_ok]
    rw [if_pos (by simp), then_nx]
    have x2 : ([some (nearD n qs), some (natD s), some (.loc M.length), none, none, none, none] : Ev).set 3 (some (.lst [natD s])) = [some (nearD n qs), some (natD s), some (.loc M.length), some (.lst ([s].map natD)), none, none, none] := rfl
    rw [x2, sSeq_e]
    show (whD (evTr (evVar 3)) WB 1000 _ _).then _ = _
    rw [w, then_nx, sRet_e]
    simp only [u_var, List.getElem?_cons_zero, List.getElem?_cons_succ, out_ok]
  have z := run_frz1 (n := 7) (ds := [nearD n qs, natD s]) b (far_fz (M := M) (r := rowR n qs s) (J := J))
  rw [List.set_append_right _ _ (Nat.le_refl _), List.take_append_of_le_length (Nat.le_refl _), List.take_length] at z
  exact z
end Hd

set_option Elab.async false
set_option linter.all false
set_option maxRecDepth 100000
namespace Hd
open Mi PySem PySem.Spec PyProof.Rows L2
variable {M : Store} {x : D} {env : Ev}
@[simp] theorem sRaise_e {c : Nat} : sRaise c env M = .exc c [] env M := (rfl)
@[simp] theorem then_exc {f : Ev → Store → Out} {c : Nat} {fs : List (Str × D)} : (Out.exc c fs env M).then f = .exc c fs env M := (rfl)
theorem in_nat {n p : Nat} (hp : p < n) : inR 0 n (natD p) = true := by simp [inR]; omega
theorem row_at {S : Store} {lr v : Nat} {r : Row} {o : Option Nat} (hS : S[lr]? = some (some (.lst (r.map oD)))) (hv : r[v]? = some o) : opIx (.loc lr) (natD v) S = .ok (oD o) S := by
  have hl : v < (r.map oD).length := by simpa using (List.getElem?_eq_some_iff.mp hv).1
  have e : L2.atI (r.map oD) (v : Int) = some (oD o) := by
    unfold L2.atI
    rw [ixNn hl]
    simp [hv]
  have lo : Mi.seqOf S (.loc lr) = some (r.map oD) := by simp only [Mi.seqOf, Mi.listOf, hS]
  unfold opIx
  simp only [lo, e, of_ok, bind_ok]
theorem rowR_get {n s v : Nat} {qs : List (Nat × Nat)} (hv : v < n) : (rowR n qs s)[v]? = some (Al_ n (adjN qs) s (n - 1) v) := by simp [rowR, hv]
theorem oD_pure (o : Option Nat) : frzD M (oD o) = some (oD o, M) := by cases o <;> rfl
/-! ### as data -/
def pyO : Option Nat → PyData
  | none => .none
  | some k => .int (k : Int)
theorem pys_row : ∀ r : Row, toPys (r.map oD) = some (r.map pyO)
  | [] => rfl
  | none :: r => by simp [toPys, toPy, oD, pyO, pys_row r]
  | some k :: r => by simp [toPys, toPy, oD, pyO, pys_row r]
theorem lay_row (r : Row) : PyData.canLayAll0 (r.map pyO) = true := by
  induction r with
  | nil => rfl
  | cons o r ih => cases o <;> simp [PyData.canLayAll0, pyO, PyData.canLay0, ih]
theorem dep_row (r : Row) : PyData.depthAll (r.map pyO) = 0 := by
  induction r with
  | nil => simp [PyData.depthAll]
  | cons o r ih => cases o <;> simp [PyData.depthAll, pyO, PyData.depth, ih]
theorem shaped_row (r : Row) : SeqAt.shaped (.list (r.map pyO)) = true := by
  simp [SeqAt.shaped, PyData.canLay0, PyData.depth, lay_row, dep_row]
theorem in_none {d : D} {r : Row} (h : toPyM M d = some (.list (r.map pyO))) : opIn true .non d M = .ok (.bl (!r.any Option.isNone)) M := by
  have s : SeqAt.shaped .none = true := by decide +kernel
  have t : toPyM M .non = some .none := rfl
  have e : ((r.map pyO).any fun z => PyData.eqv z .none) = r.any Option.isNone := by
    rw [List.any_map]
    congr 1
    funext o
    cases o <;> simp [pyO, PyData.eqv]
  unfold opIn inDs
  simp only [t, h, Option.bind_some, s, shaped_row, and_self, if_true, e, of_ok, bind_ok]
  simp
/-! ### the table -/
theorem joined_ok {n : Nat} {qs : List (Nat × Nat)} (hq : TiesN n qs) (h1 : 1 ≤ n) (hn : n ≤ 8) (hl : qs.length ≤ 28) : d_is_joined [webN n qs] M = .ok (.bl (!(rowR n qs 0).any Option.isNone)) M := by
  have nr := near_ok (M := M) h1 hn hq hl
  have fr := far_ok (M := M) (s := 0) hq h1 hn (by omega)
  have ino := in_none (M := M) (d := .lst ((rowR n qs 0).map oD)) (r := rowR n qs 0) (by simp [toPyM, toPy, pys_row])
  have z0 : (natD 0 : D) = .int 0 := rfl
  rw [z0] at fr
  have b : b_is_joined [some (webN n qs)] M = .ret (.bl (!(rowR n qs 0).any Option.isNone)) M := by
    unfold b_is_joined
    rw [sRet_e]
    simp only [ev2_e, evC_e, evCall_e, evCons_e, evNil_e, u_var, List.getElem?_cons_zero, bind_ok, nr, fr, ino, out_ok]
  unfold d_is_joined
  rw [run_ret (n := 1) (ds := [webN n qs]) b frz_bl, List.take_length]
end Hd

set_option Elab.async false
set_option linter.all false
set_option maxRecDepth 100000
namespace Hd
open Mi PySem PySem.Spec PyProof.Rows L2
variable {M : Store} {x : D} {env : Ev}
/-! ### steps -/
theorem wipeD_nil : wipeD env [] = env := rfl
theorem wipeD_cons {v : Nat} {vs : List Nat} : wipeD env (v :: vs) = (wipeD env vs).set v none := (rfl)
theorem asg_nm {i : Nat} {d : D} : asgP M (.nm i) d env = if i < env.length then some (env.set i (some d)) else none := by simp only [asgP]
theorem asg_tp {ps : List Pat} {xs : List D} : asgP M (.tp ps) (.tup xs) env = if xs.length = ps.length then asgPs M ps xs env else none := by simp only [asgP, partsOf, Option.bind_some]
theorem asgs_nil : asgPs M [] [] env = some env := by simp only [asgPs]
theorem asgs_cons {p : Pat} {ps : List Pat} {d : D} {ds : List D} : asgPs M (p :: ps) (d :: ds) env = (asgP M p d env).bind fun e => asgPs M ps ds e := by simp only [asgPs]
theorem lc_mapF {α : Type} {p : Pat} {fe : Ev → Store → Res D} (g h : α → D) : ∀ (l : List α) (acc : List D), (∀ a ∈ l, ∃ env1, asgP M p (g a) env = some env1 ∧ fe env1 M = .ok (h a) M) → acc.length + l.length ≤ 1000 → lcD p evYes fe (l.map g) acc env M = .ok (acc ++ l.map h) M
  | [], acc, _, _ => by simp [lcD]
  | a :: l, acc, hx, hl => by
    obtain ⟨env1, h1, h2⟩ := hx a (by simp)
    simp only [List.length_cons] at hl
    have ih := lc_mapF g h l (acc ++ [h a]) (fun y hy => hx y (by simp [hy])) (by simp; omega)
    simp only [List.map_cons, lcD, h1, evYes, bindN_ok, if_true, h2]
    rw [if_pos (by rw [sizeLine_eq]; omega), ih]
    simp
theorem lc_fm {α : Type} {p : Pat} {test : Ev → Store → Res Bool} {fe : Ev → Store → Res D} (g h : α → D) (P : α → Bool) : ∀ (l : List α) (acc : List D), (∀ a ∈ l, ∃ env1, asgP M p (g a) env = some env1 ∧ test env1 M = .ok (P a) M ∧ (P a = true → fe env1 M = .ok (h a) M)) → acc.length + l.length ≤ 1000 → lcD p test fe (l.map g) acc env M = .ok (acc ++ (l.filter P).map h) M
  | [], acc, _, _ => by simp [lcD]
  | a :: l, acc, hx, hl => by
    obtain ⟨env1, h1, h2, h3⟩ := hx a (by simp)
    simp only [List.length_cons] at hl
    simp only [List.map_cons, lcD, h1, bindN_ok, h2]
    cases hp : P a with
    | true =>
      have ih := lc_fm g h P l (acc ++ [h a]) (fun y hy => hx y (by simp [hy])) (by simp; omega)
      rw [if_pos rfl, h3 hp, bindN_ok, if_pos (by rw [sizeLine_eq]; omega), ih]
      simp [hp]
    | false =>
      have ih := lc_fm g h P l acc (fun y hy => hx y (by simp [hy])) (by omega)
      rw [if_neg (by simp), ih]
      simp [hp]
theorem ix_map {α : Type} {f : α → D} {l : List α} {i : Nat} {a : α} (h : l[i]? = some a) : opIx (.lst (l.map f)) (natD i) M = .ok (f a) M := by
  have hl : i < (l.map f).length := by simpa using (List.getElem?_eq_some_iff.mp h).1
  have e : L2.atI (l.map f) (i : Int) = some (f a) := by
    unfold L2.atI
    rw [ixNn hl]
    simp [h]
  rw [Mi.ix_lst, e, of_ok, bind_ok]
theorem ix_mapT {α : Type} {f : α → D} {l : List α} {i : Nat} {a : α} (h : l[i]? = some a) : opIx (.tup (l.map f)) (natD i) M = .ok (f a) M := by
  have hl : i < (l.map f).length := by simpa using (List.getElem?_eq_some_iff.mp h).1
  have e : L2.atI (l.map f) (i : Int) = some (f a) := by
    unfold L2.atI
    rw [ixNn hl]
    simp [h]
  rw [Mi.ix_tup, e, of_ok, bind_ok]
/-- a loop that may come back early -/
theorem for_first {α : Type} {g : α → D} {p : Pat} {body : Ev → Store → Out} {I : Ev → Prop} {φ : α → Option D} : ∀ (l : List α) (env : Ev), I env → (∀ a ∈ l, ∀ env, I env → ∃ env1, asgP M p (g a) env = some env1 ∧ ((∃ d, φ a = some d ∧ body env1 M = .ret d M) ∨ (φ a = none ∧ ∃ env', body env1 M = .nx env' M ∧ I env'))) →
    (∃ d, l.findSome? φ = some d ∧ forD p body (l.map g) env M = .ret d M) ∨ (l.findSome? φ = none ∧ ∃ env', forD p body (l.map g) env M = .nx env' M ∧ I env')
  | [], env, h, _ => .inr ⟨rfl, env, rfl, h⟩
  | a :: l, env, h, hs => by
    obtain ⟨env1, h1, h2⟩ := hs a (by simp) env h
    rcases h2 with ⟨d, e1, e2⟩ | ⟨e1, env', e2, e3⟩
    · refine .inl ⟨d, by simp [List.findSome?, e1], ?_⟩
      simp only [List.map_cons, forD, h1, e2]
    · have ih := for_first (g := g) (φ := φ) l env' e3 fun b hb => hs b (by simp [hb])
      rcases ih with ⟨d, f1, f2⟩ | ⟨f1, env2, f2, f3⟩
      · refine .inl ⟨d, by simp [List.findSome?, e1, f1], ?_⟩
        simp only [List.map_cons, forD, h1, e2]; exact f2
      · refine .inr ⟨by simp only [List.findSome?, e1, f1], env2, ?_, f3⟩
        simp only [List.map_cons, forD, h1, e2]; exact f2
/-- a loop that lets a list grow -/
theorem for_acc {α : Type} {g : α → D} {p : Pat} {body : Ev → Store → Out} (K : List D → Ev → Prop) (F : α → List D) (c B : Nat) : ∀ (l : List α) (acc : List D) (env : Ev), K acc env → acc.length + c * l.length ≤ B →
    (∀ a ∈ l, ∀ acc env, acc.length + c ≤ B → K acc env → ∃ env1 env', asgP M p (g a) env = some env1 ∧ body env1 M = .nx env' M ∧ K (acc ++ F a) env' ∧ (F a).length ≤ c) → ∃ env', forD p body (l.map g) env M = .nx env' M ∧ K (acc ++ l.flatMap F) env'
  | [], acc, env, h, _, _ => ⟨env, rfl, by simpa using h⟩
  | a :: l, acc, env, h, hl, hs => by
    rw [List.length_cons, Nat.mul_succ] at hl
    obtain ⟨env1, env', h1, h2, h3, h4⟩ := hs a (by simp) acc env (by omega) h
    obtain ⟨e2, f1, f2⟩ := for_acc K F c B l (acc ++ F a) env' h3 (by rw [List.length_append]; omega) fun b hb => hs b (by simp [hb])
    refine ⟨e2, ?_, ?_⟩
    · simp only [List.map_cons, forD, h1, h2]; exact f1
    · rw [List.flatMap_cons, ← List.append_assoc]; exact f2
end Hd

set_option Elab.async false
set_option linter.all false
set_option maxRecDepth 100000
namespace Hd
open Mi PySem PySem.Spec PyProof.Rows L2
/-! ### levels: there and back, and capped -/
section
variable {n : Nat} {adj : Nat → Nat → Bool} {s : Nat}
theorem bl_trans {k v : Nat} (h : Bl n adj s k v = true) : ∀ {j w : Nat}, Bl n adj v j w = true → Bl n adj s (k + j) w = true
  | 0, w, h2 => by
    have : w = v := by simpa [Bl] using h2
    rw [this]; exact h
  | j + 1, w, h2 => by
    rw [show k + (j + 1) = (k + j) + 1 by omega]
    rcases bl_step.mp h2 with q | ⟨u, hu, q, a⟩
    · exact bl_succ (bl_trans h q)
    · exact bl_step.mpr (.inr ⟨u, hu, bl_trans h q, a⟩)
theorem bl_symm (sy : ∀ u v, adj u v = true → adj v u = true) : ∀ {k v : Nat}, v < n → Bl n adj s k v = true → Bl n adj v k s = true
  | 0, v, _, h => by
    have : v = s := by simpa [Bl] using h
    simp [Bl, this]
  | k + 1, v, hv, h => by
    rcases bl_step.mp h with q | ⟨u, hu, q, a⟩
    · exact bl_succ (bl_symm sy hv q)
    · have h1 : Bl n adj v 1 u = true := bl_step.mpr (.inr ⟨v, hv, by simp [Bl], sy _ _ a⟩)
      have := bl_trans h1 (bl_symm sy hu q)
      rwa [Nat.add_comm] at this
theorem al_down : ∀ {d v : Nat}, v < n → Al_ n adj s d v = some d → ∀ j, j ≤ d → ∃ u, u < n ∧ Al_ n adj s j u = some j
  | d, v, hv, h, j, hj => by
    rcases Nat.lt_or_ge j d with q | q
    · obtain ⟨h1, h2, h3⟩ := al_some.mp h
      cases d with
      | zero => omega
      | succ d =>
        have hn : Al_ n adj s d v = none := al_none.mpr (h3 d (by omega))
        obtain ⟨u, hu, e, _⟩ := (bl_new hn).mp h2
        exact al_down hu e j (by omega)
    · rw [show j = d by omega]; exact ⟨v, hv, h⟩
theorem bl_cap {k v : Nat} (hv : v < n) (h : Bl n adj s k v = true) : Bl n adj s (n - 1) v = true := by
  cases e : Al_ n adj s k v with
  | none => exact absurd h (al_none.mp e)
  | some d =>
    obtain ⟨d1, d2, d3⟩ := al_some.mp e
    have hd : Al_ n adj s d v = some d := al_some.mpr ⟨Nat.le_refl _, d2, d3⟩
    have := levels (n := n) (adj := adj) (s := s) (k := d + 1) fun j hj => al_down hv hd j (by omega)
    exact bl_le (by omega) d2
end
theorem adj_symm {qs : List (Nat × Nat)} (u v : Nat) (h : adjN qs u v = true) : adjN qs v u = true := by
  rw [adj_iff] at *
  exact h.symm
/-- joined -/
def Jn (n : Nat) (qs : List (Nat × Nat)) : Prop := ∀ v, v < n → Bl n (adjN qs) 0 (n - 1) v = true
section
variable {M : Store} {x : D} {env : Ev} {n : Nat} {qs : List (Nat × Nat)}
theorem all_reach (hj : Jn n qs) {u v : Nat} (hu : u < n) (hv : v < n) : Bl n (adjN qs) u (n - 1) v = true :=
  bl_cap hv (bl_trans (bl_symm adj_symm hu (hj u hu)) (hj v hv))
def dst (n : Nat) (qs : List (Nat × Nat)) (u v : Nat) : Nat := (Al_ n (adjN qs) u (n - 1) v).getD 0
theorem al_dst (hj : Jn n qs) {u v : Nat} (hu : u < n) (hv : v < n) : Al_ n (adjN qs) u (n - 1) v = some (dst n qs u v) := by
  unfold dst
  cases e : Al_ n (adjN qs) u (n - 1) v with
  | none => exact absurd (all_reach hj hu hv) (al_none.mp e)
  | some d => rfl
theorem dst_lt (hj : Jn n qs) {u v : Nat} (hu : u < n) (hv : v < n) : dst n qs u v < n := by
  have := (al_some.mp (al_dst hj hu hv)).1
  omega
theorem jn_row (hj : Jn n qs) : (rowR n qs 0).any Option.isNone = false := by
  rw [Bool.eq_false_iff]
  intro h
  obtain ⟨o, ho, e⟩ := List.any_eq_true.mp h
  unfold rowR at ho
  obtain ⟨v, hv, rfl⟩ := List.mem_map.mp ho
  have hv' := List.mem_range.mp hv
  have := hj v hv'
  cases q : Al_ n (adjN qs) 0 (n - 1) v with
  | none => exact al_none.mp q this
  | some d => rw [q] at e; cases e
theorem ap_row {v : Nat} (hv : v < n) (h : ¬ Bl n (adjN qs) 0 (n - 1) v = true) : (rowR n qs 0).any Option.isNone = true := by
  rw [List.any_eq_true]
  refine ⟨Al_ n (adjN qs) 0 (n - 1) v, ?_, by rw [al_none.mpr h]; rfl⟩
  unfold rowR
  exact List.mem_map_of_mem (List.mem_range.mpr hv)
theorem joined_T (hq : TiesN n qs) (h1 : 1 ≤ n) (hn : n ≤ 8) (hl : qs.length ≤ 28) (hj : Jn n qs) : d_is_joined [webN n qs] M = .ok (.bl true) M := by
  rw [joined_ok hq h1 hn hl, jn_row hj]; rfl
theorem joined_F (hq : TiesN n qs) (h1 : 1 ≤ n) (hn : n ≤ 8) (hl : qs.length ≤ 28) {v : Nat} (hv : v < n) (h : ¬ Bl n (adjN qs) 0 (n - 1) v = true) : d_is_joined [webN n qs] M = .ok (.bl false) M := by
  rw [joined_ok hq h1 hn hl, ap_row hv h]; rfl
theorem rise_tn : ∀ {qs : List (Nat × Nat)}, (qs.Pairwise fun p q => p.1 < q.1 ∨ (p.1 = q.1 ∧ p.2 < q.2)) → rise ((qs.map tieN).map prD) = true := fun {qs} h => by
  refine rise_pw ?_
  rw [List.map_map, List.pairwise_map]
  refine h.imp fun {p q} h => ?_
  show ltP ((p.1 : Int), (p.2 : Int)) ((q.1 : Int), (q.2 : Int)) = true
  unfold ltP
  by_cases e : p.1 = q.1
  · rw [if_pos (by show (p.1 : Int) = q.1; omega)]; exact decide_eq_true (by show (p.2 : Int) < q.2; omega)
  · rw [if_neg (by show ¬ (p.1 : Int) = q.1; omega)]; exact decide_eq_true (by show (p.1 : Int) < q.1; omega)
theorem ok_ties (qs : List (Nat × Nat)) : okDs (qs.map tieN) = true := okDs_iff.mpr fun y hy => by obtain ⟨q, _, rfl⟩ := List.mem_map.mp hy; rfl
theorem ok_web {n : Nat} {qs : List (Nat × Nat)} : okD (webN n qs) = true := by simp [okD, okDs, ok_ties]
theorem web_T (hq : TiesN n qs) (h1 : 1 ≤ n) (hn : n ≤ 8) (hl : qs.length ≤ 28) : d_web_good [webN n qs] M = .ok (.bl true) M := by
  rw [web_ok ok_web (by show decide _ = true; exact decide_eq_true (by simp; omega))]
  have e : webB (webN n qs) = true := by
    show (decide ((1 : Int) ≤ (n : Int)) && decide ((n : Int) < 9) && goodB n (qs.map tieN)) = true
    have g : goodB n (qs.map tieN) = true := by
      unfold goodB
      rw [rise_tn hq.2, Bool.and_true, List.all_eq_true]
      intro d hd
      obtain ⟨q, hm, rfl⟩ := List.mem_map.mp hd
      have := hq.1 q hm
      simp [tieB]; omega
    rw [g]
    simp; omega
  rw [e]
theorem apart_T (hq : TiesN n qs) (h1 : 1 ≤ n) (hn : n ≤ 8) (hl : qs.length ≤ 28) (hj : Jn n qs) : d_refuse_apart [webN n qs] M = .ok .non M := by
  have e1 := web_T (M := M) hq h1 hn hl
  have e2 := joined_T (M := M) hq h1 hn hl hj
  generalize webN n qs = w at *
  unfold d_refuse_apart runF b_refuse_apart
  simp only [sSeq_e, sSet_e, sIf_e, sRet_e, sNop_e, sAsg_e, sExp_e, sFor_e, evTr_e, evC_e, ev2_e, evCall_e, evN_e, evCons_e, evNil_e, evTup_e, evLst_e, evAnd_e, evOr_e, evNot_e, evAndV_e, evOrV_e, evNotV_e, evIter_e, evRng_e, evM_e, evLc_e, u_var, List.getElem?_cons_zero, List.getElem?_cons_succ, List.set_cons_zero, List.set_cons_succ, List.length_cons, List.length_nil, Nat.reduceAdd, Nat.reduceLT, Nat.reduceLeDiff, bind_ok, bindN_ok, out_ok, then_nx, then_ret, then_exc, of_ok, tr_bl, itOf, sizeLine_eq, wipeD_cons, wipeD_nil, if_true, if_false, reduceIte, Bool.false_eq_true, Bool.true_eq_false, Bool.not_true, Bool.not_false, e1, e2, List.map_cons, List.map_nil, List.append_nil, List.cons_append, List.nil_append, Nat.sub_self, List.replicate_zero, List.take_length]
theorem apart_F (hq : TiesN n qs) (h1 : 1 ≤ n) (hn : n ≤ 8) (hl : qs.length ≤ 28) {v : Nat} (hv : v < n) (h : ¬ Bl n (adjN qs) 0 (n - 1) v = true) : d_refuse_apart [webN n qs] M = .exc 3 [] M := by
  have e1 := web_T (M := M) hq h1 hn hl
  have e2 := joined_F (M := M) hq h1 hn hl hv h
  generalize webN n qs = w at *
  unfold d_refuse_apart runF b_refuse_apart
  simp only [sSeq_e, sSet_e, sIf_e, sRet_e, sNop_e, sAsg_e, sExp_e, sFor_e, evTr_e, evC_e, ev2_e, evCall_e, evN_e, evCons_e, evNil_e, evTup_e, evLst_e, evAnd_e, evOr_e, evNot_e, evAndV_e, evOrV_e, evNotV_e, evIter_e, evRng_e, evM_e, evLc_e, u_var, List.getElem?_cons_zero, List.getElem?_cons_succ, List.set_cons_zero, List.set_cons_succ, List.length_cons, List.length_nil, Nat.reduceAdd, Nat.reduceLT, Nat.reduceLeDiff, bind_ok, bindN_ok, out_ok, then_nx, then_ret, then_exc, of_ok, tr_bl, itOf, sizeLine_eq, wipeD_cons, wipeD_nil, if_true, if_false, reduceIte, Bool.false_eq_true, Bool.true_eq_false, Bool.not_true, Bool.not_false, e1, e2, sRaise_e, List.map_cons, List.map_nil, List.append_nil, List.cons_append, List.nil_append, Nat.sub_self, List.replicate_zero, List.take_length, pureDs]
/-! ### the table of how far -/
abbrev farD (n : Nat) (qs : List (Nat × Nat)) : D := .lst ((List.range n).map fun p => .lst ((rowR n qs p).map oD))
theorem rg_n {n : Nat} (hn : n ≤ 1000) : Res.of (rng1 [natD n]) M = .ok ((List.range n).map natD) M := by
  rw [nat_rng (by omega)]; simp [rngD]
theorem ftab_ok (hq : TiesN n qs) (h1 : 1 ≤ n) (hn : n ≤ 8) (hl : qs.length ≤ 28) : d_far_table [webN n qs] M = .ok (farD n qs) M := by
  have nr := near_ok (M := M) h1 hn hq hl
  have lc := lc_mapF (M := M) (p := .nm 2) (fe := evCall d__far_row (evCons (evVar 1) (evCons (evVar 2) evNil))) natD (fun v => .lst ((rowR n qs v).map oD)) (env := [some (webN n qs), some (nearD n qs), none]) (List.range n) [] (fun v hv => by
    have fr := far_ok (M := M) hq h1 hn (List.mem_range.mp hv)
    refine ⟨[some (webN n qs), some (nearD n qs), some (natD v)], by simp [asgP], ?_⟩
    generalize nearD n qs = nd at *
    simp only [sSeq_e, sSet_e, sIf_e, sRet_e, sNop_e, sAsg_e, sExp_e, sFor_e, evTr_e, evC_e, ev2_e, evCall_e, evN_e, evCons_e, evNil_e, evTup_e, evLst_e, evAnd_e, evOr_e, evNot_e, evAndV_e, evOrV_e, evNotV_e, evIter_e, evRng_e, evM_e, evLc_e, u_var, List.getElem?_cons_zero, List.getElem?_cons_succ, List.set_cons_zero, List.set_cons_succ, List.length_cons, List.length_nil, Nat.reduceAdd, Nat.reduceLT, Nat.reduceLeDiff, bind_ok, bindN_ok, out_ok, then_nx, then_ret, then_exc, of_ok, tr_bl, itOf, sizeLine_eq, wipeD_cons, wipeD_nil, if_true, if_false, reduceIte, Bool.false_eq_true, Bool.true_eq_false, Bool.not_true, Bool.not_false, fr]) (by simp; omega)
  have i0 : opIx (webN n qs) (.int 0) M = .ok (natD n) M := rfl
  have rg := rg_n (M := M) (n := n) (by omega)
  have fz : frzD M (farD n qs) = some (farD n qs, M) := by
    have : pureDs ((List.range n).map fun v => D.lst ((rowR n qs v).map oD)) = true := by
      generalize List.range n = l
      induction l with
      | nil => rfl
      | cons v l ih => simp only [List.map_cons, pureDs, pureD, pure_row, ih, Bool.and_self]
    unfold frzD
    simp only [this, if_true]
  have b : b_far_table [some (webN n qs), none, none] M = .ret (farD n qs) M := by
    rw [List.nil_append] at lc
    generalize webN n qs = w at *
    generalize nearD n qs = nd at *
    unfold b_far_table
    simp only [sSeq_e, sSet_e, sIf_e, sRet_e, sNop_e, sAsg_e, sExp_e, sFor_e, evTr_e, evC_e, ev2_e, evCall_e, evN_e, evCons_e, evNil_e, evTup_e, evLst_e, evAnd_e, evOr_e, evNot_e, evAndV_e, evOrV_e, evNotV_e, evIter_e, evRng_e, evM_e, evLc_e, u_var, List.getElem?_cons_zero, List.getElem?_cons_succ, List.set_cons_zero, List.set_cons_succ, List.length_cons, List.length_nil, Nat.reduceAdd, Nat.reduceLT, Nat.reduceLeDiff, bind_ok, bindN_ok, out_ok, then_nx, then_ret, then_exc, of_ok, tr_bl, itOf, sizeLine_eq, wipeD_cons, wipeD_nil, if_true, if_false, reduceIte, Bool.false_eq_true, Bool.true_eq_false, Bool.not_true, Bool.not_false, nr, i0, rg, lc]
  have z := run_ret (n := 3) (ds := [webN n qs]) b fz
  rw [List.take_length] at z
  exact z
theorem ix_far {n p : Nat} {qs : List (Nat × Nat)} (hp : p < n) : opIx (farD n qs) (natD p) M = .ok (.lst ((rowR n qs p).map oD)) M := ix_map (l := List.range n) (f := fun p => .lst ((rowR n qs p).map oD)) (by simp [hp])
theorem ix_row' (hj : Jn n qs) {u v : Nat} (hu : u < n) (hv : v < n) : opIx (.lst ((rowR n qs u).map oD)) (natD v) M = .ok (natD (dst n qs u v)) M := by
  have := ix_map (M := M) (f := oD) (rowR_get (s := u) (qs := qs) hv)
  rw [al_dst hj hu hv] at this
  exact this
/-! ### ties that go together -/
end
end Hd

set_option Elab.async false
set_option linter.all false
set_option maxRecDepth 100000
/-! how far, by way of all places in turn -/
namespace Hd
section
variable {n : Nat} {qs : List (Nat × Nat)} {u v w : Nat}
theorem dst_bl (hj : Jn n qs) (hu : u < n) (hv : v < n) : Bl n (adjN qs) u (dst n qs u v) v = true := (al_some.mp (al_dst hj hu hv)).2.1
theorem dst_le (hj : Jn n qs) (hu : u < n) (hv : v < n) {k : Nat} (h : Bl n (adjN qs) u k v = true) : dst n qs u v ≤ k := by
  rcases Nat.lt_or_ge k (dst n qs u v) with q | q
  · exact absurd h ((al_some.mp (al_dst hj hu hv)).2.2 k q)
  · exact q
theorem dst_self (hj : Jn n qs) (hu : u < n) : dst n qs u u = 0 := by
  have := dst_le hj hu hu (k := 0) (by simp [Bl])
  omega
theorem dst_zero (hj : Jn n qs) (hu : u < n) (hv : v < n) (h : dst n qs u v = 0) : u = v := by
  have := dst_bl hj hu hv
  rw [h] at this
  have : v = u := by simpa [Bl] using this
  exact this.symm
theorem dst_symm (hj : Jn n qs) (hu : u < n) (hv : v < n) : dst n qs u v = dst n qs v u :=
  Nat.le_antisymm (dst_le hj hu hv (bl_symm adj_symm hu (dst_bl hj hv hu))) (dst_le hj hv hu (bl_symm adj_symm hv (dst_bl hj hu hv)))
theorem dst_tri (hj : Jn n qs) (hu : u < n) (hv : v < n) (hw : w < n) : dst n qs u w ≤ dst n qs u v + dst n qs v w :=
  dst_le hj hu hw (bl_trans (dst_bl hj hu hv) (dst_bl hj hv hw))
theorem dst_adj (hj : Jn n qs) (hu : u < n) (hv : v < n) (a : adjN qs u v = true) : dst n qs u v ≤ 1 :=
  dst_le hj hu hv (bl_step.mpr (.inr ⟨u, hu, by simp [Bl], a⟩))
theorem dst_step (hj : Jn n qs) (hu : u < n) (hv : v < n) {d : Nat} (h : dst n qs u v = d + 1) : ∃ w, w < n ∧ dst n qs u w = d ∧ adjN qs w v = true := by
  obtain ⟨h1, h2, h3⟩ := al_some.mp (al_dst hj hu hv)
  rw [h] at h1 h2 h3
  have hn : Al_ n (adjN qs) u d v = none := al_none.mpr (h3 d (by omega))
  obtain ⟨w, hw, e, a⟩ := (bl_new hn).mp h2
  refine ⟨w, hw, ?_, a⟩
  have e2 := al_le (j := d) (k := n - 1) (by omega) e
  rw [al_dst hj hu hw] at e2
  exact Option.some.inj e2
def fw (qs : List (Nat × Nat)) : Nat → Nat → Nat → Nat
  | 0, a, b => if adjN qs a b = true then 1 else if a = b then 0 else 99
  | k + 1, a, b => min (fw qs k a b) (fw qs k a k + fw qs k k b)
theorem adj_irr (hq : TiesN n qs) : ¬ adjN qs u u = true := fun h => by
  rcases adj_iff.mp h with q | q
  · have := hq.1 _ q; simp only at this; omega
  · have := hq.1 _ q; simp only at this; omega
theorem fw_self (hq : TiesN n qs) : ∀ k, fw qs k u u = 0
  | 0 => by simp [fw, adj_irr hq]
  | k + 1 => by
    have := fw_self hq k
    simp only [fw]; omega
theorem fw_k1 (hq : TiesN n qs) {k a : Nat} : fw qs (k + 1) a k = fw qs k a k := by
  have := fw_self hq (u := k) k
  simp only [fw]; omega
theorem fw_k2 (hq : TiesN n qs) {k b : Nat} : fw qs (k + 1) k b = fw qs k k b := by
  have := fw_self hq (u := k) k
  simp only [fw]; omega
theorem fw_tri (hq : TiesN n qs) : ∀ {k c : Nat}, c < k → ∀ a b, fw qs k a b ≤ fw qs k a c + fw qs k c b
  | k + 1, c, hc, a, b => by
    rcases Nat.lt_or_ge c k with q | q
    · have t1 := fw_tri hq q a b
      have t2 := fw_tri hq q k b
      have t3 := fw_tri hq q a k
      simp only [fw]
      omega
    · have : c = k := by omega
      subst this
      rw [fw_k1 hq, fw_k2 hq]
      simp only [fw]
      omega
theorem fw_adj (h : adjN qs u v = true) : ∀ k, fw qs k u v ≤ 1
  | 0 => by simp [fw, h]
  | k + 1 => by
    have := fw_adj h k
    simp only [fw]; omega
theorem fw_ge (hq : TiesN n qs) (hj : Jn n qs) (hn : n ≤ 8) : ∀ {k a b : Nat}, k ≤ n → a < n → b < n → dst n qs a b ≤ fw qs k a b
  | 0, a, b, _, ha, hb => by
    simp only [fw]
    split
    · rename_i h; exact dst_adj hj ha hb h
    · split
      · rename_i h; subst h; rw [dst_self hj ha]; omega
      · have := dst_lt hj ha hb; omega
  | k + 1, a, b, hk, ha, hb => by
    have h1 := fw_ge hq hj hn (k := k) (by omega) ha hb
    have h2 := fw_ge hq hj hn (k := k) (by omega) ha (show k < n by omega)
    have h3 := fw_ge hq hj hn (k := k) (by omega) (show k < n by omega) hb
    have h4 := dst_tri hj ha (show k < n by omega) hb
    simp only [fw]
    omega
theorem fw_le (hq : TiesN n qs) (hj : Jn n qs) : ∀ (d a b : Nat), a < n → b < n → dst n qs a b = d → fw qs n a b ≤ d
  | 0, a, b, ha, hb, h => by
    have := dst_zero hj ha hb h
    subst this
    rw [fw_self hq]; omega
  | d + 1, a, b, ha, hb, h => by
    obtain ⟨w, hw, e, adj⟩ := dst_step hj ha hb h
    have h1 := fw_le hq hj d a w ha hw e
    have h2 := fw_adj adj n
    have h3 := fw_tri hq hw a b
    omega
theorem fw_eq (hq : TiesN n qs) (hj : Jn n qs) (hn : n ≤ 8) {a b : Nat} (ha : a < n) (hb : b < n) : fw qs n a b = dst n qs a b :=
  Nat.le_antisymm (fw_le hq hj _ a b ha hb rfl) (fw_ge hq hj hn (Nat.le_refl _) ha hb)
theorem fw_small (hq : TiesN n qs) : ∀ {k : Nat} (a b : Nat), fw qs k a b ≤ 99
  | 0, a, b => by simp only [fw]; split <;> (try split) <;> omega
  | k + 1, a, b => by
    have := fw_small hq (k := k) a b
    simp only [fw]; omega
end
end Hd

set_option Elab.async false
set_option linter.all false
set_option maxRecDepth 100000
namespace Hd
open Mi PySem PySem.Spec PyProof.Rows L2
section
variable {M : Store} {x : D} {env : Ev} {n : Nat} {qs : List (Nat × Nat)}
/-! ### a table of numbers in the store -/
def tabF (n : Nat) (F : Nat → Nat → Nat) : List (List Nat) := (List.range n).map fun a => (List.range n).map fun b => F a b
def upd2 (F : Nat → Nat → Nat) (a b v : Nat) : Nat → Nat → Nat := fun a' b' => if a' = a ∧ b' = b then v else F a' b'
theorem tabF_row {F : Nat → Nat → Nat} {a : Nat} (ha : a < n) : (tabF n F)[a]? = some ((List.range n).map fun b => F a b) := by simp [tabF, ha]
theorem tabF_set {F : Nat → Nat → Nat} {a b v : Nat} (ha : a < n) : (tabF n F).set a (((List.range n).map fun b => F a b).set b v) = tabF n (upd2 F a b v) := by
  refine List.ext_getElem? fun i => ?_
  by_cases e : i = a
  · subst e
    rw [List.getElem?_set_self (by simpa [tabF] using ha), tabF_row ha]
    congr 1
    refine List.ext_getElem? fun j => ?_
    by_cases e2 : j = b
    · subst e2
      by_cases hj : j < n
      · rw [List.getElem?_set_self (by simpa using hj)]; simp [hj, upd2]
      · rw [List.getElem?_eq_none (by simp; omega), List.getElem?_eq_none (by simp; omega)]
    · rw [List.getElem?_set_ne (Ne.symm e2)]
      by_cases hj : j < n
      · simp [hj, upd2, e2]
      · rw [List.getElem?_eq_none (by simp; omega), List.getElem?_eq_none (by simp; omega)]
  · rw [List.getElem?_set_ne (Ne.symm e)]
    by_cases hi : i < n
    · rw [tabF_row hi, tabF_row hi]
      simp [upd2, e]
    · rw [List.getElem?_eq_none (by simp [tabF]; omega), List.getElem?_eq_none (by simp [tabF]; omega)]
theorem tabF_congr {F F' : Nat → Nat → Nat} (h : ∀ a b, a < n → b < n → F a b = F' a b) : tabF n F = tabF n F' := by
  unfold tabF
  refine List.map_congr_left fun a ha => List.map_congr_left fun b hb => h a b (List.mem_range.mp ha) (List.mem_range.mp hb)
theorem tabS_ix {F : Nat → Nat → Nat} {a b : Nat} (ha : a < n) (hb : b < n) : opIx (.loc (M.length + a)) (natD b) (rowsS M (tabF n F)) = .ok (natD (F a b)) (rowsS M (tabF n F)) := by
  have g := rows_get (M := M) (tabF_row (F := F) ha)
  have hl : b < (((List.range n).map fun b => F a b).map natD).length := by simpa using hb
  have e : L2.atI (((List.range n).map fun b => F a b).map natD) (b : Int) = some (natD (F a b)) := by
    unfold L2.atI
    rw [ixNn hl]
    simp [hb]
  have lo : Mi.seqOf (rowsS M (tabF n F)) (.loc (M.length + a)) = some (((List.range n).map fun b => F a b).map natD) := by simp only [Mi.seqOf, Mi.listOf, g]
  unfold opIx
  simp only [lo, e, of_ok, bind_ok]
theorem tabS_set {F : Nat → Nat → Nat} {a b v : Nat} (ha : a < n) (hb : b < n) : setD (rowsS M (tabF n F)) (.loc (M.length + a)) (natD b) (natD v) = some (rowsS M (tabF n (upd2 F a b v))) := by
  have g := rows_get (M := M) (tabF_row (F := F) ha)
  have hl : b < (((List.range n).map fun b => F a b).map natD).length := by simpa using hb
  have e : (((List.range n).map fun b => F a b).map natD).set b (natD v) = (((List.range n).map fun b => F a b).set b v).map natD := by rw [List.map_set]
  unfold setD
  simp only [g, ixNn hl, Option.bind_some]
  rw [e, if_pos (pure_nats _), List.set_append_right _ _ (by omega)]
  congr 2
  rw [show M.length + a - M.length = a by omega, ← tabF_set (b := b) (v := v) ha]
  simp only [List.map_set]
abbrev FE (n : Nat) (qs : List (Nat × Nat)) (m : Nat) (s2 s3 s4 : Option D) : Ev := [some (webN n qs), some (.lst (locsD m n)), s2, s3, s4]
/-! ### the table as it is made -/
theorem ne_nat {a b : Nat} : opNe (natD a) (natD b) M = .ok (.bl (!decide (a = b))) M := by
  rw [Mi.ne_int]
  congr 2
  by_cases h : a = b
  · simp [h]
  · have : ¬ (a : Int) = (b : Int) := by omega
    simp [h, this]
def f0 (a b : Nat) : Nat := if a = b then 0 else 99
theorem e99 {a b : Nat} : (opMul (.int 99) (.int (if (!decide (a = b)) = true then 1 else 0)) M) = .ok (natD (f0 a b)) M := by
  unfold f0
  by_cases h : a = b
  · simp only [h, decide_true, Bool.not_true, Bool.false_eq_true, if_false, if_true]
    rw [mul_i (.inl ⟨by decide, by decide⟩)]; rfl
  · simp only [h, decide_false, Bool.not_false, if_true, if_false]
    rw [mul_i (.inl ⟨by decide, by decide⟩)]; rfl
theorem biInt_bl {b : Bool} : biInt [.bl b] M = .ok (.int (if b = true then 1 else 0)) M := rfl
theorem row_lc {w : D} {a : Nat} {s1 s4 : Option D} (hn : n ≤ 8) : lcD (.nm 3) evYes (ev2 opMul (evC (.int 99)) (evN biInt (evCons (ev2 opNe (evVar 2) (evVar 3)) evNil))) ((List.range n).map natD) [] [some w, s1, some (natD a), none, s4] M = .ok (((List.range n).map fun b => f0 a b).map natD) M := by
  have lc := lc_mapF (M := M) (p := .nm 3) (fe := ev2 opMul (evC (.int 99)) (evN biInt (evCons (ev2 opNe (evVar 2) (evVar 3)) evNil))) natD (fun b => natD (f0 a b)) (env := [some w, s1, some (natD a), none, s4]) (List.range n) [] (fun b hb => by
    refine ⟨[some w, s1, some (natD a), some (natD b), s4], by simp [asgP], ?_⟩
    simp only [sSeq_e, sSet_e, sIf_e, sRet_e, sNop_e, sAsg_e, sExp_e, sFor_e, evTr_e, evC_e, ev2_e, evCall_e, evN_e, evCons_e, evNil_e, evTup_e, evLst_e, evAnd_e, evOr_e, evNot_e, evAndV_e, evOrV_e, evNotV_e, evIter_e, evRng_e, evM_e, evLc_e, u_var, List.getElem?_cons_zero, List.getElem?_cons_succ, List.set_cons_zero, List.set_cons_succ, List.length_cons, List.length_nil, Nat.reduceAdd, Nat.reduceLT, Nat.reduceLeDiff, bind_ok, bindN_ok, out_ok, then_nx, then_ret, then_exc, of_ok, tr_bl, itOf, sizeLine_eq, wipeD_cons, wipeD_nil, if_true, if_false, reduceIte, Bool.false_eq_true, Bool.true_eq_false, Bool.not_true, Bool.not_false, ne_nat, biInt_bl, e99]) (by simp; omega)
  rw [List.nil_append] at lc
  rw [lc, List.map_map]; rfl
theorem evLcN_e {p : Pat} {own : List Nat} {it : Ev → Store → Res (List D)} {ifs : Ev → Store → Res Bool} {elt : Ev → Store → Res D} : evLcN p own it ifs elt env M = (it env M).bind fun xs M1 => (lcD p ifs elt xs [] (wipeD env own) M1).bind fun ds M2 => if pureDs ds = true then .ok (.loc M2.length) (M2 ++ [some (.lst ds)]) else .stuck := (rfl)
abbrev RowE : Ev → Store → Res D := evLcN (.nm 3) [3] (evRng rng1 (evCons (ev2 opIx (evVar 0) (evC (.int 0))) evNil)) evYes (ev2 opMul (evC (.int 99)) (evN biInt (evCons (ev2 opNe (evVar 2) (evVar 3)) evNil)))
theorem rows_lc (hn : n ≤ 8) {s1 s4 : Option D} : ∀ (as : List Nat) (acc : List D) (S : Store), acc.length + as.length ≤ 1000 → lcD (.nm 2) evYes RowE (as.map natD) acc [some (webN n qs), s1, none, none, s4] S = .ok (acc ++ locsD S.length as.length) (S ++ as.map fun a => some (Ob.lst (((List.range n).map fun b => f0 a b).map natD)))
  | [], acc, S, _ => by simp [lcD]
  | a :: as, acc, S, h => by
    simp only [List.length_cons] at h
    have ih := rows_lc hn (s1 := s1) (s4 := s4) as (acc ++ [.loc S.length]) (S ++ [some (.lst (((List.range n).map fun b => f0 a b).map natD))]) (by simp; omega)
    have i0 : opIx (webN n qs) (.int 0) S = .ok (natD n) S := rfl
    have rg := rg_n (M := S) (n := n) (by omega)
    have row := row_lc (M := S) (n := n) (w := webN n qs) (a := a) (s1 := s1) (s4 := s4) hn
    have as' : asgP S (.nm 2) (natD a) [some (webN n qs), s1, none, none, s4] = some [some (webN n qs), s1, some (natD a), none, s4] := by simp [asgP]
    have e : RowE [some (webN n qs), s1, some (natD a), none, s4] S = .ok (.loc S.length) (S ++ [some (.lst (((List.range n).map fun b => f0 a b).map natD))]) := by
      have pn := pure_nats ((List.range n).map fun b => f0 a b)
      generalize ((List.range n).map fun b => f0 a b).map natD = rw_ at *
      generalize webN n qs = w at *
      simp only [sSeq_e, sSet_e, sIf_e, sRet_e, sNop_e, sAsg_e, sExp_e, sFor_e, evTr_e, evC_e, ev2_e, evCall_e, evN_e, evCons_e, evNil_e, evTup_e, evLst_e, evAnd_e, evOr_e, evNot_e, evAndV_e, evOrV_e, evNotV_e, evIter_e, evRng_e, evM_e, evLc_e, u_var, List.getElem?_cons_zero, List.getElem?_cons_succ, List.set_cons_zero, List.set_cons_succ, List.length_cons, List.length_nil, Nat.reduceAdd, Nat.reduceLT, Nat.reduceLeDiff, bind_ok, bindN_ok, out_ok, then_nx, then_ret, then_exc, of_ok, tr_bl, itOf, sizeLine_eq, wipeD_cons, wipeD_nil, if_true, if_false, reduceIte, Bool.false_eq_true, Bool.true_eq_false, Bool.not_true, Bool.not_false, evLcN_e, i0, rg, row, pn]
    simp only [List.map_cons, lcD, as', evYes, bindN_ok, if_true, e]
    rw [if_pos (by rw [sizeLine_eq]; omega), ih, List.length_cons]
    have e1 : locsD S.length (as.length + 1) = .loc S.length :: locsD (S.length + 1) as.length := by
      unfold locsD
      rw [List.range_succ_eq_map, List.map_cons, List.map_map]
      have e : (List.range as.length).map ((fun i => D.loc (S.length + i)) ∘ Nat.succ) = (List.range as.length).map fun i => D.loc (S.length + 1 + i) := List.map_congr_left fun i _ => by
        show D.loc (S.length + (i + 1)) = D.loc (S.length + 1 + i)
        rw [show S.length + (i + 1) = S.length + 1 + i by omega]
      rw [e]
      rfl
    have e2 : (S ++ [some (Ob.lst (((List.range n).map fun b => f0 a b).map natD))]).length = S.length + 1 := by simp
    rw [e2, e1]
    simp
/-! ### ones along ties -/
abbrev TB1 : Ev → Store → Out := (sSeq (sSub (ev2 opIx (evVar 1) (evVar 2)) (evVar 3) (evC (.int 1))) (sSub (ev2 opIx (evVar 1) (evVar 3)) (evVar 2) (evC (.int 1))))
def one2 (F : Nat → Nat → Nat) (q : Nat × Nat) : Nat → Nat → Nat := upd2 (upd2 F q.1 q.2 1) q.2 q.1 1
theorem set_step {F : Nat → Nat → Nat} {a b v : Nat} {s2 s3 s4 : Option D} {f1 f2 fv : Ev → Store → Res D} (ha : a < n) (hb : b < n)
    (h1 : f1 (FE n qs M.length s2 s3 s4) (rowsS M (tabF n F)) = .ok (natD a) (rowsS M (tabF n F))) (h2 : f2 (FE n qs M.length s2 s3 s4) (rowsS M (tabF n F)) = .ok (natD b) (rowsS M (tabF n F)))
    (hv : fv (FE n qs M.length s2 s3 s4) (rowsS M (tabF n F)) = .ok (natD v) (rowsS M (tabF n F))) :
    sSub (ev2 opIx (evVar 1) f1) f2 fv (FE n qs M.length s2 s3 s4) (rowsS M (tabF n F)) = .nx (FE n qs M.length s2 s3 s4) (rowsS M (tabF n (upd2 F a b v))) := by
  have ix := Hd.ix_loc (M := rowsS M (tabF n F)) (m := M.length) (n := n) ha
  have st := tabS_set (M := M) (F := F) (v := v) ha hb
  rw [sSub_e, hv, out_ok]
  have e1 : (ev2 opIx (evVar 1) f1) (FE n qs M.length s2 s3 s4) (rowsS M (tabF n F)) = .ok (.loc (M.length + a)) (rowsS M (tabF n F)) := by
    rw [ev2_e]
    have : evVar 1 (FE n qs M.length s2 s3 s4) (rowsS M (tabF n F)) = .ok (.lst (locsD M.length n)) (rowsS M (tabF n F)) := rfl
    rw [this, bind_ok, h1, bind_ok, ix]
  rw [e1, out_ok, h2, out_ok]
  simp only [st]
theorem ones_for : ∀ (ts : List (Nat × Nat)) (F : Nat → Nat → Nat) (s2 s3 s4 : Option D), (∀ q ∈ ts, q.1 < n ∧ q.2 < n) → ∃ t2 t3, forD (.tp [(.nm 2), (.nm 3)]) TB1 (ts.map tieN) (FE n qs M.length s2 s3 s4) (rowsS M (tabF n F)) = .nx (FE n qs M.length t2 t3 s4) (rowsS M (tabF n (ts.foldl one2 F)))
  | [], F, s2, s3, s4, _ => ⟨s2, s3, rfl⟩
  | q :: ts, F, s2, s3, s4, h => by
    have hq := h q (by simp)
    obtain ⟨t2, t3, ih⟩ := ones_for ts (one2 F q) (some (natD q.1)) (some (natD q.2)) s4 fun p hp => h p (by simp [hp])
    have b1 := set_step (M := M) (n := n) (qs := qs) (F := F) (s2 := some (natD q.1)) (s3 := some (natD q.2)) (s4 := s4) (f1 := evVar 2) (f2 := evVar 3) (fv := evC (.int 1)) (v := 1) hq.1 hq.2 rfl rfl rfl
    have b2 := set_step (M := M) (n := n) (qs := qs) (F := upd2 F q.1 q.2 1) (s2 := some (natD q.1)) (s3 := some (natD q.2)) (s4 := s4) (f1 := evVar 3) (f2 := evVar 2) (fv := evC (.int 1)) (v := 1) hq.2 hq.1 rfl rfl rfl
    refine ⟨t2, t3, ?_⟩
    have as : asgP (rowsS M (tabF n F)) (.tp [(.nm 2), (.nm 3)]) (tieN q) (FE n qs M.length s2 s3 s4) = some (FE n qs M.length (some (natD q.1)) (some (natD q.2)) s4) := by simp [asgP, asgPs, partsOf]
    have b : TB1 (FE n qs M.length (some (natD q.1)) (some (natD q.2)) s4) (rowsS M (tabF n F)) = .nx (FE n qs M.length (some (natD q.1)) (some (natD q.2)) s4) (rowsS M (tabF n (one2 F q))) := by
      unfold TB1
      rw [sSeq_e, b1, then_nx, b2]; rfl
    simp only [List.map_cons, forD, as, b, List.foldl_cons]
    exact ih
theorem ones_is : ∀ (ts : List (Nat × Nat)) (F : Nat → Nat → Nat) (a b : Nat), (ts.foldl one2 F) a b = if adjN ts a b = true then 1 else F a b
  | [], F, a, b => by simp [adjN]
  | q :: ts, F, a, b => by
    rw [List.foldl_cons, ones_is ts]
    have e : adjN (q :: ts) a b = (decide ((q.1 = a ∧ q.2 = b) ∨ (q.1 = b ∧ q.2 = a)) || adjN ts a b) := rfl
    rw [e]
    cases adjN ts a b with
    | true => simp
    | false =>
      simp only [Bool.or_false, decide_eq_true_eq, Bool.false_eq_true, if_false, one2, upd2]
      by_cases h1 : a = q.2 ∧ b = q.1
      · simp [h1.1, h1.2]
      · by_cases h2 : a = q.1 ∧ b = q.2
        · simp [h2.1, h2.2]
        · have h3 : ¬ ((q.1 = a ∧ q.2 = b) ∨ (q.1 = b ∧ q.2 = a)) := by
            rintro (z | z)
            · exact h2 ⟨z.1.symm, z.2.symm⟩
            · exact h1 ⟨z.2.symm, z.1.symm⟩
          simp only [h1, h2, h3, if_false]
/-! ### by way of all places -/
abbrev MB3 : Ev → Store → Out := (sSub (ev2 opIx (evVar 1) (evVar 2)) (evVar 3) (evN (biMM minI) (evCons (ev2 opIx (ev2 opIx (evVar 1) (evVar 2)) (evVar 3)) (evCons (ev2 opAdd (ev2 opIx (ev2 opIx (evVar 1) (evVar 2)) (evVar 4)) (ev2 opIx (ev2 opIx (evVar 1) (evVar 4)) (evVar 3))) evNil))))
abbrev RN : Ev → Store → Res (List D) := (evRng rng1 (evCons (ev2 opIx (evVar 0) (evC (.int 0))) evNil))
abbrev MB2 : Ev → Store → Out := sFor (.nm 3) RN MB3
abbrev MB1 : Ev → Store → Out := sFor (.nm 2) RN MB2
theorem rn_ok (hn : n ≤ 8) {s1 s2 s3 s4 : Option D} : RN [some (webN n qs), s1, s2, s3, s4] M = .ok ((List.range n).map natD) M := by
  have i0 : opIx (webN n qs) (.int 0) M = .ok (natD n) M := rfl
  have rg := rg_n (M := M) (n := n) (by omega)
  generalize webN n qs = w at *
  simp only [sSeq_e, sSet_e, sIf_e, sRet_e, sNop_e, sAsg_e, sExp_e, sFor_e, evTr_e, evC_e, ev2_e, evCall_e, evN_e, evCons_e, evNil_e, evTup_e, evLst_e, evAnd_e, evOr_e, evNot_e, evAndV_e, evOrV_e, evNotV_e, evIter_e, evRng_e, evM_e, evLc_e, u_var, List.getElem?_cons_zero, List.getElem?_cons_succ, List.set_cons_zero, List.set_cons_succ, List.length_cons, List.length_nil, Nat.reduceAdd, Nat.reduceLT, Nat.reduceLeDiff, bind_ok, bindN_ok, out_ok, then_nx, then_ret, then_exc, of_ok, tr_bl, itOf, sizeLine_eq, wipeD_cons, wipeD_nil, if_true, if_false, reduceIte, Bool.false_eq_true, Bool.true_eq_false, Bool.not_true, Bool.not_false, i0, rg]
theorem mm_nat {a b : Nat} : biMM minI [natD a, natD b] M = .ok (natD (min a b)) M := by
  have : (min (a : Int) (b : Int)) = ((min a b : Nat) : Int) := by omega
  simp [biMM, minI, this]
theorem mb3_ok {F : Nat → Nat → Nat} {a b k : Nat} (ha : a < n) (hb : b < n) (hk : k < n) :
    MB3 (FE n qs M.length (some (natD a)) (some (natD b)) (some (natD k))) (rowsS M (tabF n F)) = .nx (FE n qs M.length (some (natD a)) (some (natD b)) (some (natD k))) (rowsS M (tabF n (upd2 F a b (min (F a b) (F a k + F k b))))) := by
  have ia := Hd.ix_loc (M := rowsS M (tabF n F)) (m := M.length) (n := n) ha
  have ik := Hd.ix_loc (M := rowsS M (tabF n F)) (m := M.length) (n := n) hk
  have r1 := tabS_ix (M := M) (F := F) ha hb
  have r2 := tabS_ix (M := M) (F := F) ha hk
  have r3 := tabS_ix (M := M) (F := F) hk hb
  have ad : opAdd (natD (F a k)) (natD (F k b)) (rowsS M (tabF n F)) = .ok (natD (F a k + F k b)) (rowsS M (tabF n F)) := by rw [Mi.add_int]; congr 2
  have mm := mm_nat (M := rowsS M (tabF n F)) (a := F a b) (b := F a k + F k b)
  refine set_step (M := M) (n := n) (qs := qs) (F := F) (f1 := evVar 2) (f2 := evVar 3) ha hb rfl rfl ?_
  unfold FE
  generalize rowsS M (tabF n F) = S at *
  generalize webN n qs = w at *
  generalize D.lst (locsD M.length n) = ll at *
  simp only [sSeq_e, sSet_e, sIf_e, sRet_e, sNop_e, sAsg_e, sExp_e, sFor_e, evTr_e, evC_e, ev2_e, evCall_e, evN_e, evCons_e, evNil_e, evTup_e, evLst_e, evAnd_e, evOr_e, evNot_e, evAndV_e, evOrV_e, evNotV_e, evIter_e, evRng_e, evM_e, evLc_e, u_var, List.getElem?_cons_zero, List.getElem?_cons_succ, List.set_cons_zero, List.set_cons_succ, List.length_cons, List.length_nil, Nat.reduceAdd, Nat.reduceLT, Nat.reduceLeDiff, bind_ok, bindN_ok, out_ok, then_nx, then_ret, then_exc, of_ok, tr_bl, itOf, sizeLine_eq, wipeD_cons, wipeD_nil, if_true, if_false, reduceIte, Bool.false_eq_true, Bool.true_eq_false, Bool.not_true, Bool.not_false, ia, ik, r1, r2, r3, ad, mm]
theorem mb2_ok (hq : TiesN n qs) (hn : n ≤ 8) {F : Nat → Nat → Nat} {a k : Nat} {s3 : Option D} (ha : a < n) (hk : k < n) (hF : ∀ a' b', a' < n → b' < n → F a' b' = if a' < a then fw qs (k + 1) a' b' else fw qs k a' b') :
    ∃ F' t3, (∀ a' b', a' < n → b' < n → F' a' b' = if a' < a + 1 then fw qs (k + 1) a' b' else fw qs k a' b') ∧ MB2 (FE n qs M.length (some (natD a)) s3 (some (natD k))) (rowsS M (tabF n F)) = .nx (FE n qs M.length (some (natD a)) t3 (some (natD k))) (rowsS M (tabF n F')) := by
  obtain ⟨env', M', f1, F', t3, rfl, rfl, hF'⟩ := for_inv (p := .nm 3) (body := MB3) (fun i env S => ∃ F t3, env = FE n qs M.length (some (natD a)) t3 (some (natD k)) ∧ S = rowsS M (tabF n F) ∧ ∀ a' b', a' < n → b' < n → F a' b' = if a' < a ∨ (a' = a ∧ b' < i) then fw qs (k + 1) a' b' else fw qs k a' b') ((List.range n).map natD) 0 _ _
    ⟨F, s3, rfl, rfl, fun a' b' h1 h2 => by rw [hF a' b' h1 h2]; simp⟩
    (by
      rintro j y env S hy ⟨F, t3, rfl, rfl, hF⟩
      have hj : j < n := by
        have := (List.getElem?_eq_some_iff.mp hy).1
        simpa using this
      have ey : y = natD j := by
        rw [List.getElem?_map, List.getElem?_range hj] at hy
        simpa using hy.symm
      subst ey
      refine ⟨FE n qs M.length (some (natD a)) (some (natD j)) (some (natD k)), _, _, by simp [asgP], mb3_ok ha hj hk, _, _, rfl, rfl, fun a' b' h1 h2 => ?_⟩
      have e1 : F a j = fw qs k a j := by
        rw [hF a j ha hj, if_neg (by omega)]
      have e2 : F a k = fw qs k a k := by
        rw [hF a k ha hk]
        split
        · exact fw_k1 hq
        · rfl
      have e3 : F k j = fw qs k k j := by
        rw [hF k j hk hj]
        split
        · exact fw_k2 hq
        · rfl
      unfold upd2
      by_cases h : a' = a ∧ b' = j
      · obtain ⟨rfl, rfl⟩ := h
        rw [if_pos ⟨rfl, rfl⟩, if_pos (by omega), e1, e2, e3]
        rfl
      · rw [if_neg h, hF a' b' h1 h2]
        by_cases c : a' < a ∨ (a' = a ∧ b' < 0 + j)
        · rw [if_pos c, if_pos (by omega)]
        · rw [if_neg c, if_neg (by omega)])
  refine ⟨F', t3, fun a' b' h1 h2 => ?_, ?_⟩
  · rw [hF' a' b' h1 h2, List.length_map, List.length_range]
    by_cases c : a' < a + 1
    · rw [if_pos c, if_pos (by omega)]
    · rw [if_neg c, if_neg (by omega)]
  · unfold MB2
    rw [sFor_e, rn_ok hn, out_ok]
    exact f1
theorem mb1_ok (hq : TiesN n qs) (hn : n ≤ 8) {F : Nat → Nat → Nat} {k : Nat} {s2 s3 : Option D} (hk : k < n) (hF : ∀ a' b', a' < n → b' < n → F a' b' = fw qs k a' b') :
    ∃ F' t2 t3, (∀ a' b', a' < n → b' < n → F' a' b' = fw qs (k + 1) a' b') ∧ MB1 (FE n qs M.length s2 s3 (some (natD k))) (rowsS M (tabF n F)) = .nx (FE n qs M.length t2 t3 (some (natD k))) (rowsS M (tabF n F')) := by
  obtain ⟨env', M', f1, F', t2, t3, rfl, rfl, hF'⟩ := for_inv (p := .nm 2) (body := MB2) (fun i env S => ∃ F t2 t3, env = FE n qs M.length t2 t3 (some (natD k)) ∧ S = rowsS M (tabF n F) ∧ ∀ a' b', a' < n → b' < n → F a' b' = if a' < i then fw qs (k + 1) a' b' else fw qs k a' b') ((List.range n).map natD) 0 _ _
    ⟨F, s2, s3, rfl, rfl, fun a' b' h1 h2 => by rw [hF a' b' h1 h2]; simp⟩
    (by
      rintro j y env S hy ⟨F, t2, t3, rfl, rfl, hF⟩
      have hj : j < n := by
        have := (List.getElem?_eq_some_iff.mp hy).1
        simpa using this
      have ey : y = natD j := by
        rw [List.getElem?_map, List.getElem?_range hj] at hy
        simpa using hy.symm
      subst ey
      rw [Nat.zero_add] at hF
      obtain ⟨F', t3', hF', b⟩ := mb2_ok (M := M) hq hn (s3 := t3) hj hk hF
      refine ⟨FE n qs M.length (some (natD j)) t3 (some (natD k)), _, _, by simp [asgP], b, F', _, _, rfl, rfl, ?_⟩
      rw [Nat.zero_add]
      exact hF')
  refine ⟨F', t2, t3, fun a' b' h1 h2 => ?_, ?_⟩
  · rw [hF' a' b' h1 h2, List.length_map, List.length_range, if_pos (by omega)]
  · unfold MB1
    rw [sFor_e, rn_ok hn, out_ok]
    exact f1
abbrev dstD (n : Nat) (qs : List (Nat × Nat)) : D := .lst ((List.range n).map fun a => .lst ((List.range n).map fun b => natD (dst n qs a b)))
theorem fars_eq : b__law_fars = (sSeq (sSet 1 (evLc (.nm 2) [2] RN evYes RowE)) (sSeq (sFor (.tp [(.nm 2), (.nm 3)]) (evIter (ev2 opIx (evVar 0) (evC (.int 1)))) TB1) (sSeq (sFor (.nm 4) RN MB1) (sRet (evVar 1))))) := rfl
theorem fars_ok (hq : TiesN n qs) (h1 : 1 ≤ n) (hn : n ≤ 8) (hj : Jn n qs) : d__law_fars [webN n qs] M = .ok (dstD n qs) M := by
  have rl := rows_lc (n := n) (qs := qs) hn (s1 := none) (s4 := none) (List.range n) [] M (by simp; omega)
  rw [List.length_range, List.nil_append] at rl
  have st : M ++ (List.range n).map (fun a => some (Ob.lst (((List.range n).map fun b => f0 a b).map natD))) = rowsS M (tabF n f0) := by
    unfold rowsS tabF
    rw [List.map_map]; rfl
  rw [st] at rl
  obtain ⟨t2, t3, o1⟩ := ones_for (M := M) (n := n) (qs := qs) qs f0 none none none fun q hm => by have := hq.1 q hm; omega
  obtain ⟨env', M', f1, F', s2, s3, s4, rfl, rfl, hF'⟩ := for_inv (p := .nm 4) (body := MB1) (fun i env S => ∃ F t2 t3 t4, env = FE n qs M.length t2 t3 t4 ∧ S = rowsS M (tabF n F) ∧ ∀ a' b', a' < n → b' < n → F a' b' = fw qs i a' b') ((List.range n).map natD) 0 _ _
    ⟨qs.foldl one2 f0, t2, t3, none, rfl, rfl, fun a' b' _ _ => by rw [ones_is]; rfl⟩
    (by
      rintro j y env S hy ⟨F, t2, t3, t4, rfl, rfl, hF⟩
      have hj : j < n := by
        have := (List.getElem?_eq_some_iff.mp hy).1
        simpa using this
      have ey : y = natD j := by
        rw [List.getElem?_map, List.getElem?_range hj] at hy
        simpa using hy.symm
      subst ey
      rw [Nat.zero_add] at hF
      obtain ⟨F', t2', t3', hF', b⟩ := mb1_ok (M := M) hq hn (s2 := t2) (s3 := t3) hj hF
      refine ⟨FE n qs M.length t2 t3 (some (natD j)), _, _, by simp [asgP], b, F', _, _, _, rfl, rfl, ?_⟩
      rw [Nat.zero_add]
      exact hF')
  rw [List.length_map, List.length_range, Nat.zero_add] at hF'
  have eT : tabF n F' = tabF n (dst n qs) := tabF_congr fun a b ha hb => by rw [hF' a b ha hb, fw_eq hq hj hn ha hb]
  rw [eT] at f1
  have i1 : ∀ S : Store, opIx (webN n qs) (.int 1) S = .ok (.tup (qs.map tieN)) S := fun S => rfl
  have rn := fun (S : Store) (s1 s2 s3 s4 : Option D) => rn_ok (M := S) (n := n) (qs := qs) hn (s1 := s1) (s2 := s2) (s3 := s3) (s4 := s4)
  have b : b__law_fars [some (webN n qs), none, none, none, none] M = .ret (.lst (locsD M.length n)) (rowsS M (tabF n (dst n qs))) := by
    rw [fars_eq]
    unfold FE at *
    generalize hT1 : TB1 = tb1 at *
    generalize hM1 : MB1 = mb1 at *
    generalize hR : RowE = rowe at *
    generalize hRN : RN = rnf at *
    generalize webN n qs = w at *
    generalize locsD M.length n = ll at *
    generalize rowsS M (tabF n (dst n qs)) = S3 at *
    generalize rowsS M (tabF n (qs.foldl one2 f0)) = S2 at *
    generalize rowsS M (tabF n f0) = S1 at *
    generalize qs.map tieN = tl at *
    simp only [sSeq_e, sSet_e, sIf_e, sRet_e, sNop_e, sAsg_e, sExp_e, sFor_e, evTr_e, evC_e, ev2_e, evCall_e, evN_e, evCons_e, evNil_e, evTup_e, evLst_e, evAnd_e, evOr_e, evNot_e, evAndV_e, evOrV_e, evNotV_e, evIter_e, evRng_e, evM_e, evLc_e, u_var, List.getElem?_cons_zero, List.getElem?_cons_succ, List.set_cons_zero, List.set_cons_succ, List.length_cons, List.length_nil, Nat.reduceAdd, Nat.reduceLT, Nat.reduceLeDiff, bind_ok, bindN_ok, out_ok, then_nx, then_ret, then_exc, of_ok, tr_bl, itOf, sizeLine_eq, wipeD_cons, wipeD_nil, if_true, if_false, reduceIte, Bool.false_eq_true, Bool.true_eq_false, Bool.not_true, Bool.not_false, rn, rl, i1, o1, f1]
  have fz : frzD (rowsS M (tabF n (dst n qs))) (.lst (locsD M.length n)) = some (dstD n qs, M ++ (tabF n (dst n qs)).map fun _ => none) := by
    have np : pureDs (locsD M.length n) = false := by
      cases n with
      | zero => omega
      | succ n => simp [locsD, List.range_succ_eq_map, pureDs, pureD]
    have := frzs_rows (tabF n (dst n qs)) M []
    have lt : (tabF n (dst n qs)).length = n := by simp [tabF]
    rw [lt, List.append_nil, List.append_nil] at this
    unfold frzD
    simp only [np, Bool.false_eq_true, if_false, this, Option.map_some]
    unfold dstD tabF
    simp [Function.comp_def]
  have z := run_frz (n := 5) (ds := [webN n qs]) b fz
  rw [List.take_append_of_le_length (Nat.le_refl _), List.take_length] at z
  exact z
end
end Hd

set_option Elab.async false
set_option linter.all false
set_option maxRecDepth 100000
namespace Hd
open Mi PySem PySem.Spec PyProof.Rows L2
section
variable {M : Store} {x : D} {env : Ev} {n : Nat} {qs : List (Nat × Nat)}
/-! ### a web of pairs -/
theorem sort_iff {ps : List (Int × Int)} (h : ∀ p ∈ ps, 0 ≤ p.1 ∧ p.1 < 64 ∧ 0 ≤ p.2 ∧ p.2 < 64) (hl : ps.length < 64) :
    ∃ qs : List (Int × Int), biSortSet [.lst (ps.map tieD)] M = .ok (.lst (qs.map tieD)) M ∧ (qs.Pairwise fun p q => ltP p q = true) ∧ ∀ q, q ∈ qs ↔ q ∈ ps := by
  have inj : ∀ {p q : Int × Int}, prL p = prL q → p = q := fun {p q} e => by
    simp [prL] at e
    exact Prod.ext e.1 e.2
  have hmem : ∀ l, l ∈ sortC (nubL (ps.map prL)) ↔ ∃ p ∈ ps, l = prL p := fun l => by
    rw [(sortC_perm _).mem_iff, mem_nubL, List.mem_map]
    constructor
    · rintro ⟨p, hp, e⟩; exact ⟨p, hp, e.symm⟩
    · rintro ⟨p, hp, e⟩; exact ⟨p, hp, e.symm⟩
  obtain ⟨qs, hqs⟩ := all_prs (ls := sortC (nubL (ps.map prL))) fun l hl' => by
    obtain ⟨p, _, e⟩ := (hmem l).mp hl'
    exact ⟨p, e⟩
  have hin : ∀ q, q ∈ qs ↔ q ∈ ps := fun q => by
    constructor
    · intro hq
      obtain ⟨p, hp, e⟩ := (hmem (prL q)).mp (by rw [hqs]; exact List.mem_map_of_mem hq)
      rw [inj e]; exact hp
    · intro hq
      have := (hmem (prL q)).mpr ⟨q, hq, rfl⟩
      rw [hqs] at this
      obtain ⟨p, hp, e⟩ := List.mem_map.mp this
      rw [← inj e]; exact hp
  have hnd : (sortC (nubL (ps.map prL))).Nodup := (sortC_perm _).nodup_iff.mpr (nodup_nubL _)
  have hpw := sortC_pw (nubL (ps.map prL))
  rw [hqs] at hnd hpw
  have hs : qs.Pairwise fun p q => ltP p q = true := by
    have a := List.pairwise_map.mp hpw
    have b : qs.Pairwise fun p q => prL p ≠ prL q := List.pairwise_map.mp hnd
    refine (a.and b).imp_of_mem fun {p q} hp hq ⟨h1, h2⟩ => ?_
    obtain ⟨a1, a2, a3, a4⟩ := h p ((hin p).mp hp)
    obtain ⟨b1, b2, b3, b4⟩ := h q ((hin q).mp hq)
    refine lt_of_cd ⟨a3, a4⟩ ⟨b3, b4⟩ ?_
    rcases Int.lt_or_eq_of_le h1 with z | z
    · exact z
    · rw [cd_pr, cd_pr] at z
      have e1 : p.1 = q.1 := by omega
      have e2 : p.2 = q.2 := by omega
      exact absurd (by rw [Prod.ext e1 e2]) h2
  refine ⟨qs, ?_, hs, hin⟩
  unfold biSortSet
  simp only [Mi.listOf, of_ok, bind_ok, ties_tups]
  rw [if_pos ⟨ok_prs h, by simpa using hl⟩, hqs, List.map_map]
  rfl
def codeN (q : Nat × Nat) : Nat := q.1 * 8 + q.2
def L28 : List Nat := (List.range 64).filter fun c => decide (c / 8 < c % 8)
theorem ties_28 (hq : TiesN n qs) (hn : n ≤ 8) : qs.length ≤ 28 := by
  have nd : (qs.map codeN).Nodup := by
    refine List.pairwise_map.mpr (hq.2.imp_of_mem fun {p q} hp hq' h e => ?_)
    have a := hq.1 p hp
    have b := hq.1 q hq'
    unfold codeN at e
    omega
  have := L2.nat_nodup_len (qs.map codeN) L28 nd fun c hc => by
    obtain ⟨q, hm, rfl⟩ := List.mem_map.mp hc
    have := hq.1 q hm
    unfold L28 codeN
    rw [List.mem_filter, List.mem_range]
    simp only [decide_eq_true_eq]
    omega
  have l28 : L28.length = 28 := by decide +kernel
  rw [List.length_map, l28] at this
  exact this
def natP (p : Int × Int) : Nat × Nat := (p.1.toNat, p.2.toNat)
def mmN (p : Nat × Nat) : Nat × Nat := (min p.1 p.2, max p.1 p.2)
theorem mm2 {a b : Nat} : biMM minI [natD a, natD b] M = .ok (natD (min a b)) M ∧ biMM maxI [natD a, natD b] M = .ok (natD (max a b)) M := by
  have h1 : (min (a : Int) (b : Int)) = ((min a b : Nat) : Int) := by omega
  have h2 : (max (a : Int) (b : Int)) = ((max a b : Nat) : Int) := by omega
  constructor
  · simp [biMM, minI, h1]
  · simp [biMM, maxI, h2]
theorem evSSet_e {f : Ev → Store → Res D} : evSSet f env M = (f env M).bind fun d M1 => biSortSet [d] M1 := (rfl)
theorem webof_ok {ps : List (Nat × Nat)} (h : ∀ p ∈ ps, p.1 < n ∧ p.2 < n ∧ p.1 ≠ p.2) (hn : n ≤ 8) (hl : ps.length < 64) :
    ∃ qs, d__law_web_of [natD n, .lst (ps.map tieN)] M = .ok (webN n qs) M ∧ TiesN n qs ∧ qs.length ≤ 28 ∧ ∀ u v, adjN qs u v = true ↔ (u, v) ∈ ps ∨ (v, u) ∈ ps := by
  have lc := lc_mapF (M := M) (p := .tp [(.nm 2), (.nm 3)]) (fe := evTup (evCons (evN (biMM minI) (evCons (evVar 2) (evCons (evVar 3) evNil))) (evCons (evN (biMM maxI) (evCons (evVar 2) (evCons (evVar 3) evNil))) evNil))) tieN (fun p => tieN (mmN p)) (env := [some (natD n), some (.lst (ps.map tieN)), none, none]) ps [] (fun p hp => by
    refine ⟨[some (natD n), some (.lst (ps.map tieN)), some (natD p.1), some (natD p.2)], by simp [asgP, asgPs, partsOf], ?_⟩
    have m := mm2 (M := M) (a := p.1) (b := p.2)
    generalize ps.map tieN = tl at *
    simp only [sSeq_e, sSet_e, sIf_e, sRet_e, sNop_e, sAsg_e, sExp_e, sFor_e, evTr_e, evC_e, ev2_e, evCall_e, evN_e, evCons_e, evNil_e, evTup_e, evLst_e, evAnd_e, evOr_e, evNot_e, evAndV_e, evOrV_e, evNotV_e, evIter_e, evRng_e, evM_e, evLc_e, u_var, List.getElem?_cons_zero, List.getElem?_cons_succ, List.set_cons_zero, List.set_cons_succ, List.length_cons, List.length_nil, Nat.reduceAdd, Nat.reduceLT, Nat.reduceLeDiff, bind_ok, bindN_ok, out_ok, then_nx, then_ret, then_exc, of_ok, tr_bl, itOf, sizeLine_eq, wipeD_cons, wipeD_nil, if_true, if_false, reduceIte, Bool.false_eq_true, Bool.true_eq_false, Bool.not_true, Bool.not_false, m.1, m.2]
    rfl) (by simp; omega)
  rw [List.nil_append] at lc
  let ps' : List (Int × Int) := ps.map fun p => (((mmN p).1 : Int), ((mmN p).2 : Int))
  have e1 : ps.map (fun p => tieN (mmN p)) = ps'.map tieD := by
    simp only [ps', List.map_map]; rfl
  have hb : ∀ p ∈ ps', 0 ≤ p.1 ∧ p.1 < p.2 ∧ p.2 < n := fun p hp => by
    obtain ⟨q, hq, rfl⟩ := List.mem_map.mp hp
    have := h q hq
    simp only [mmN]
    omega
  obtain ⟨qi, es, pw, hin⟩ := sort_iff (M := M) (ps := ps') (fun p hp => by have := hb p hp; omega) (by simp only [ps', List.length_map]; exact hl)
  have hb2 : ∀ p ∈ qi, 0 ≤ p.1 ∧ p.1 < p.2 ∧ p.2 < n := fun p hp => hb p ((hin p).mp hp)
  have e2 : qi.map tieD = (qi.map natP).map tieN := by
    rw [List.map_map]
    refine List.map_congr_left fun p hp => ?_
    have := hb2 p hp
    show D.tup [.int p.1, .int p.2] = .tup [.int (p.1.toNat : Int), .int (p.2.toNat : Int)]
    rw [show ((p.1.toNat : Nat) : Int) = p.1 by omega, show ((p.2.toNat : Nat) : Int) = p.2 by omega]
  have tn : TiesN n (qi.map natP) := by
    refine ⟨fun q hq => ?_, ?_⟩
    · obtain ⟨p, hp, rfl⟩ := List.mem_map.mp hq
      have := hb2 p hp
      simp only [natP]; omega
    · rw [List.pairwise_map]
      refine pw.imp_of_mem fun {p q} hp hq lt => ?_
      have a := hb2 p hp
      have b := hb2 q hq
      unfold ltP at lt
      simp only [natP]
      split at lt <;> simp only [decide_eq_true_eq] at lt <;> omega
  have mem : ∀ u v, (u, v) ∈ qi.map natP ↔ u < v ∧ ((u, v) ∈ ps ∨ (v, u) ∈ ps) := fun u v => by
    rw [List.mem_map]
    constructor
    · rintro ⟨p, hp, e⟩
      obtain ⟨q, hq, e3⟩ := List.mem_map.mp ((hin p).mp hp)
      have a := hb2 p hp
      subst e3
      have hn' := h q hq
      simp only [natP, mmN, Prod.mk.injEq] at e a
      obtain ⟨q1, q2⟩ := q
      simp only at e a hn'
      refine ⟨by omega, ?_⟩
      by_cases c : q1 < q2
      · left; rw [show u = q1 by omega, show v = q2 by omega]; exact hq
      · right; rw [show u = q2 by omega, show v = q1 by omega]; exact hq
    · rintro ⟨lt, hm⟩
      refine ⟨((u : Int), (v : Int)), (hin _).mpr ?_, rfl⟩
      rw [List.mem_map]
      rcases hm with hm | hm
      · refine ⟨_, hm, ?_⟩
        simp only [mmN, Prod.mk.injEq]; omega
      · refine ⟨_, hm, ?_⟩
        simp only [mmN, Prod.mk.injEq]; omega
  refine ⟨qi.map natP, ?_, tn, ties_28 tn hn, fun u v => ?_⟩
  · rw [e1] at lc
    rw [e2] at es
    have bt : biTuple [.lst ((qi.map natP).map tieN)] M = .ok (.tup ((qi.map natP).map tieN)) M := by simp [biTuple, Mi.listOf]
    have b : b__law_web_of [some (natD n), some (.lst (ps.map tieN)), none, none] M = .ret (webN n (qi.map natP)) M := by
      show _ = Out.ret (.tup [natD n, .tup ((qi.map natP).map tieN)]) M
      generalize (qi.map natP).map tieN = ql at *
      generalize ps'.map tieD = pl at *
      generalize ps.map tieN = tl at *
      unfold b__law_web_of
      simp only [sSeq_e, sSet_e, sIf_e, sRet_e, sNop_e, sAsg_e, sExp_e, sFor_e, evTr_e, evC_e, ev2_e, evCall_e, evN_e, evCons_e, evNil_e, evTup_e, evLst_e, evAnd_e, evOr_e, evNot_e, evAndV_e, evOrV_e, evNotV_e, evIter_e, evRng_e, evM_e, evLc_e, u_var, List.getElem?_cons_zero, List.getElem?_cons_succ, List.set_cons_zero, List.set_cons_succ, List.length_cons, List.length_nil, Nat.reduceAdd, Nat.reduceLT, Nat.reduceLeDiff, bind_ok, bindN_ok, out_ok, then_nx, then_ret, then_exc, of_ok, tr_bl, itOf, sizeLine_eq, wipeD_cons, wipeD_nil, if_true, if_false, reduceIte, Bool.false_eq_true, Bool.true_eq_false, Bool.not_true, Bool.not_false, evSSet_e, lc, es, bt]
    have z := run_ret (n := 4) (ds := [natD n, .lst (ps.map tieN)]) b (frz_ok ok_web)
    rw [List.take_length] at z
    exact z
  · rw [adj_iff, mem, mem]
    constructor
    · rintro (⟨_, z⟩ | ⟨_, z⟩)
      · exact z
      · exact z.symm
    · intro z
      have ne : u ≠ v := by
        rcases z with z | z
        · have := h _ z; simp only at this; omega
        · have := h _ z; simp only at this; omega
      by_cases c : u < v
      · exact .inl ⟨c, z⟩
      · exact .inr ⟨by omega, z.symm⟩
/-! ### the web of rows of bits -/
abbrev rowD (r : List Nat) : D := .tup (r.map natD)
def unl (r s : List Nat) : Nat := ((List.range r.length).filter fun k => !decide (r.getD k 0 = s.getD k 0)).length
theorem ix_rowD {r : List Nat} {k : Nat} (h : k < r.length) : opIx (rowD r) (natD k) M = .ok (natD (r.getD k 0)) M := by
  have e : r[k]? = some (r.getD k 0) := by rw [List.getElem?_eq_getElem h, List.getD_eq_getElem?_getD, List.getElem?_eq_getElem h]; rfl
  exact ix_mapT e
theorem len_rowD {r : List Nat} : biLen [rowD r] M = .ok (natD r.length) M := by simp [biLen, seqOf]
theorem unl_ok {r s : List Nat} (h : r.length = s.length) (hl : r.length ≤ 100) : d__law_unlike [rowD r, rowD s] M = .ok (natD (unl r s)) M := by
  have rg := rg_n (M := M) (n := r.length) (by omega)
  have ln := len_rowD (M := M) (r := r)
  have lc := lc_fm (M := M) (p := .nm 2) (test := evTr (ev2 opNe (ev2 opIx (evVar 0) (evVar 2)) (ev2 opIx (evVar 1) (evVar 2)))) (fe := evVar 2) natD natD (fun k => !decide (r.getD k 0 = s.getD k 0)) (env := [some (rowD r), some (rowD s), none]) (List.range r.length) [] (fun k hk => by
    have hk' := List.mem_range.mp hk
    have i1 := ix_rowD (M := M) hk'
    have i2 := ix_rowD (M := M) (r := s) (k := k) (by omega)
    have ne := ne_nat (M := M) (a := r.getD k 0) (b := s.getD k 0)
    refine ⟨[some (rowD r), some (rowD s), some (natD k)], by simp [asgP], ?_, fun _ => by simp only [sSeq_e, sSet_e, sIf_e, sRet_e, sNop_e, sAsg_e, sExp_e, sFor_e, evTr_e, evC_e, ev2_e, evCall_e, evN_e, evCons_e, evNil_e, evTup_e, evLst_e, evAnd_e, evOr_e, evNot_e, evAndV_e, evOrV_e, evNotV_e, evIter_e, evRng_e, evM_e, evLc_e, u_var, List.getElem?_cons_zero, List.getElem?_cons_succ, List.set_cons_zero, List.set_cons_succ, List.length_cons, List.length_nil, Nat.reduceAdd, Nat.reduceLT, Nat.reduceLeDiff, bind_ok, bindN_ok, out_ok, then_nx, then_ret, then_exc, of_ok, tr_bl, itOf, sizeLine_eq, wipeD_cons, wipeD_nil, if_true, if_false, reduceIte, Bool.false_eq_true, Bool.true_eq_false, Bool.not_true, Bool.not_false]⟩
    generalize rowD r = r_ at *
    generalize rowD s = s_ at *
    simp only [sSeq_e, sSet_e, sIf_e, sRet_e, sNop_e, sAsg_e, sExp_e, sFor_e, evTr_e, evC_e, ev2_e, evCall_e, evN_e, evCons_e, evNil_e, evTup_e, evLst_e, evAnd_e, evOr_e, evNot_e, evAndV_e, evOrV_e, evNotV_e, evIter_e, evRng_e, evM_e, evLc_e, u_var, List.getElem?_cons_zero, List.getElem?_cons_succ, List.set_cons_zero, List.set_cons_succ, List.length_cons, List.length_nil, Nat.reduceAdd, Nat.reduceLT, Nat.reduceLeDiff, bind_ok, bindN_ok, out_ok, then_nx, then_ret, then_exc, of_ok, tr_bl, itOf, sizeLine_eq, wipeD_cons, wipeD_nil, if_true, if_false, reduceIte, Bool.false_eq_true, Bool.true_eq_false, Bool.not_true, Bool.not_false, i1, i2, ne]) (by simp; omega)
  rw [List.nil_append] at lc
  have bl : biLen [.lst (((List.range r.length).filter fun k => !decide (r.getD k 0 = s.getD k 0)).map natD)] M = .ok (natD (unl r s)) M := by simp [biLen, seqOf, Mi.listOf, unl]
  have b : b__law_unlike [some (rowD r), some (rowD s), none] M = .ret (natD (unl r s)) M := by
    generalize rowD r = r_ at *
    generalize rowD s = s_ at *
    generalize ((List.range r.length).filter fun k => !decide (r.getD k 0 = s.getD k 0)).map natD = fl at *
    unfold b__law_unlike
    simp only [sSeq_e, sSet_e, sIf_e, sRet_e, sNop_e, sAsg_e, sExp_e, sFor_e, evTr_e, evC_e, ev2_e, evCall_e, evN_e, evCons_e, evNil_e, evTup_e, evLst_e, evAnd_e, evOr_e, evNot_e, evAndV_e, evOrV_e, evNotV_e, evIter_e, evRng_e, evM_e, evLc_e, u_var, List.getElem?_cons_zero, List.getElem?_cons_succ, List.set_cons_zero, List.set_cons_succ, List.length_cons, List.length_nil, Nat.reduceAdd, Nat.reduceLT, Nat.reduceLeDiff, bind_ok, bindN_ok, out_ok, then_nx, then_ret, then_exc, of_ok, tr_bl, itOf, sizeLine_eq, wipeD_cons, wipeD_nil, if_true, if_false, reduceIte, Bool.false_eq_true, Bool.true_eq_false, Bool.not_true, Bool.not_false, ln, rg, lc, bl]
  have z := run_ret (n := 3) (ds := [rowD r, rowD s]) (M := M) b rfl
  rw [List.take_length] at z
  exact z
theorem unl_symm {r s : List Nat} (h : r.length = s.length) : unl r s = unl s r := by
  unfold unl
  rw [h]
  have e : (fun k => !decide (r.getD k 0 = s.getD k 0)) = fun k => !decide (s.getD k 0 = r.getD k 0) := funext fun k => congrArg not (decide_eq_decide.mpr ⟨Eq.symm, Eq.symm⟩)
  rw [e]
theorem unl_self {r : List Nat} : unl r r = 0 := by simp [unl]
/-- rows that are linked -/
inductive Lk (rows : List (List Nat)) (r : List Nat) : List Nat → Prop
  | refl : r ∈ rows → Lk rows r r
  | step {s t : List Nat} : Lk rows r s → t ∈ rows → unl s t = 1 → Lk rows r t
structure GoodR (w : Nat) (rows : List (List Nat)) : Prop where
  len : ∀ r ∈ rows, r.length = w
  bit : ∀ r ∈ rows, ∀ b ∈ r, b ≤ 1
  nd : rows.Nodup
  link : ∀ r ∈ rows, ∀ s ∈ rows, Lk rows r s
  pos : 1 ≤ rows.length
  few : rows.length ≤ 8
  thin : w ≤ rows.length
theorem Lk.mem {rows : List (List Nat)} {r s : List Nat} (h : Lk rows r s) : s ∈ rows := by
  cases h <;> assumption
def byTs (rows : List (List Nat)) (j : Nat) : List (Nat × Nat) := ((List.range j).filter fun i => decide (unl (rows.getD j []) (rows.getD i []) = 1)).map fun i => (i, j)
def allTs (rows : List (List Nat)) : List (Nat × Nat) := (List.range rows.length).flatMap (byTs rows)
theorem flat_len {α β : Type} {F : α → List β} {c : Nat} : ∀ {l : List α}, (∀ a ∈ l, (F a).length ≤ c) → (l.flatMap F).length ≤ c * l.length
  | [], _ => by simp
  | a :: l, h => by
    rw [List.flatMap_cons, List.length_append, List.length_cons, Nat.mul_succ]
    have := h a (by simp)
    have := flat_len (l := l) fun b hb => h b (by simp [hb])
    omega
theorem byTs_len {rows : List (List Nat)} {j : Nat} : (byTs rows j).length ≤ j := by
  unfold byTs
  rw [List.length_map]
  exact Nat.le_trans (List.length_filter_le _ _) (by simp)
theorem mem_allTs {rows : List (List Nat)} {i j : Nat} : (i, j) ∈ allTs rows ↔ i < j ∧ j < rows.length ∧ unl (rows.getD j []) (rows.getD i []) = 1 := by
  unfold allTs byTs
  simp only [List.mem_flatMap, List.mem_range, List.mem_map, List.mem_filter, decide_eq_true_eq, Prod.mk.injEq]
  constructor
  · rintro ⟨j', hj, i', ⟨hi, h⟩, rfl, rfl⟩
    exact ⟨hi, hj, h⟩
  · rintro ⟨hi, hj, h⟩
    exact ⟨j, hj, i, ⟨hi, h⟩, rfl, rfl⟩
theorem good_get {w : Nat} {rows : List (List Nat)} (g : GoodR w rows) {i : Nat} (h : i < rows.length) : rows[i]? = some (rows.getD i []) ∧ rows.getD i [] ∈ rows ∧ (rows.getD i []).length = w := by
  have e : rows.getD i [] = rows[i] := by rw [List.getD_eq_getElem?_getD, List.getElem?_eq_getElem h]; rfl
  rw [e]
  exact ⟨List.getElem?_eq_getElem h, List.getElem_mem h, g.len _ (List.getElem_mem h)⟩
theorem good_jn {w : Nat} {rows : List (List Nat)} (g : GoodR w rows) (hqs : ∀ u v, adjN qs u v = true ↔ (u, v) ∈ allTs rows ∨ (v, u) ∈ allTs rows) : Jn rows.length qs := by
  have h0 : 0 < rows.length := g.pos
  obtain ⟨z1, z2, z3⟩ := good_get g h0
  have nd := g.nd
  have uniq : ∀ {i j : Nat}, i < rows.length → j < rows.length → rows.getD i [] = rows.getD j [] → i = j := fun {i j} hi hj e => by
    have e1 : rows.getD i [] = rows[i] := by rw [List.getD_eq_getElem?_getD, List.getElem?_eq_getElem hi]; rfl
    have e2 : rows.getD j [] = rows[j] := by rw [List.getD_eq_getElem?_getD, List.getElem?_eq_getElem hj]; rfl
    rw [e1, e2] at e
    exact (List.getElem_inj nd).mp e
  have key : ∀ s, Lk rows (rows.getD 0 []) s → ∀ v, v < rows.length → rows.getD v [] = s → ∃ k, Bl rows.length (adjN qs) 0 k v = true := fun s hs => by
    induction hs with
    | refl hm =>
      intro v hv e
      have := uniq hv h0 e
      exact ⟨0, by simp [Bl, this]⟩
    | @step s t hl ht hu ih =>
      intro v hv e
      obtain ⟨u, hu', eu⟩ := List.getElem_of_mem hl.mem
      have eu' : rows.getD u [] = s := by rw [List.getD_eq_getElem?_getD, List.getElem?_eq_getElem hu']; exact eu
      obtain ⟨k, hk⟩ := ih u hu' eu'
      refine ⟨k + 1, bl_step.mpr (.inr ⟨u, hu', hk, (hqs u v).mpr ?_⟩)⟩
      have la := (good_get g hu').2.2
      have lb := (good_get g hv).2.2
      rw [← eu', ← e] at hu
      rcases Nat.lt_trichotomy u v with c | c | c
      · left; rw [mem_allTs]; exact ⟨c, hv, by rw [unl_symm (by omega)]; exact hu⟩
      · subst c; rw [unl_self] at hu; omega
      · right; rw [mem_allTs]; exact ⟨c, hu', hu⟩
  intro v hv
  obtain ⟨k, hk⟩ := key _ (g.link _ z2 _ (good_get g hv).2.1) v hv rfl
  exact bl_cap hv hk
abbrev YB : Ev → Store → Out := (sExp (evM mExtend (evVar 1) (evCons (evLc (.nm 3) [3] (evRng rng1 (evCons (evVar 2) evNil)) (evTr (ev2 opEq (evCall d__law_unlike (evCons (ev2 opIx (evVar 0) (evVar 2)) (evCons (ev2 opIx (evVar 0) (evVar 3)) evNil))) (evC (.int 1)))) (evTup (evCons (evVar 3) (evCons (evVar 2) evNil)))) evNil)))
theorem eq_nat {a b : Nat} : opEq (natD a) (.int (b : Int)) M = .ok (.bl (decide (a = b))) M := by
  rw [Mi.eq_int]
  congr 2
  by_cases h : a = b
  · simp [h]
  · have : ¬ (a : Int) = (b : Int) := by omega
    simp [h, this]
theorem pure_tieN : ∀ l : List (Nat × Nat), pureDs (l.map tieN) = true
  | [] => rfl
  | t :: l => by simp only [List.map_cons, pureDs, pureD, pure_tieN l, Bool.and_self]
theorem ext_ok {N : Store} {xs ys : List D} (h : xs.length + ys.length ≤ 1000) (hp : pureDs (xs ++ ys) = true) : mExtend (.loc N.length) [.lst ys] (N ++ [some (.lst xs)]) = .ok .non (N ++ [some (.lst (xs ++ ys))]) := by
  have g : (N ++ [some (Ob.lst xs)])[N.length]? = some (some (.lst xs)) := by simp
  unfold mExtend
  simp only [g, Mi.listOf, of_ok, bind_ok]
  rw [if_pos ⟨by rw [sizeLine_eq]; omega, hp⟩, List.set_append_right _ _ (by omega)]
  simp
theorem yb_ok {w : Nat} {rows : List (List Nat)} (g : GoodR w rows) {j : Nat} (hj : j < rows.length) {acc : List (Nat × Nat)} (ha : acc.length ≤ 200) {s3 : Option D} :
    YB [some (.lst (rows.map rowD)), some (.loc M.length), some (natD j), s3] (M ++ [some (.lst (acc.map tieN))]) = .nx [some (.lst (rows.map rowD)), some (.loc M.length), some (natD j), s3] (M ++ [some (.lst ((acc ++ byTs rows j).map tieN))]) := by
  generalize hS : M ++ [some (Ob.lst (acc.map tieN))] = S
  obtain ⟨a1, a2, a3⟩ := good_get g hj
  have few := g.few
  have ij := ix_map (M := S) (f := rowD) a1
  have rg := rg_n (M := S) (n := j) (by omega)
  have lc := lc_fm (M := S) (p := .nm 3) (test := evTr (ev2 opEq (evCall d__law_unlike (evCons (ev2 opIx (evVar 0) (evVar 2)) (evCons (ev2 opIx (evVar 0) (evVar 3)) evNil))) (evC (.int 1)))) (fe := evTup (evCons (evVar 3) (evCons (evVar 2) evNil))) natD (fun i => tieN (i, j)) (fun i => decide (unl (rows.getD j []) (rows.getD i []) = 1)) (env := [some (.lst (rows.map rowD)), some (.loc M.length), some (natD j), none]) (List.range j) [] (fun i hi => by
    have hi' := List.mem_range.mp hi
    obtain ⟨b1, b2, b3⟩ := good_get g (show i < rows.length by omega)
    have ii := ix_map (M := S) (f := rowD) b1
    have un := unl_ok (M := S) (r := rows.getD j []) (s := rows.getD i []) (by omega) (by have := g.thin; omega)
    have eq := eq_nat (M := S) (a := unl (rows.getD j []) (rows.getD i [])) (b := 1)
    have z1 : ((1 : Nat) : Int) = 1 := rfl
    rw [z1] at eq
    refine ⟨[some (.lst (rows.map rowD)), some (.loc M.length), some (natD j), some (natD i)], by simp [asgP], ?_, fun _ => by simp only [sSeq_e, sSet_e, sIf_e, sRet_e, sNop_e, sAsg_e, sExp_e, sFor_e, evTr_e, evC_e, ev2_e, evCall_e, evN_e, evCons_e, evNil_e, evTup_e, evLst_e, evAnd_e, evOr_e, evNot_e, evAndV_e, evOrV_e, evNotV_e, evIter_e, evRng_e, evM_e, evLc_e, u_var, List.getElem?_cons_zero, List.getElem?_cons_succ, List.set_cons_zero, List.set_cons_succ, List.length_cons, List.length_nil, Nat.reduceAdd, Nat.reduceLT, Nat.reduceLeDiff, bind_ok, bindN_ok, out_ok, then_nx, then_ret, then_exc, of_ok, tr_bl, itOf, sizeLine_eq, wipeD_cons, wipeD_nil, if_true, if_false, reduceIte, Bool.false_eq_true, Bool.true_eq_false, Bool.not_true, Bool.not_false]⟩
    generalize rows.map rowD = rl at *
    generalize rowD (rows.getD j []) = ra at *
    generalize rowD (rows.getD i []) = rb at *
    simp only [sSeq_e, sSet_e, sIf_e, sRet_e, sNop_e, sAsg_e, sExp_e, sFor_e, evTr_e, evC_e, ev2_e, evCall_e, evN_e, evCons_e, evNil_e, evTup_e, evLst_e, evAnd_e, evOr_e, evNot_e, evAndV_e, evOrV_e, evNotV_e, evIter_e, evRng_e, evM_e, evLc_e, u_var, List.getElem?_cons_zero, List.getElem?_cons_succ, List.set_cons_zero, List.set_cons_succ, List.length_cons, List.length_nil, Nat.reduceAdd, Nat.reduceLT, Nat.reduceLeDiff, bind_ok, bindN_ok, out_ok, then_nx, then_ret, then_exc, of_ok, tr_bl, itOf, sizeLine_eq, wipeD_cons, wipeD_nil, if_true, if_false, reduceIte, Bool.false_eq_true, Bool.true_eq_false, Bool.not_true, Bool.not_false, ij, ii, un, eq]) (by simp; omega)
  rw [List.nil_append] at lc
  have e2 : ((List.range j).filter fun i => decide (unl (rows.getD j []) (rows.getD i []) = 1)).map (fun i => tieN (i, j)) = (byTs rows j).map tieN := by
    unfold byTs
    rw [List.map_map]; rfl
  rw [e2] at lc
  have bl := byTs_len (rows := rows) (j := j)
  have ex := ext_ok (N := M) (xs := acc.map tieN) (ys := (byTs rows j).map tieN) (by simp; omega) (by rw [← List.map_append]; exact pure_tieN _)
  have isl : isLst S (.loc M.length) = true := by rw [← hS]; exact isl_ok
  rw [hS, ← List.map_append] at ex
  generalize rows.map rowD = rl at *
  generalize (byTs rows j).map tieN = bl at *
  unfold YB
  simp only [sSeq_e, sSet_e, sIf_e, sRet_e, sNop_e, sAsg_e, sExp_e, sFor_e, evTr_e, evC_e, ev2_e, evCall_e, evN_e, evCons_e, evNil_e, evTup_e, evLst_e, evAnd_e, evOr_e, evNot_e, evAndV_e, evOrV_e, evNotV_e, evIter_e, evRng_e, evM_e, evLc_e, u_var, List.getElem?_cons_zero, List.getElem?_cons_succ, List.set_cons_zero, List.set_cons_succ, List.length_cons, List.length_nil, Nat.reduceAdd, Nat.reduceLT, Nat.reduceLeDiff, bind_ok, bindN_ok, out_ok, then_nx, then_ret, then_exc, of_ok, tr_bl, itOf, sizeLine_eq, wipeD_cons, wipeD_nil, if_true, if_false, reduceIte, Bool.false_eq_true, Bool.true_eq_false, Bool.not_true, Bool.not_false, isl, rg, lc, ex]
theorem evFrzV_e {i l : Nat} {xs : List D} (h : env[i]? = some (some (.loc l))) (g : M[l]? = some (some (.lst xs))) : evFrzV i env M = .ok (.lst xs) (M.set l none) := by
  unfold evFrzV
  rw [h]
  simp only [frzD, g]
theorem webby_ok {w : Nat} {rows : List (List Nat)} (g : GoodR w rows) : ∃ qs, TiesN rows.length qs ∧ qs.length ≤ 28 ∧ Jn rows.length qs ∧ (∀ u v, adjN qs u v = true ↔ (u, v) ∈ allTs rows ∨ (v, u) ∈ allTs rows) ∧ d__law_web_by [.lst (rows.map rowD)] M = .ok (webN rows.length qs) M := by
  have few := g.few
  have lenA : (allTs rows).length ≤ 56 := by
    unfold allTs
    have := flat_len (F := byTs rows) (c := 7) (l := List.range rows.length) fun j hj => by
      have := byTs_len (rows := rows) (j := j)
      have := List.mem_range.mp hj
      omega
    rw [List.length_range] at this
    omega
  obtain ⟨env', M', f1, s2, s3, rfl, rfl⟩ := for_inv (p := .nm 2) (body := YB) (fun i env S => ∃ s2 s3, env = [some (.lst (rows.map rowD)), some (.loc M.length), s2, s3] ∧ S = M ++ [some (Ob.lst (((List.range i).flatMap (byTs rows)).map tieN))]) ((List.range rows.length).map natD) 0 _ _
    ⟨none, none, rfl, rfl⟩
    (by
      rintro j y env S hy ⟨s2, s3, rfl, rfl⟩
      have hj : j < rows.length := by
        have := (List.getElem?_eq_some_iff.mp hy).1
        simpa using this
      have ey : y = natD j := by
        rw [List.getElem?_map, List.getElem?_range hj] at hy
        simpa using hy.symm
      subst ey
      rw [Nat.zero_add]
      refine ⟨[some (.lst (rows.map rowD)), some (.loc M.length), some (natD j), s3], _, _, by simp [asgP], yb_ok g hj ?_, _, _, rfl, ?_⟩
      · have := flat_len (F := byTs rows) (c := 7) (l := List.range j) fun k hk => by
          have := byTs_len (rows := rows) (j := k)
          have := List.mem_range.mp hk
          omega
        rw [List.length_range] at this
        omega
      · rw [List.range_succ, List.flatMap_append]
        simp)
  rw [List.length_map, List.length_range, Nat.zero_add] at f1
  have eA : (List.range rows.length).flatMap (byTs rows) = allTs rows := rfl
  rw [eA] at f1
  have bnd : ∀ p ∈ allTs rows, p.1 < rows.length ∧ p.2 < rows.length ∧ p.1 ≠ p.2 := fun p hp => by
    obtain ⟨i, j⟩ := p
    have := mem_allTs.mp hp
    simp only
    omega
  obtain ⟨qs, e, tn, l28, adj⟩ := webof_ok (M := M ++ [none]) (n := rows.length) (ps := allTs rows) bnd few (by omega)
  refine ⟨qs, tn, l28, good_jn g adj, adj, ?_⟩
  have ln : biLen [.lst (rows.map rowD)] (M ++ [some (Ob.lst [])]) = .ok (natD rows.length) (M ++ [some (Ob.lst [])]) := by simp [biLen, seqOf, Mi.listOf]
  have ln2 : biLen [.lst (rows.map rowD)] (M ++ [some (Ob.lst ((allTs rows).map tieN))]) = .ok (natD rows.length) (M ++ [some (Ob.lst ((allTs rows).map tieN))]) := by simp [biLen, seqOf, Mi.listOf]
  have rg := rg_n (M := M ++ [some (Ob.lst [])]) (n := rows.length) (by omega)
  have fz : evFrzV 1 [some (.lst (rows.map rowD)), some (.loc M.length), s2, s3] (M ++ [some (Ob.lst ((allTs rows).map tieN))]) = .ok (.lst ((allTs rows).map tieN)) (M ++ [none]) := by
    rw [evFrzV_e (xs := (allTs rows).map tieN) rfl (by simp), List.set_append_right _ _ (by omega)]
    simp
  have nw : evNew evNil [some (.lst (rows.map rowD)), none, none, none] M = .ok (.loc M.length) (M ++ [some (Ob.lst [])]) := by
    rw [evNew_e, evNil_e, bind_ok, if_pos ⟨by simp, rfl⟩]
  have b : b__law_web_by [some (.lst (rows.map rowD)), none, none, none] M = .ret (webN rows.length qs) (M ++ [none]) := by
    have be : b__law_web_by = (sSeq (sSet 1 (evNew evNil)) (sSeq (sFor (.nm 2) (evRng rng1 (evCons (evN biLen (evCons (evVar 0) evNil)) evNil)) YB) (sRet (evCall d__law_web_of (evCons (evN biLen (evCons (evVar 0) evNil)) (evCons (evFrzV 1) evNil)))))) := rfl
    rw [be]
    simp only [List.range_zero, List.flatMap_nil, List.map_nil] at f1
    generalize hY : YB = yb at *
    generalize rows.map rowD = rl at *
    generalize webN rows.length qs = wn at *
    generalize (allTs rows).map tieN = al at *
    generalize M ++ [none] = M0 at *
    generalize M ++ [some (Ob.lst al)] = M2 at *
    generalize M ++ [some (Ob.lst [])] = M1 at *
    simp only [sSeq_e, sSet_e, sIf_e, sRet_e, sNop_e, sAsg_e, sExp_e, sFor_e, evTr_e, evC_e, ev2_e, evCall_e, evN_e, evCons_e, evNil_e, evTup_e, evLst_e, evAnd_e, evOr_e, evNot_e, evAndV_e, evOrV_e, evNotV_e, evIter_e, evRng_e, evM_e, evLc_e, u_var, List.getElem?_cons_zero, List.getElem?_cons_succ, List.set_cons_zero, List.set_cons_succ, List.length_cons, List.length_nil, Nat.reduceAdd, Nat.reduceLT, Nat.reduceLeDiff, bind_ok, bindN_ok, out_ok, then_nx, then_ret, then_exc, of_ok, tr_bl, itOf, sizeLine_eq, wipeD_cons, wipeD_nil, if_true, if_false, reduceIte, Bool.false_eq_true, Bool.true_eq_false, Bool.not_true, Bool.not_false, nw, ln, rg, f1, ln2, fz, e]
  have z := run_ret (n := 4) (ds := [.lst (rows.map rowD)]) b (frz_ok ok_web)
  rw [take_app] at z
  exact z
end
end Hd

set_option Elab.async false
set_option linter.all false
set_option maxRecDepth 100000
namespace Hd
open Mi PySem PySem.Spec PyProof.Rows L2
section
variable {M : Store} {x : D} {env : Ev}
/-- a draw, by numbers from nought on -/
theorem drawK {l : Nat} {o : Option Ob} {m : Nat} (hM : M[l]? = some o) (ho : PenO o) (h1 : 1 ≤ m) (h2 : m < 1073741824) : ∃ (r : Nat) (o' : Option Ob), r < m ∧ PenO o' ∧ d__law_draw [.loc l, natD m] M = .ok (natD r) (M.set l o') := by
  obtain ⟨r, o', r0, r1, p, e⟩ := draw' hM ho (m := (m : Int)) (by omega) (by omega)
  refine ⟨r.toNat, o', by omega, p, ?_⟩
  rw [e]
  have : ((r.toNat : Nat) : Int) = r := by omega
  simp only [natD, this]
/-! ### a list in a drawn order -/
abbrev two (B : Store) (L F : List D) : Store := B ++ [some (.lst L), some (.lst F)]
section
variable {B : Store} {L F : List D} {l : Nat} {o : Option Ob}
theorem two_l (h : l < B.length) : (two B L F)[l]? = B[l]? := List.getElem?_append_left h
theorem two_a : (two B L F)[B.length]? = some (some (.lst L)) := by simp
theorem two_b : (two B L F)[B.length + 1]? = some (some (.lst F)) := by simp
theorem set_l (h : l < B.length) : (two B L F).set l o = two (B.set l o) L F := List.set_append_left _ _ h
theorem set_a : (two B L F).set B.length o = B ++ [o, some (.lst F)] := by
  unfold two; rw [List.set_append_right _ _ (by omega)]; simp
theorem set_b : (two B L F).set (B.length + 1) o = B ++ [some (.lst L), o] := by
  unfold two; rw [List.set_append_right _ _ (by omega)]; simp
theorem draw2 {m : Nat} (hB : B[l]? = some o) (ho : PenO o) (h1 : 1 ≤ m) (h2 : m < 1073741824) : ∃ (r : Nat) (o' : Option Ob), r < m ∧ PenO o' ∧ d__law_draw [.loc l, natD m] (two B L F) = .ok (natD r) (two (B.set l o') L F) := by
  have hl : l < B.length := (List.getElem?_eq_some_iff.mp hB).1
  obtain ⟨r, o', r1, p, e⟩ := drawK (M := two B L F) (l := l) (o := o) ((two_l hl).trans hB) ho h1 h2
  rw [set_l hl] at e
  exact ⟨r, o', r1, p, e⟩
theorem pop2 {r : Nat} {d : D} (h : L[r]? = some d) (h2 : L.length ≤ 1000) : mPop (.loc B.length) [natD r] (two B L F) = .ok d (two B (L.eraseIdx r) F) := by
  have hr := (List.getElem?_eq_some_iff.mp h).1
  have key : ∀ (i : Int), 0 ≤ i → i < L.length → seqIndex? i L.length = some i.toNat := fun i h0 h1 => by
    have hn : ¬ i < 0 := by omega
    simp [seqIndex?, hn, h0, h1]
  have es := key (r : Int) (by omega) (by omega)
  rw [Int.toNat_natCast] at es
  unfold mPop
  simp only [two_a]
  rw [if_pos (by omega), es, of_ok, bind_ok, h, of_ok, bind_ok, set_a]
theorem app2 (h1 : F.length ≤ 1000) (h2 : pureDs (F ++ [x]) = true) : mAppend (.loc (B.length + 1)) [x] (two B L F) = .ok .non (two B L (F ++ [x])) := by
  unfold mAppend
  simp only [two_b]
  rw [if_pos ⟨by rw [sizeLine_eq]; omega, h2⟩, set_b]
theorem isl2a : isLst (two B L F) (.loc B.length) = true := by simp [isLst, Mi.listOf]
theorem isl2b : isLst (two B L F) (.loc (B.length + 1)) = true := by simp [isLst, Mi.listOf]
theorem len2 : biLen [.loc B.length] (two B L F) = .ok (natD L.length) (two B L F) := by
  simp only [biLen, seqOf, Mi.listOf, two_a, of_ok, bind_ok]
def PyL (L : List D) : Prop := ∀ x ∈ L, ∃ p, toPy x = some p ∧ p.canLay0 = true ∧ p.depth ≤ 3
theorem pys_of : ∀ {L : List D}, PyL L → ∃ ps, toPys L = some ps ∧ ps.length = L.length ∧ PyData.canLayAll0 ps = true ∧ PyData.depthAll ps ≤ 3
  | [], _ => ⟨[], rfl, rfl, rfl, by simp [PyData.depthAll]⟩
  | x :: L, h => by
    obtain ⟨p, p1, p2, p3⟩ := h x (by simp)
    obtain ⟨ps, q1, q2, q3, q4⟩ := pys_of (L := L) fun y hy => h y (by simp [hy])
    exact ⟨p :: ps, by simp [toPys, p1, q1], by simp [q2], by simp [PyData.canLayAll0, p2, q3], by simp [PyData.depthAll]; omega⟩
theorem shaped_l {ps : List PyData} (h1 : PyData.canLayAll0 ps = true) (h2 : PyData.depthAll ps ≤ 3) : SeqAt.shaped (.list ps) = true := by
  simp [SeqAt.shaped, PyData.canLay0, PyData.depth, h1]; omega
theorem shaped_nil : SeqAt.shaped (.list []) = true := shaped_l rfl (by simp [PyData.depthAll])
theorem ne2 (h : PyL L) : opNe (.loc B.length) (.lst []) (two B L F) = .ok (.bl (!L.isEmpty)) (two B L F) := by
  obtain ⟨ps, q1, q2, q3, q4⟩ := pys_of h
  have s1 := shaped_l q3 q4
  have e1 : toPyM (two B L F) (.loc B.length) = some (.list ps) := by simp [toPyM, Mi.listOf, q1]
  have e2 : toPyM (two B L F) (.lst []) = some (.list []) := rfl
  have e3 : PyData.eqv (.list ps) (.list []) = L.isEmpty := by
    cases ps with
    | nil =>
      cases L with
      | nil => simp [PyData.eqv, PyData.eqvAll]
      | cons a b => simp at q2
    | cons a b =>
      cases L with
      | nil => simp at q2
      | cons c d => simp [PyData.eqv, PyData.eqvAll]
  simp [opNe, eqDs, e1, e2, s1, shaped_nil, e3]
end
theorem perm_get {α : Type} : ∀ {L : List α} {r : Nat} {d : α}, L[r]? = some d → (d :: L.eraseIdx r).Perm L
  | [], r, d, h => by simp at h
  | a :: L, 0, d, h => by
    simp at h; subst h; simp
  | a :: L, r + 1, d, h => by
    simp at h
    simp only [List.eraseIdx_cons_succ]
    exact (List.Perm.swap a d _).trans (List.Perm.cons a (perm_get h))
abbrev MT : Ev → Store → Res Bool := (evTr (ev2 opNe (evVar 2) (evLst evNil)))
abbrev MXB : Ev → Store → Out := (sExp (evM mAppend (evVar 3) (evCons (evM mPop (evVar 2) (evCons (evCall d__law_draw (evCons (evVar 0) (evCons (evN biLen (evCons (evVar 2) evNil)) evNil))) evNil)) evNil)))
theorem set_same' {B : Store} {l : Nat} {o : Option Ob} (h : B[l]? = some o) : B.set l o = B := by
  have := List.getElem?_eq_some_iff.mp h
  rw [← this.2]; exact List.set_getElem_self this.1
theorem mix_while {l : Nat} {s1 : D} : ∀ (f : Nat) (L : List D) (B : Store) (o : Option Ob) (F : List D), L.length < f → B[l]? = some o → PenO o → PyL L → pureDs L = true → pureDs F = true → F.length + L.length ≤ 800 →
    ∃ ys o', ys.Perm L ∧ PenO o' ∧ whD MT MXB f [some (.loc l), some s1, some (.loc B.length), some (.loc (B.length + 1))] (two B L F) = .nx [some (.loc l), some s1, some (.loc B.length), some (.loc (B.length + 1))] (two (B.set l o') [] (F ++ ys))
  | 0, L, B, o, F, hf, _, _, _, _, _, _ => by omega
  | f + 1, L, B, o, F, hf, hB, ho, hpy, hp, hF, hl => by
    have ne := ne2 (B := B) (F := F) hpy
    have mt : MT [some (.loc l), some s1, some (.loc B.length), some (.loc (B.length + 1))] (two B L F) = .ok (!L.isEmpty) (two B L F) := by
      generalize two B L F = S at *
      simp only [sSeq_e, sSet_e, sIf_e, sRet_e, sNop_e, sAsg_e, sExp_e, sFor_e, evTr_e, evC_e, ev2_e, evCall_e, evN_e, evCons_e, evNil_e, evTup_e, evLst_e, evAnd_e, evOr_e, evNot_e, evAndV_e, evOrV_e, evNotV_e, evIter_e, evRng_e, evM_e, evLc_e, u_var, List.getElem?_cons_zero, List.getElem?_cons_succ, List.set_cons_zero, List.set_cons_succ, List.length_cons, List.length_nil, Nat.reduceAdd, Nat.reduceLT, Nat.reduceLeDiff, bind_ok, bindN_ok, out_ok, then_nx, then_ret, then_exc, of_ok, tr_bl, itOf, sizeLine_eq, wipeD_cons, wipeD_nil, if_true, if_false, reduceIte, Bool.false_eq_true, Bool.true_eq_false, Bool.not_true, Bool.not_false, ne, Nat.zero_le]
    cases hL : L with
    | nil =>
      subst hL
      refine ⟨[], o, List.Perm.refl _, ho, ?_⟩
      rw [set_same' hB, List.append_nil]
      simp only [whD, mt, out_ok]
      rfl
    | cons a L' =>
      have pos : 1 ≤ L.length := by rw [hL]; simp
      rw [← hL]
      have hne : (!L.isEmpty) = true := by rw [hL]; rfl
      obtain ⟨r, o1, r1, p1, e1⟩ := draw2 (B := B) (L := L) (F := F) (m := L.length) hB ho pos (by omega)
      have hg : L[r]? = some L[r] := List.getElem?_eq_getElem r1
      generalize L[r] = d at hg
      have lB : (B.set l o1).length = B.length := by simp
      have e2 := pop2 (B := B.set l o1) (F := F) hg (by omega)
      rw [lB] at e2
      have pd : pureD d = true := by
        have hm := List.mem_of_getElem? hg
        clear e1 e2 mt ne hL hg r1 pos hne hf hl hpy
        induction L with
        | nil => cases hm
        | cons c L ih =>
          simp only [pureDs, Bool.and_eq_true] at hp
          rcases List.mem_cons.mp hm with rfl | hm
          · exact hp.1
          · exact ih hp.2 hm
      have pe : pureDs (L.eraseIdx r) = true := by
        have sub := List.eraseIdx_sublist L r
        clear e1 e2 mt ne hL hg r1 pos hne hf hl hpy
        have : ∀ {A C : List D}, A.Sublist C → pureDs C = true → pureDs A = true := fun {A C} h => by
          induction h with
          | slnil => exact fun h => h
          | cons a _ ih => intro h; simp only [pureDs, Bool.and_eq_true] at h; exact ih h.2
          | cons_cons a _ ih => intro h; simp only [pureDs, Bool.and_eq_true] at h ⊢; exact ⟨h.1, ih h.2⟩
        exact this sub hp
      have pF : pureDs (F ++ [d]) = true := by rw [pureDs_app, hF]; simp [pureDs, pd]
      have e3 := app2 (B := B.set l o1) (L := L.eraseIdx r) (F := F) (x := d) (by omega) pF
      rw [lB] at e3
      have el : (L.eraseIdx r).length + 1 = L.length := by rw [List.length_eraseIdx_of_lt r1]; omega
      obtain ⟨ys, o2, q1, q2, ih⟩ := mix_while (l := l) (s1 := s1) f (L.eraseIdx r) (B.set l o1) o1 (F ++ [d]) (by omega) (get_set hB) p1 (fun y hy => hpy y (List.mem_of_mem_eraseIdx hy)) pe pF (by simp; omega)
      rw [lB, List.set_set] at ih
      refine ⟨d :: ys, o2, (List.Perm.cons d q1).trans (perm_get hg), q2, ?_⟩
      have i1 := isl2a (B := B) (L := L) (F := F)
      have i2 := isl2b (B := B) (L := L) (F := F)
      have ln := len2 (B := B) (L := L) (F := F)
      have b : MXB [some (.loc l), some s1, some (.loc B.length), some (.loc (B.length + 1))] (two B L F) = .nx [some (.loc l), some s1, some (.loc B.length), some (.loc (B.length + 1))] (two (B.set l o1) (L.eraseIdx r) (F ++ [d])) := by
        generalize two B L F = S0 at *
        generalize two (B.set l o1) L F = S1 at *
        generalize two (B.set l o1) (L.eraseIdx r) F = S2 at *
        generalize two (B.set l o1) (L.eraseIdx r) (F ++ [d]) = S3 at *
        simp only [sSeq_e, sSet_e, sIf_e, sRet_e, sNop_e, sAsg_e, sExp_e, sFor_e, evTr_e, evC_e, ev2_e, evCall_e, evN_e, evCons_e, evNil_e, evTup_e, evLst_e, evAnd_e, evOr_e, evNot_e, evAndV_e, evOrV_e, evNotV_e, evIter_e, evRng_e, evM_e, evLc_e, u_var, List.getElem?_cons_zero, List.getElem?_cons_succ, List.set_cons_zero, List.set_cons_succ, List.length_cons, List.length_nil, Nat.reduceAdd, Nat.reduceLT, Nat.reduceLeDiff, bind_ok, bindN_ok, out_ok, then_nx, then_ret, then_exc, of_ok, tr_bl, itOf, sizeLine_eq, wipeD_cons, wipeD_nil, if_true, if_false, reduceIte, Bool.false_eq_true, Bool.true_eq_false, Bool.not_true, Bool.not_false, i1, i2, ln, e1, e2, e3]
      rw [List.append_assoc] at ih
      simp only [whD, mt, out_ok, hne, if_true, b]
      exact ih
theorem mixed_ok {l : Nat} {o : Option Ob} {xs : List D} (hM : M[l]? = some o) (ho : PenO o) (hpy : PyL xs) (hp : pureDs xs = true) (hl : xs.length ≤ 100) :
    ∃ ys o', ys.Perm xs ∧ PenO o' ∧ d__law_mixed [.loc l, .lst xs] M = .ok (.lst ys) (M.set l o') := by
  obtain ⟨ys, o', q1, q2, w⟩ := mix_while (l := l) (s1 := .lst xs) 1000 xs M o [] (by omega) hM ho hpy hp rfl (by simp; omega)
  refine ⟨ys, o', q1, q2, ?_⟩
  have l1 : biListN [.lst xs] M = .ok (.loc M.length) (M ++ [some (.lst xs)]) := by simp [biListN, seqOf, Mi.listOf, hp]
  have l2 : evNew evNil [some (.loc l), some (.lst xs), some (.loc M.length), none] (M ++ [some (.lst xs)]) = .ok (.loc (M.length + 1)) (two M xs []) := by
    rw [evNew_e, evNil_e, bind_ok, if_pos ⟨by simp, rfl⟩]
    simp [two]
  rw [List.nil_append] at w
  have py : pureDs ys = true := by
    have : ∀ {A C : List D}, A.Perm C → pureDs C = true → pureDs A = true := fun {A C} h => by
      induction h with
      | nil => exact fun h => h
      | cons a _ ih => intro h; simp only [pureDs, Bool.and_eq_true] at h ⊢; exact ⟨h.1, ih h.2⟩
      | swap a b _ => intro h; simp only [pureDs, Bool.and_eq_true] at h ⊢; exact ⟨h.2.1, h.1, h.2.2⟩
      | trans _ _ i1 i2 => intro h; exact i1 (i2 h)
    exact this q1 hp
  have b : b__law_mixed [some (.loc l), some (.lst xs), none, none] M = .ret (.loc (M.length + 1)) (two (M.set l o') [] ys) := by
    have be : b__law_mixed = (sSeq (sSet 2 (evN biListN (evCons (evVar 1) evNil))) (sSeq (sSet 3 (evNew evNil)) (sSeq (sWhile 1000 MT MXB) (sRet (evVar 3))))) := rfl
    rw [be]
    have sw : ∀ (e : Ev) (S : Store), sWhile 1000 MT MXB e S = whD MT MXB 1000 e S := fun e S => rfl
    generalize hMT : MT = mt at *
    generalize hMX : MXB = mx at *
    generalize two M xs [] = S1 at *
    simp only [sSeq_e, sSet_e, sIf_e, sRet_e, sNop_e, sAsg_e, sExp_e, sFor_e, evTr_e, evC_e, ev2_e, evCall_e, evN_e, evCons_e, evNil_e, evTup_e, evLst_e, evAnd_e, evOr_e, evNot_e, evAndV_e, evOrV_e, evNotV_e, evIter_e, evRng_e, evM_e, evLc_e, u_var, List.getElem?_cons_zero, List.getElem?_cons_succ, List.set_cons_zero, List.set_cons_succ, List.length_cons, List.length_nil, Nat.reduceAdd, Nat.reduceLT, Nat.reduceLeDiff, bind_ok, bindN_ok, out_ok, then_nx, then_ret, then_exc, of_ok, tr_bl, itOf, sizeLine_eq, wipeD_cons, wipeD_nil, if_true, if_false, reduceIte, Bool.false_eq_true, Bool.true_eq_false, Bool.not_true, Bool.not_false, l1, l2, sw, w]
  have fz : frzD (two (M.set l o') [] ys) (.loc (M.length + 1)) = some (.lst ys, (two (M.set l o') [] ys).set (M.length + 1) none) := by
    have g : (two (M.set l o') [] ys)[M.length + 1]? = some (some (.lst ys)) := by
      have := two_b (B := M.set l o') (L := []) (F := ys)
      simpa using this
    unfold frzD
    simp only [g]
  have z := run_frz (n := 4) (ds := [.loc l, .lst xs]) b fz
  have t : ((two (M.set l o') [] ys).set (M.length + 1) none).take M.length = M.set l o' := by
    have := set_b (B := M.set l o') (L := []) (F := ys) (o := none)
    rw [List.length_set] at this
    rw [this, List.take_append_of_le_length (by simp), List.take_of_length_le (by simp)]
  rw [t] at z
  exact z
end
end Hd

set_option Elab.async false
set_option linter.all false
set_option maxRecDepth 100000
/-! rows of bits that are linked -/
namespace Hd
theorem Lk.trans {rows : List (List Nat)} {r s t : List Nat} (h : Lk rows r s) (h2 : Lk rows s t) : Lk rows r t := by
  induction h2 with
  | refl _ => exact h
  | step _ m u ih => exact .step ih m u
theorem Lk.mono {rows rows' : List (List Nat)} (sub : ∀ x ∈ rows, x ∈ rows') {r s : List Nat} (h : Lk rows r s) : Lk rows' r s := by
  induction h with
  | refl m => exact .refl (sub _ m)
  | step _ m u ih => exact .step ih (sub _ m) u
theorem Lk.symm {rows : List (List Nat)} {w : Nat} (hl : ∀ r ∈ rows, r.length = w) {r s : List Nat} (hr : r ∈ rows) (h : Lk rows r s) : Lk rows s r := by
  induction h with
  | refl m => exact .refl m
  | @step s t hs ht hu ih =>
    have hs' := hs.mem
    exact Lk.trans (.step (.refl ht) hs' (by rw [unl_symm (by rw [hl _ ht, hl _ hs'])]; exact hu)) ih
def chainB (rows : List (List Nat)) : Bool := (List.range rows.length).all fun i => decide (i = 0) || (List.range i).any fun j => decide (unl (rows.getD j []) (rows.getD i []) = 1)
theorem getD_mem {rows : List (List Nat)} {i : Nat} (h : i < rows.length) : rows.getD i [] ∈ rows := by
  have e : rows.getD i [] = rows[i] := by rw [List.getD_eq_getElem?_getD, List.getElem?_eq_getElem h]; rfl
  rw [e]; exact List.getElem_mem h
theorem mem_getD {rows : List (List Nat)} {r : List Nat} (h : r ∈ rows) : ∃ i, i < rows.length ∧ rows.getD i [] = r := by
  obtain ⟨i, hi, e⟩ := List.getElem_of_mem h
  exact ⟨i, hi, by rw [List.getD_eq_getElem?_getD, List.getElem?_eq_getElem hi]; exact e⟩
theorem chain_link {rows : List (List Nat)} (h : chainB rows = true) (h0 : 0 < rows.length) : ∀ i, i < rows.length → Lk rows (rows.getD 0 []) (rows.getD i []) := by
  intro i
  induction i using Nat.strongRecOn with
  | _ i ih =>
    intro hi
    have := List.all_eq_true.mp h i (List.mem_range.mpr hi)
    simp only [Bool.or_eq_true, decide_eq_true_eq, List.any_eq_true, List.mem_range] at this
    rcases this with rfl | ⟨j, hj, u⟩
    · exact .refl (getD_mem hi)
    · exact .step (ih j hj (by omega)) (getD_mem hi) u
theorem good_chain {w : Nat} {rows : List (List Nat)} (len : ∀ r ∈ rows, r.length = w) (bit : ∀ r ∈ rows, ∀ b ∈ r, b ≤ 1) (nd : rows.Nodup) (pos : 1 ≤ rows.length) (few : rows.length ≤ 8) (thin : w ≤ rows.length) (h : chainB rows = true) : GoodR w rows :=
  ⟨len, bit, nd, fun r hr s hs => by
    obtain ⟨i, hi, rfl⟩ := mem_getD hr
    obtain ⟨j, hj, rfl⟩ := mem_getD hs
    exact ((chain_link h (by omega) i hi).symm len (getD_mem (by omega))).trans (chain_link h (by omega) j hj), pos, few, thin⟩
theorem good_perm {w : Nat} {rows rows' : List (List Nat)} (g : GoodR w rows) (p : rows'.Perm rows) : GoodR w rows' :=
  ⟨fun r h => g.len r (p.mem_iff.mp h), fun r h => g.bit r (p.mem_iff.mp h), p.nodup_iff.mpr g.nd, fun r hr s hs => (g.link r (p.mem_iff.mp hr) s (p.mem_iff.mp hs)).mono fun x hx => p.mem_iff.mpr hx, by rw [p.length_eq]; exact g.pos, by rw [p.length_eq]; exact g.few, by rw [p.length_eq]; exact g.thin⟩
abbrev ringR : List (List Nat) := [[0, 0, 0], [1, 0, 0], [1, 1, 0], [1, 1, 1], [0, 1, 1], [0, 0, 1]]
abbrev wideR : List (List Nat) := [[0, 0, 0, 0], [1, 0, 0, 0], [1, 1, 0, 0], [1, 1, 1, 0], [1, 1, 1, 1], [0, 1, 1, 1], [0, 0, 1, 1], [0, 0, 0, 1]]
abbrev cubeR : List (List Nat) := [[0, 0, 1], [0, 1, 0], [0, 1, 1], [1, 0, 0], [1, 0, 1], [1, 1, 0], [1, 1, 1]]
abbrev cubeS : List (List Nat) := [[0, 0, 1], [0, 1, 1], [0, 1, 0], [1, 1, 0], [1, 0, 0], [1, 0, 1], [1, 1, 1]]
abbrev oneR : List (List Nat) := [[]]
theorem ring_good : GoodR 3 ringR := good_chain (by decide) (by decide) (by decide) (by decide) (by decide) (by decide) (by decide +kernel)
theorem wide_good : GoodR 4 wideR := good_chain (by decide) (by decide) (by decide) (by decide) (by decide) (by decide) (by decide +kernel)
theorem cubeS_good : GoodR 3 cubeS := good_chain (by decide) (by decide) (by decide) (by decide) (by decide) (by decide) (by decide +kernel)
theorem cube_good : GoodR 3 cubeR := good_perm cubeS_good (by decide)
theorem one_good : GoodR 0 oneR := good_chain (by decide) (by decide) (by decide) (by decide) (by decide) (by decide) (by decide +kernel)
/-! ### one bit more -/
theorem range_cons (n : Nat) : List.range (n + 1) = 0 :: (List.range n).map (· + 1) := by
  rw [List.range_succ_eq_map]
theorem filter_len {α β : Type} (f : α → β) (P : β → Bool) (l : List α) : ((l.map f).filter P).length = (l.filter (P ∘ f)).length := by
  rw [List.filter_map, List.length_map]
theorem unl_cons {a b : Nat} {r s : List Nat} : unl (a :: r) (b :: s) = (if a = b then 0 else 1) + unl r s := by
  unfold unl
  rw [List.length_cons, range_cons, List.filter_cons, List.getD_cons_zero, List.getD_cons_zero]
  have e : ((List.map (fun x => x + 1) (List.range r.length)).filter fun k => !decide ((a :: r).getD k 0 = (b :: s).getD k 0)).length = ((List.range r.length).filter fun k => !decide (r.getD k 0 = s.getD k 0)).length := by
    rw [filter_len]; rfl
  by_cases h : a = b
  · rw [if_neg (by simp [h]), e, if_pos h]; omega
  · rw [if_pos (by simp [h]), List.length_cons, e, if_neg h]; omega
theorem unl_zero : ∀ {r s : List Nat}, r.length = s.length → unl r s = 0 → r = s
  | [], [], _, _ => rfl
  | [], _ :: _, h, _ => by simp at h
  | _ :: _, [], h, _ => by simp at h
  | a :: r, b :: s, h, u => by
    rw [unl_cons] at u
    have h1 : a = b := by
      by_cases c : a = b
      · exact c
      · rw [if_neg c] at u; omega
    have h2 : r = s := unl_zero (by simpa using h) (by omega)
    rw [h1, h2]
theorem good_step {w : Nat} {rows lot : List (List Nat)} (g : GoodR w rows) (hs : ∀ r ∈ lot, r ∈ rows) (nd : lot.Nodup) (h1 : 1 ≤ lot.length) (h8 : rows.length + lot.length ≤ 8) : GoodR (w + 1) (rows.map (0 :: ·) ++ lot.map (1 :: ·)) := by
  have m0 : ∀ {r}, r ∈ rows → 0 :: r ∈ rows.map (0 :: ·) ++ lot.map (1 :: ·) := fun h => List.mem_append_left _ (List.mem_map_of_mem h)
  have m1 : ∀ {r}, r ∈ lot → 1 :: r ∈ rows.map (0 :: ·) ++ lot.map (1 :: ·) := fun h => List.mem_append_right _ (List.mem_map_of_mem h)
  have up : ∀ {r s}, Lk rows r s → Lk (rows.map (0 :: ·) ++ lot.map (1 :: ·)) (0 :: r) (0 :: s) := fun h => by
    induction h with
    | refl m => exact .refl (m0 m)
    | step _ m u ih => exact .step ih (m0 m) (by rw [unl_cons, if_pos rfl, u])
  have len : ∀ r ∈ rows.map (0 :: ·) ++ lot.map (1 :: ·), r.length = w + 1 := fun r hr => by
    rcases List.mem_append.mp hr with h | h
    · obtain ⟨s, hs', rfl⟩ := List.mem_map.mp h
      simp [g.len s hs']
    · obtain ⟨s, hs', rfl⟩ := List.mem_map.mp h
      simp [g.len s (hs s hs')]
  have low : ∀ r ∈ rows.map (0 :: ·) ++ lot.map (1 :: ·), ∃ s ∈ rows, Lk (rows.map (0 :: ·) ++ lot.map (1 :: ·)) (0 :: s) r := fun r hr => by
    rcases List.mem_append.mp hr with h | h
    · obtain ⟨s, hs', rfl⟩ := List.mem_map.mp h
      exact ⟨s, hs', .refl (m0 hs')⟩
    · obtain ⟨s, hs', rfl⟩ := List.mem_map.mp h
      exact ⟨s, hs s hs', .step (.refl (m0 (hs s hs'))) (m1 hs') (by rw [unl_cons, unl_self]; simp)⟩
  refine ⟨len, fun r hr b hb => ?_, ?_, fun r hr s hs' => ?_, by simp; have := g.pos; omega, by simp; omega, by simp; have := g.thin; omega⟩
  · rcases List.mem_append.mp hr with h | h
    · obtain ⟨s, hs', rfl⟩ := List.mem_map.mp h
      rcases List.mem_cons.mp hb with rfl | hb
      · omega
      · exact g.bit s hs' b hb
    · obtain ⟨s, hs', rfl⟩ := List.mem_map.mp h
      rcases List.mem_cons.mp hb with rfl | hb
      · omega
      · exact g.bit s (hs s hs') b hb
  · rw [List.nodup_append]
    refine ⟨List.pairwise_map.mpr (g.nd.imp fun ne e => ne (List.cons.inj e).2), List.pairwise_map.mpr (nd.imp fun ne e => ne (List.cons.inj e).2), fun a ha b hb e => ?_⟩
    obtain ⟨s, _, rfl⟩ := List.mem_map.mp ha
    obtain ⟨t, _, rfl⟩ := List.mem_map.mp hb
    have := (List.cons.inj e).1
    omega
  · obtain ⟨a, ha, la⟩ := low r hr
    obtain ⟨b, hb, lb⟩ := low s hs'
    exact ((la.symm len (m0 ha)).trans (up (g.link a ha b hb))).trans lb
/-! ### turned, and in another order -/
def tb (a t : Nat) : Nat := if a = t then 0 else 1
def phi (order turned r : List Nat) : List Nat := order.map fun k => tb (r.getD k 0) (turned.getD k 0)
theorem map_getD (l : List Nat) : l = (List.range l.length).map fun i => l.getD i 0 := by
  refine List.ext_getElem? fun i => ?_
  by_cases h : i < l.length
  · simp [h, List.getD_eq_getElem?_getD]
  · rw [List.getElem?_eq_none (by omega), List.getElem?_eq_none (by simp; omega)]
theorem phi_unl {w : Nat} {order turned r s : List Nat} (po : order.Perm (List.range w)) (hr : r.length = w) (hs : s.length = w) (br : ∀ b ∈ r, b ≤ 1) (bs : ∀ b ∈ s, b ≤ 1) (bt : ∀ k, turned.getD k 0 ≤ 1) : unl (phi order turned r) (phi order turned s) = unl r s := by
  have gb : ∀ {l : List Nat}, (∀ b ∈ l, b ≤ 1) → ∀ k, l.getD k 0 ≤ 1 := fun {l} h k => by
    rw [List.getD_eq_getElem?_getD]
    cases e : l[k]? with
    | none => simp
    | some b => exact h b (List.mem_of_getElem? e)
  let P : Nat → Bool := fun k => !decide (r.getD k 0 = s.getD k 0)
  have e1 : unl (phi order turned r) (phi order turned s) = (order.filter P).length := by
    unfold unl
    have le : (phi order turned r).length = order.length := by simp [phi]
    rw [le]
    conv => rhs; rw [map_getD order]
    rw [filter_len]
    congr 1
    refine List.filter_congr fun i hi => ?_
    have hi' := List.mem_range.mp hi
    have g1 : ∀ z : List Nat, (phi order turned z).getD i 0 = tb (z.getD (order.getD i 0) 0) (turned.getD (order.getD i 0) 0) := fun z => by
      unfold phi
      rw [List.getD_eq_getElem?_getD, List.getElem?_map, List.getD_eq_getElem?_getD (l := order), List.getElem?_eq_getElem hi']
      rfl
    rw [g1, g1]
    show _ = !decide (r.getD (order.getD i 0) 0 = s.getD (order.getD i 0) 0)
    have a := gb br (order.getD i 0)
    have b := gb bs (order.getD i 0)
    have c := bt (order.getD i 0)
    congr 1
    refine decide_eq_decide.mpr ?_
    unfold tb
    split <;> split <;> omega
  have e2 : unl r s = ((List.range w).filter P).length := by
    unfold unl
    rw [hr]
  rw [e1, e2]
  exact (po.filter P).length_eq
theorem good_phi {w : Nat} {rows : List (List Nat)} {order turned : List Nat} (g : GoodR w rows) (po : order.Perm (List.range w)) (bt : ∀ k, turned.getD k 0 ≤ 1) : GoodR w (rows.map (phi order turned)) := by
  have lo : order.length = w := by rw [po.length_eq, List.length_range]
  have pu : ∀ {r s}, r ∈ rows → s ∈ rows → unl (phi order turned r) (phi order turned s) = unl r s := fun {r s} hr hs => phi_unl po (g.len r hr) (g.len s hs) (g.bit r hr) (g.bit s hs) bt
  have up : ∀ {r s}, r ∈ rows → Lk rows r s → Lk (rows.map (phi order turned)) (phi order turned r) (phi order turned s) := fun hr h => by
    induction h with
    | refl m => exact .refl (List.mem_map_of_mem m)
    | @step s t hs m u ih => exact .step ih (List.mem_map_of_mem m) (by rw [pu hs.mem m]; exact u)
  refine ⟨fun r hr => ?_, fun r hr b hb => ?_, ?_, fun r hr s hs => ?_, by rw [List.length_map]; exact g.pos, by rw [List.length_map]; exact g.few, by rw [List.length_map]; exact g.thin⟩
  · obtain ⟨s, _, rfl⟩ := List.mem_map.mp hr
    simp [phi, lo]
  · obtain ⟨s, _, rfl⟩ := List.mem_map.mp hr
    unfold phi at hb
    obtain ⟨k, _, rfl⟩ := List.mem_map.mp hb
    unfold tb
    split <;> omega
  · refine List.pairwise_map.mpr (g.nd.imp_of_mem fun {r s} hr hs ne e => ne ?_)
    have := pu hr hs
    rw [e, unl_self] at this
    exact unl_zero (by rw [g.len r hr, g.len s hs]) this.symm
  · obtain ⟨a, ha, rfl⟩ := List.mem_map.mp hr
    obtain ⟨b, hb, rfl⟩ := List.mem_map.mp hs
    exact up ha (g.link a ha b hb)
end Hd

set_option Elab.async false
set_option linter.all false
set_option maxRecDepth 100000
namespace Hd
open Mi PySem PySem.Spec PyProof.Rows L2
section
variable {M : Store} {x : D} {env : Ev}
/-! ### _law_lying -/
theorem eq_zero {a : Nat} : opEq (natD a) (.int 0) M = .ok (.bl (decide (a = 0))) M := eq_nat (b := 0)
theorem gt_zero {a : Nat} : opGt (natD a) (.int 0) M = .ok (.bl (decide (0 < a))) M := by
  rw [Mi.gt_int]
  congr 2
  by_cases h : 0 < a
  · simp [h]
  · have : ¬ (0 : Int) < (a : Int) := by omega
    simp [h, this]
theorem len_rows {rows : List (List Nat)} : biLen [.lst (rows.map rowD)] M = .ok (natD rows.length) M := by simp [biLen, seqOf, Mi.listOf]
theorem py_natL : ∀ l : List Nat, PyL (l.map natD) := fun l x hx => by
  obtain ⟨v, _, rfl⟩ := List.mem_map.mp hx
  exact ⟨.int (v : Int), rfl, rfl, by simp [PyData.depth]⟩
theorem py_rowL (rows : List (List Nat)) : PyL (rows.map rowD) := fun x hx => by
  obtain ⟨r, _, rfl⟩ := List.mem_map.mp hx
  obtain ⟨ps, p1, p2, p3, p4⟩ := pys_of (py_natL r)
  refine ⟨.tuple ps, by simp [rowD, toPy, p1], by simp [PyData.canLay0, p3], ?_⟩
  have d0 : ∀ l : List Nat, ∃ ps, toPys (l.map natD) = some ps ∧ PyData.depthAll ps = 0 := fun l => by
    induction l with
    | nil => exact ⟨[], rfl, by simp [PyData.depthAll]⟩
    | cons a l ih =>
      obtain ⟨qs, a1, a2⟩ := ih
      exact ⟨.int (a : Int) :: qs, by simp [toPys, toPy, a1], by simp [PyData.depthAll, PyData.depth, a2]⟩
  obtain ⟨qs, q1, q2⟩ := d0 r
  rw [p1] at q1
  have := Option.some.inj q1
  subst this
  simp [PyData.depth, q2]
theorem pure_rows : ∀ rows : List (List Nat), pureDs (rows.map rowD) = true
  | [] => rfl
  | r :: rows => by simp only [List.map_cons, pureDs, pureD, pure_nats, pure_rows rows, Bool.and_self]
theorem eq_nilN {l : List Nat} : opEq (.lst (l.map natD)) (.lst []) M = .ok (.bl l.isEmpty) M := by
  obtain ⟨ps, p1, p2, p3, p4⟩ := pys_of (py_natL l)
  have e1 : toPyM M (.lst (l.map natD)) = some (.list ps) := by simp [toPyM, toPy, p1]
  have e2 : toPyM M (.lst []) = some (.list []) := rfl
  have e3 : PyData.eqv (.list ps) (.list []) = l.isEmpty := by
    rw [List.length_map] at p2
    cases ps with
    | nil =>
      cases l with
      | nil => simp [PyData.eqv, PyData.eqvAll]
      | cons a b => simp at p2
    | cons a b =>
      cases l with
      | nil => simp at p2
      | cons c d => simp [PyData.eqv, PyData.eqvAll]
  simp [opEq, eqDs, e1, e2, shaped_l p3 p4, shaped_nil, e3]
/-- numbers that stay by draws -/
theorem kept_ok {l j : Nat} {o : Option Ob} {env : Ev} {w : Nat} (hj : j < env.length) (h0 : (env[0]?) = some (some (.loc l))) (hj0 : j ≠ 0) (hM : M[l]? = some o) (ho : PenO o) (hw : w ≤ 100) :
    ∃ (ks : List Nat) (o' : Option Ob), (∀ k ∈ ks, k < w) ∧ ks.length ≤ w ∧ PenO o' ∧ lcD (.nm j) (evTr (ev2 opEq (evCall d__law_draw (evCons (evVar 0) (evCons (evC (.int 2)) evNil))) (evC (.int 0)))) (evVar j) ((List.range w).map natD) [] env M = .ok (ks.map natD) (M.set l o') := by
  obtain ⟨outs, o', s1, p1, e1⟩ := lc_filter (l := l) (j := j) (fi := evTr (ev2 opEq (evCall d__law_draw (evCons (evVar 0) (evCons (evC (.int 2)) evNil))) (evC (.int 0)))) (env := env) hj ((List.range w).map natD) [] M o hM ho
    (fun x _ M o hM ho => by
      obtain ⟨r, o', r1, p, e⟩ := drawK (m := 2) hM ho (by omega) (by omega)
      have z2 : (natD 2 : D) = .int 2 := rfl
      rw [z2] at e
      refine ⟨decide (r = 0), o', p, ?_⟩
      have ev : (env.set j (some x))[0]? = some (some (.loc l)) := by
        rw [List.getElem?_set_ne hj0]; exact h0
      have eq := eq_zero (M := M.set l o') (a := r)
      simp only [evTr_e, ev2_e, evCall_e, evCons_e, evNil_e, evC_e, bind_ok, evVar_e ev, e, eq, tr_bl, of_ok]) (by simp; omega)
  obtain ⟨ks, k1, rfl⟩ := List.sublist_map_iff.mp s1
  refine ⟨ks, o', fun k hk => List.mem_range.mp (k1.subset hk), ?_, p1, by rw [List.nil_append] at e1; exact e1⟩
  have := k1.length_le
  rwa [List.length_range] at this
abbrev LE (l : Nat) (a2 a3 a4 : Option D) (rows : List (List Nat)) (a8 a9 a10 a11 a12 a13 a14 : Option D) : Ev := [some (.loc l), some (.int 8), a2, a3, a4, some (.lst (rows.map rowD)), none, none, a8, a9, a10, a11, a12, a13, a14]
abbrev LT : Ev → Store → Res Bool := (evAnd (evTr (ev2 opLt (evN biLen (evCons (evVar 5) evNil)) (evVar 1))) (evTr (ev2 opGt (evCall d__law_draw (evCons (evVar 0) (evCons (evC (.int 7)) evNil))) (evC (.int 0)))))
abbrev L9 : Ev → Store → Res D := (evLc (.nm 12) [12] (evRng rng1 (evCons (evN biLen (evCons (evVar 8) evNil)) evNil)) (evTr (ev2 opEq (evCall d__law_draw (evCons (evVar 0) (evCons (evC (.int 2)) evNil))) (evC (.int 0)))) (evVar 12))
abbrev I10 : Ev → Store → Res D := (evLc (.nm 12) [12] (evIter (evVar 9)) (evTr (ev2 opNe (ev2 opIx (evVar 14) (evVar 12)) (ev2 opIx (evVar 8) (evVar 12)))) (evVar 12))
abbrev L10 : Ev → Store → Res D := (evLc (.nm 14) [14] (evIter (evVar 5)) (evTr (ev2 opEq I10 (evLst evNil))) (evVar 14))
abbrev L5a : Ev → Store → Res D := (evLc (.nm 14) [14] (evIter (evVar 5)) evYes (ev2 opAdd (evTup (evCons (evC (.int 0)) evNil)) (evVar 14)))
abbrev L5b : Ev → Store → Res D := (evLc (.nm 14) [14] (evIter (evVar 10)) evYes (ev2 opAdd (evTup (evCons (evC (.int 1)) evNil)) (evVar 14)))
abbrev LB : Ev → Store → Out := (sSeq (sSet 8 (ev2 opIx (evVar 5) (evCall d__law_draw (evCons (evVar 0) (evCons (evN biLen (evCons (evVar 5) evNil)) evNil))))) (sSeq (sSet 9 L9) (sSeq (sSet 10 L10) (sSeq (sIf (evTr (ev2 opGt (ev2 opAdd (evN biLen (evCons (evVar 5) evNil)) (evN biLen (evCons (evVar 10) evNil))) (evVar 1))) (sSet 10 (evLst (evCons (evVar 8) evNil))) sNop) (sSet 5 (ev2 opAdd L5a L5b))))))
def samB (row : List Nat) (ks : List Nat) (s : List Nat) : Bool := (ks.filter fun k => !decide (s.getD k 0 = row.getD k 0)).isEmpty
theorem l10_ok {l w : Nat} {a2 a3 a4 a10 a11 a12 a13 a14 : Option D} {rows : List (List Nat)} {row ks : List Nat} (g : GoodR w rows) (hr : row ∈ rows) (hk : ∀ k ∈ ks, k < w) (hl : ks.length ≤ 100) :
    L10 (LE l a2 a3 a4 rows (some (rowD row)) (some (.lst (ks.map natD))) a10 a11 a12 a13 a14) M = .ok (.lst ((rows.filter (samB row ks)).map rowD)) M := by
  have lr := g.len row hr
  have inner : ∀ s ∈ rows, I10 (LE l a2 a3 a4 rows (some (rowD row)) (some (.lst (ks.map natD))) a10 a11 a12 a13 (some (rowD s))) M = .ok (.lst ((ks.filter fun k => !decide (s.getD k 0 = row.getD k 0)).map natD)) M := fun s hs => by
    have ls := g.len s hs
    have lc := lc_fm (M := M) (p := .nm 12) (test := evTr (ev2 opNe (ev2 opIx (evVar 14) (evVar 12)) (ev2 opIx (evVar 8) (evVar 12)))) (fe := evVar 12) natD natD (fun k => !decide (s.getD k 0 = row.getD k 0)) (env := LE l a2 a3 a4 rows (some (rowD row)) (some (.lst (ks.map natD))) a10 a11 none a13 (some (rowD s))) ks [] (fun k hm => by
      have hk' := hk k hm
      have i1 := ix_rowD (M := M) (r := s) (k := k) (by omega)
      have i2 := ix_rowD (M := M) (r := row) (k := k) (by omega)
      have ne := ne_nat (M := M) (a := s.getD k 0) (b := row.getD k 0)
      refine ⟨LE l a2 a3 a4 rows (some (rowD row)) (some (.lst (ks.map natD))) a10 a11 (some (natD k)) a13 (some (rowD s)), by simp [asgP], ?_, fun _ => by simp only [sSeq_e, sSet_e, sIf_e, sRet_e, sNop_e, sAsg_e, sExp_e, sFor_e, evTr_e, evC_e, ev2_e, evCall_e, evN_e, evCons_e, evNil_e, evTup_e, evLst_e, evAnd_e, evOr_e, evNot_e, evAndV_e, evOrV_e, evNotV_e, evIter_e, evRng_e, evM_e, evLc_e, u_var, List.getElem?_cons_zero, List.getElem?_cons_succ, List.set_cons_zero, List.set_cons_succ, List.length_cons, List.length_nil, Nat.reduceAdd, Nat.reduceLT, Nat.reduceLeDiff, bind_ok, bindN_ok, out_ok, then_nx, then_ret, then_exc, of_ok, tr_bl, itOf, sizeLine_eq, wipeD_cons, wipeD_nil, if_true, if_false, reduceIte, Bool.false_eq_true, Bool.true_eq_false, Bool.not_true, Bool.not_false]⟩
      unfold LE
      generalize rows.map rowD = rl at *
      generalize ks.map natD = kl at *
      generalize rowD s = s_ at *
      generalize rowD row = r_ at *
      simp only [sSeq_e, sSet_e, sIf_e, sRet_e, sNop_e, sAsg_e, sExp_e, sFor_e, evTr_e, evC_e, ev2_e, evCall_e, evN_e, evCons_e, evNil_e, evTup_e, evLst_e, evAnd_e, evOr_e, evNot_e, evAndV_e, evOrV_e, evNotV_e, evIter_e, evRng_e, evM_e, evLc_e, u_var, List.getElem?_cons_zero, List.getElem?_cons_succ, List.set_cons_zero, List.set_cons_succ, List.length_cons, List.length_nil, Nat.reduceAdd, Nat.reduceLT, Nat.reduceLeDiff, bind_ok, bindN_ok, out_ok, then_nx, then_ret, then_exc, of_ok, tr_bl, itOf, sizeLine_eq, wipeD_cons, wipeD_nil, if_true, if_false, reduceIte, Bool.false_eq_true, Bool.true_eq_false, Bool.not_true, Bool.not_false, i1, i2, ne]) (by simp; omega)
    rw [List.nil_append] at lc
    unfold I10 LE at *
    generalize rows.map rowD = rl at *
    generalize (ks.filter fun k => !decide (s.getD k 0 = row.getD k 0)).map natD = fl at *
    generalize ks.map natD = kl at *
    generalize rowD s = s_ at *
    generalize rowD row = r_ at *
    simp only [sSeq_e, sSet_e, sIf_e, sRet_e, sNop_e, sAsg_e, sExp_e, sFor_e, evTr_e, evC_e, ev2_e, evCall_e, evN_e, evCons_e, evNil_e, evTup_e, evLst_e, evAnd_e, evOr_e, evNot_e, evAndV_e, evOrV_e, evNotV_e, evIter_e, evRng_e, evM_e, evLc_e, u_var, List.getElem?_cons_zero, List.getElem?_cons_succ, List.set_cons_zero, List.set_cons_succ, List.length_cons, List.length_nil, Nat.reduceAdd, Nat.reduceLT, Nat.reduceLeDiff, bind_ok, bindN_ok, out_ok, then_nx, then_ret, then_exc, of_ok, tr_bl, itOf, sizeLine_eq, wipeD_cons, wipeD_nil, if_true, if_false, reduceIte, Bool.false_eq_true, Bool.true_eq_false, Bool.not_true, Bool.not_false, lc]
  have lc := lc_fm (M := M) (p := .nm 14) (test := evTr (ev2 opEq I10 (evLst evNil))) (fe := evVar 14) rowD rowD (samB row ks) (env := LE l a2 a3 a4 rows (some (rowD row)) (some (.lst (ks.map natD))) a10 a11 a12 a13 none) rows [] (fun s hs => by
    have i := inner s hs
    have eq := eq_nilN (M := M) (l := ks.filter fun k => !decide (s.getD k 0 = row.getD k 0))
    refine ⟨LE l a2 a3 a4 rows (some (rowD row)) (some (.lst (ks.map natD))) a10 a11 a12 a13 (some (rowD s)), by simp [asgP], ?_, fun _ => by simp only [sSeq_e, sSet_e, sIf_e, sRet_e, sNop_e, sAsg_e, sExp_e, sFor_e, evTr_e, evC_e, ev2_e, evCall_e, evN_e, evCons_e, evNil_e, evTup_e, evLst_e, evAnd_e, evOr_e, evNot_e, evAndV_e, evOrV_e, evNotV_e, evIter_e, evRng_e, evM_e, evLc_e, u_var, List.getElem?_cons_zero, List.getElem?_cons_succ, List.set_cons_zero, List.set_cons_succ, List.length_cons, List.length_nil, Nat.reduceAdd, Nat.reduceLT, Nat.reduceLeDiff, bind_ok, bindN_ok, out_ok, then_nx, then_ret, then_exc, of_ok, tr_bl, itOf, sizeLine_eq, wipeD_cons, wipeD_nil, if_true, if_false, reduceIte, Bool.false_eq_true, Bool.true_eq_false, Bool.not_true, Bool.not_false]⟩
    unfold LE at *
    generalize hI : I10 = i10 at *
    unfold samB
    generalize (ks.filter fun k => !decide (s.getD k 0 = row.getD k 0)).isEmpty = eb at *
    generalize (ks.filter fun k => !decide (s.getD k 0 = row.getD k 0)).map natD = fl at *
    generalize rows.map rowD = rl at *
    generalize ks.map natD = kl at *
    simp only [sSeq_e, sSet_e, sIf_e, sRet_e, sNop_e, sAsg_e, sExp_e, sFor_e, evTr_e, evC_e, ev2_e, evCall_e, evN_e, evCons_e, evNil_e, evTup_e, evLst_e, evAnd_e, evOr_e, evNot_e, evAndV_e, evOrV_e, evNotV_e, evIter_e, evRng_e, evM_e, evLc_e, u_var, List.getElem?_cons_zero, List.getElem?_cons_succ, List.set_cons_zero, List.set_cons_succ, List.length_cons, List.length_nil, Nat.reduceAdd, Nat.reduceLT, Nat.reduceLeDiff, bind_ok, bindN_ok, out_ok, then_nx, then_ret, then_exc, of_ok, tr_bl, itOf, sizeLine_eq, wipeD_cons, wipeD_nil, if_true, if_false, reduceIte, Bool.false_eq_true, Bool.true_eq_false, Bool.not_true, Bool.not_false, i, eq, Nat.zero_le]) (by have := g.few; simp; omega)
  rw [List.nil_append] at lc
  unfold L10 LE at *
  generalize hI : I10 = i10 at *
  generalize (rows.filter (samB row ks)).map rowD = fl at *
  generalize rows.map rowD = rl at *
  simp only [sSeq_e, sSet_e, sIf_e, sRet_e, sNop_e, sAsg_e, sExp_e, sFor_e, evTr_e, evC_e, ev2_e, evCall_e, evN_e, evCons_e, evNil_e, evTup_e, evLst_e, evAnd_e, evOr_e, evNot_e, evAndV_e, evOrV_e, evNotV_e, evIter_e, evRng_e, evM_e, evLc_e, u_var, List.getElem?_cons_zero, List.getElem?_cons_succ, List.set_cons_zero, List.set_cons_succ, List.length_cons, List.length_nil, Nat.reduceAdd, Nat.reduceLT, Nat.reduceLeDiff, bind_ok, bindN_ok, out_ok, then_nx, then_ret, then_exc, of_ok, tr_bl, itOf, sizeLine_eq, wipeD_cons, wipeD_nil, if_true, if_false, reduceIte, Bool.false_eq_true, Bool.true_eq_false, Bool.not_true, Bool.not_false, lc]
theorem cons_row {a : Nat} {r : List Nat} (h : r.length ≤ 100) : opAdd (.tup [natD a]) (rowD r) M = .ok (rowD (a :: r)) M := by
  rw [add_tup (by simp; omega)]; rfl
theorem l5a_ok {l w : Nat} {a2 a3 a4 a8 a9 a10 a11 a12 a13 a14 : Option D} {rows : List (List Nat)} (g : GoodR w rows) : L5a (LE l a2 a3 a4 rows a8 a9 a10 a11 a12 a13 a14) M = .ok (.lst ((rows.map (0 :: ·)).map rowD)) M := by
  have few := g.few
  have thin := g.thin
  have lc := lc_mapF (M := M) (p := .nm 14) (fe := ev2 opAdd (evTup (evCons (evC (.int 0)) evNil)) (evVar 14)) rowD (fun r => rowD (0 :: r)) (env := LE l a2 a3 a4 rows a8 a9 a10 a11 a12 a13 none) rows [] (fun r hr => by
    have c := cons_row (M := M) (a := 0) (r := r) (by rw [g.len r hr]; omega)
    have z0 : (natD 0 : D) = .int 0 := rfl
    rw [z0] at c
    refine ⟨LE l a2 a3 a4 rows a8 a9 a10 a11 a12 a13 (some (rowD r)), by simp [asgP], ?_⟩
    unfold LE
    generalize rowD (0 :: r) = r0 at *
    generalize rows.map rowD = rl at *
    generalize rowD r = r_ at *
    simp only [sSeq_e, sSet_e, sIf_e, sRet_e, sNop_e, sAsg_e, sExp_e, sFor_e, evTr_e, evC_e, ev2_e, evCall_e, evN_e, evCons_e, evNil_e, evTup_e, evLst_e, evAnd_e, evOr_e, evNot_e, evAndV_e, evOrV_e, evNotV_e, evIter_e, evRng_e, evM_e, evLc_e, u_var, List.getElem?_cons_zero, List.getElem?_cons_succ, List.set_cons_zero, List.set_cons_succ, List.length_cons, List.length_nil, Nat.reduceAdd, Nat.reduceLT, Nat.reduceLeDiff, bind_ok, bindN_ok, out_ok, then_nx, then_ret, then_exc, of_ok, tr_bl, itOf, sizeLine_eq, wipeD_cons, wipeD_nil, if_true, if_false, reduceIte, Bool.false_eq_true, Bool.true_eq_false, Bool.not_true, Bool.not_false, c]) (by simp; omega)
  rw [List.nil_append] at lc
  have e : rows.map (fun r => rowD (0 :: r)) = (rows.map (0 :: ·)).map rowD := by rw [List.map_map]; rfl
  rw [e] at lc
  unfold L5a LE at *
  generalize (rows.map (0 :: ·)).map rowD = rl2 at *
  generalize rows.map rowD = rl at *
  simp only [sSeq_e, sSet_e, sIf_e, sRet_e, sNop_e, sAsg_e, sExp_e, sFor_e, evTr_e, evC_e, ev2_e, evCall_e, evN_e, evCons_e, evNil_e, evTup_e, evLst_e, evAnd_e, evOr_e, evNot_e, evAndV_e, evOrV_e, evNotV_e, evIter_e, evRng_e, evM_e, evLc_e, u_var, List.getElem?_cons_zero, List.getElem?_cons_succ, List.set_cons_zero, List.set_cons_succ, List.length_cons, List.length_nil, Nat.reduceAdd, Nat.reduceLT, Nat.reduceLeDiff, bind_ok, bindN_ok, out_ok, then_nx, then_ret, then_exc, of_ok, tr_bl, itOf, sizeLine_eq, wipeD_cons, wipeD_nil, if_true, if_false, reduceIte, Bool.false_eq_true, Bool.true_eq_false, Bool.not_true, Bool.not_false, lc]
theorem l5b_ok {l w : Nat} {a2 a3 a4 a8 a9 a11 a12 a13 a14 : Option D} {rows lot : List (List Nat)} (g : GoodR w rows) (hs : ∀ r ∈ lot, r ∈ rows) (h8 : lot.length ≤ 8) : L5b (LE l a2 a3 a4 rows a8 a9 (some (.lst (lot.map rowD))) a11 a12 a13 a14) M = .ok (.lst ((lot.map (1 :: ·)).map rowD)) M := by
  have few := g.few
  have thin := g.thin
  have lc := lc_mapF (M := M) (p := .nm 14) (fe := ev2 opAdd (evTup (evCons (evC (.int 1)) evNil)) (evVar 14)) rowD (fun r => rowD (1 :: r)) (env := LE l a2 a3 a4 rows a8 a9 (some (.lst (lot.map rowD))) a11 a12 a13 none) lot [] (fun r hr => by
    have c := cons_row (M := M) (a := 1) (r := r) (by rw [g.len r (hs r hr)]; omega)
    have z0 : (natD 1 : D) = .int 1 := rfl
    rw [z0] at c
    refine ⟨LE l a2 a3 a4 rows a8 a9 (some (.lst (lot.map rowD))) a11 a12 a13 (some (rowD r)), by simp [asgP], ?_⟩
    unfold LE
    generalize rowD (1 :: r) = r0 at *
    generalize rows.map rowD = rl at *
    generalize lot.map rowD = ll at *
    generalize rowD r = r_ at *
    simp only [sSeq_e, sSet_e, sIf_e, sRet_e, sNop_e, sAsg_e, sExp_e, sFor_e, evTr_e, evC_e, ev2_e, evCall_e, evN_e, evCons_e, evNil_e, evTup_e, evLst_e, evAnd_e, evOr_e, evNot_e, evAndV_e, evOrV_e, evNotV_e, evIter_e, evRng_e, evM_e, evLc_e, u_var, List.getElem?_cons_zero, List.getElem?_cons_succ, List.set_cons_zero, List.set_cons_succ, List.length_cons, List.length_nil, Nat.reduceAdd, Nat.reduceLT, Nat.reduceLeDiff, bind_ok, bindN_ok, out_ok, then_nx, then_ret, then_exc, of_ok, tr_bl, itOf, sizeLine_eq, wipeD_cons, wipeD_nil, if_true, if_false, reduceIte, Bool.false_eq_true, Bool.true_eq_false, Bool.not_true, Bool.not_false, c]) (by simp; omega)
  rw [List.nil_append] at lc
  have e : lot.map (fun r => rowD (1 :: r)) = (lot.map (1 :: ·)).map rowD := by rw [List.map_map]; rfl
  rw [e] at lc
  unfold L5b LE at *
  generalize (lot.map (1 :: ·)).map rowD = rl2 at *
  generalize lot.map rowD = ll at *
  generalize rows.map rowD = rl at *
  simp only [sSeq_e, sSet_e, sIf_e, sRet_e, sNop_e, sAsg_e, sExp_e, sFor_e, evTr_e, evC_e, ev2_e, evCall_e, evN_e, evCons_e, evNil_e, evTup_e, evLst_e, evAnd_e, evOr_e, evNot_e, evAndV_e, evOrV_e, evNotV_e, evIter_e, evRng_e, evM_e, evLc_e, u_var, List.getElem?_cons_zero, List.getElem?_cons_succ, List.set_cons_zero, List.set_cons_succ, List.length_cons, List.length_nil, Nat.reduceAdd, Nat.reduceLT, Nat.reduceLeDiff, bind_ok, bindN_ok, out_ok, then_nx, then_ret, then_exc, of_ok, tr_bl, itOf, sizeLine_eq, wipeD_cons, wipeD_nil, if_true, if_false, reduceIte, Bool.false_eq_true, Bool.true_eq_false, Bool.not_true, Bool.not_false, lc]
theorem gt_8 {a b : Nat} : opGt (.int ((a : Int) + (b : Int))) (.int 8) M = .ok (.bl (decide (8 < a + b))) M := by
  rw [Mi.gt_int]
  congr 2
  by_cases h : 8 < a + b
  · have : (8 : Int) < (a : Int) + (b : Int) := by omega
    simp [h, this]
  · have : ¬ (8 : Int) < (a : Int) + (b : Int) := by omega
    simp [h, this]
theorem lb_ok {l w : Nat} {o : Option Ob} {a2 a3 a4 a8 a9 a10 a11 a12 a13 a14 : Option D} {rows : List (List Nat)} (g : GoodR w rows) (h7 : rows.length < 8) (hM : M[l]? = some o) (ho : PenO o) :
    ∃ rows' o' t8 t9 t10, GoodR (w + 1) rows' ∧ rows.length < rows'.length ∧ PenO o' ∧ LB (LE l a2 a3 a4 rows a8 a9 a10 a11 a12 a13 a14) M = .nx (LE l a2 a3 a4 rows' t8 t9 t10 a11 a12 a13 a14) (M.set l o') := by
  have pos := g.pos
  have thin := g.thin
  obtain ⟨r, o1, r1, p1, e1⟩ := drawK (m := rows.length) hM ho pos (by omega)
  have hM1 := get_set hM (y := o1)
  have hg : rows[r]? = some rows[r] := List.getElem?_eq_getElem r1
  have hr : rows[r] ∈ rows := List.getElem_mem r1
  generalize rows[r] = row at hg hr
  have lr := g.len row hr
  have ix := ix_map (M := M.set l o1) (f := rowD) hg
  obtain ⟨ks, o2, k1, k2, p2, e2⟩ := kept_ok (M := M.set l o1) (l := l) (j := 12) (env := LE l a2 a3 a4 rows (some (rowD row)) a9 a10 a11 none a13 a14) (w := w) (by simp) rfl (by omega) hM1 p1 (by omega)
  rw [List.set_set] at e2
  have lr1 := len_rows (M := M) (rows := rows)
  have lrow := len_rowD (M := M.set l o1) (r := row)
  rw [lr] at lrow
  have rgw := rg_n (M := M.set l o1) (n := w) (by omega)
  have e3 := l10_ok (M := M.set l o2) (l := l) (a2 := a2) (a3 := a3) (a4 := a4) (a10 := a10) (a11 := a11) (a12 := a12) (a13 := a13) (a14 := a14) g hr k1 (by omega)
  have rin : row ∈ rows.filter (samB row ks) := List.mem_filter.mpr ⟨hr, by simp [samB]⟩
  obtain ⟨lot, hl1, hl2, hl3, hl4, hlot⟩ : ∃ lot : List (List Nat), (∀ r ∈ lot, r ∈ rows) ∧ lot.Nodup ∧ 1 ≤ lot.length ∧ rows.length + lot.length ≤ 8 ∧ (if decide (8 < rows.length + (rows.filter (samB row ks)).length) = true then [row] else rows.filter (samB row ks)) = lot := by
    by_cases c : 8 < rows.length + (rows.filter (samB row ks)).length
    · exact ⟨[row], fun r h => by rw [List.mem_singleton.mp h]; exact hr, by simp, by simp, by simp; omega, by simp [c]⟩
    · exact ⟨rows.filter (samB row ks), fun r h => (List.mem_filter.mp h).1, g.nd.filter _, List.length_pos_of_mem rin, by omega, by simp [c]⟩
  have gs := good_step g hl1 hl2 hl3 hl4
  refine ⟨_, o2, some (rowD row), some (.lst (ks.map natD)), some (.lst (lot.map rowD)), gs, by simp; omega, p2, ?_⟩
  have lf := len_rows (M := M.set l o2) (rows := rows)
  have ll := len_rows (M := M.set l o2) (rows := rows.filter (samB row ks))
  have gt := gt_8 (M := M.set l o2) (a := rows.length) (b := (rows.filter (samB row ks)).length)
  have f1 := l5a_ok (M := M.set l o2) (l := l) (a2 := a2) (a3 := a3) (a4 := a4) (a8 := some (rowD row)) (a9 := some (.lst (ks.map natD))) (a10 := some (.lst (lot.map rowD))) (a11 := a11) (a12 := a12) (a13 := a13) (a14 := a14) g
  have f2 := l5b_ok (M := M.set l o2) (l := l) (a2 := a2) (a3 := a3) (a4 := a4) (a8 := some (rowD row)) (a9 := some (.lst (ks.map natD))) (a11 := a11) (a12 := a12) (a13 := a13) (a14 := a14) g hl1 (by omega)
  have ad := add_lst (M := M.set l o2) (xs := (rows.map (0 :: ·)).map rowD) (ys := (lot.map (1 :: ·)).map rowD) (by simp; omega)
  rw [← List.map_append] at ad
  have l9 : L9 (LE l a2 a3 a4 rows (some (rowD row)) a9 a10 a11 a12 a13 a14) (M.set l o1) = .ok (.lst (ks.map natD)) (M.set l o2) := by
    unfold L9 LE at *
    generalize rows.map rowD = rl at *
    generalize rowD row = r_ at *
    simp only [sSeq_e, sSet_e, sIf_e, sRet_e, sNop_e, sAsg_e, sExp_e, sFor_e, evTr_e, evC_e, ev2_e, evCall_e, evN_e, evCons_e, evNil_e, evTup_e, evLst_e, evAnd_e, evOr_e, evNot_e, evAndV_e, evOrV_e, evNotV_e, evIter_e, evRng_e, evM_e, evLc_e, u_var, List.getElem?_cons_zero, List.getElem?_cons_succ, List.set_cons_zero, List.set_cons_succ, List.length_cons, List.length_nil, Nat.reduceAdd, Nat.reduceLT, Nat.reduceLeDiff, bind_ok, bindN_ok, out_ok, then_nx, then_ret, then_exc, of_ok, tr_bl, itOf, sizeLine_eq, wipeD_cons, wipeD_nil, if_true, if_false, reduceIte, Bool.false_eq_true, Bool.true_eq_false, Bool.not_true, Bool.not_false, lrow, rgw, e2]
  have one : (if decide (8 < rows.length + (rows.filter (samB row ks)).length) = true then Out.nx (LE l a2 a3 a4 rows (some (rowD row)) (some (.lst (ks.map natD))) (some (.lst [rowD row])) a11 a12 a13 a14) (M.set l o2) else Out.nx (LE l a2 a3 a4 rows (some (rowD row)) (some (.lst (ks.map natD))) (some (.lst ((rows.filter (samB row ks)).map rowD))) a11 a12 a13 a14) (M.set l o2)) = Out.nx (LE l a2 a3 a4 rows (some (rowD row)) (some (.lst (ks.map natD))) (some (.lst (lot.map rowD))) a11 a12 a13 a14) (M.set l o2) := by
    rw [← hlot]
    split <;> rfl
  unfold LE at *
  unfold LB
  clear e2 rgw lrow
  generalize hL9 : L9 = l9f at *
  generalize hL10 : L10 = l10f at *
  generalize hLa : L5a = laf at *
  generalize hLb : L5b = lbf at *
  generalize decide (8 < rows.length + (rows.filter (samB row ks)).length) = cb at *
  generalize (rows.map (0 :: ·) ++ lot.map (1 :: ·)).map rowD = rn at *
  generalize (rows.map (0 :: ·)).map rowD = r0 at *
  generalize (lot.map (1 :: ·)).map rowD = r1 at *
  generalize (rows.filter (samB row ks)).map rowD = rf at *
  generalize lot.map rowD = lt at *
  generalize rows.map rowD = rl at *
  generalize ks.map natD = kl at *
  generalize rowD row = r_ at *
  generalize M.set l o2 = M2 at *
  generalize M.set l o1 = M1 at *
  rw [sSeq_e]
  simp only [sSeq_e, sSet_e, sIf_e, sRet_e, sNop_e, sAsg_e, sExp_e, sFor_e, evTr_e, evC_e, ev2_e, evCall_e, evN_e, evCons_e, evNil_e, evTup_e, evLst_e, evAnd_e, evOr_e, evNot_e, evAndV_e, evOrV_e, evNotV_e, evIter_e, evRng_e, evM_e, evLc_e, u_var, List.getElem?_cons_zero, List.getElem?_cons_succ, List.set_cons_zero, List.set_cons_succ, List.length_cons, List.length_nil, Nat.reduceAdd, Nat.reduceLT, Nat.reduceLeDiff, bind_ok, bindN_ok, out_ok, then_nx, then_ret, then_exc, of_ok, tr_bl, itOf, sizeLine_eq, wipeD_cons, wipeD_nil, if_true, if_false, reduceIte, Bool.false_eq_true, Bool.true_eq_false, Bool.not_true, Bool.not_false, lr1, e1, ix, l9, e3, lf, ll, Mi.add_int, gt]
  rw [one]
  simp only [sSeq_e, sSet_e, sIf_e, sRet_e, sNop_e, sAsg_e, sExp_e, sFor_e, evTr_e, evC_e, ev2_e, evCall_e, evN_e, evCons_e, evNil_e, evTup_e, evLst_e, evAnd_e, evOr_e, evNot_e, evAndV_e, evOrV_e, evNotV_e, evIter_e, evRng_e, evM_e, evLc_e, u_var, List.getElem?_cons_zero, List.getElem?_cons_succ, List.set_cons_zero, List.set_cons_succ, List.length_cons, List.length_nil, Nat.reduceAdd, Nat.reduceLT, Nat.reduceLeDiff, bind_ok, bindN_ok, out_ok, then_nx, then_ret, then_exc, of_ok, tr_bl, itOf, sizeLine_eq, wipeD_cons, wipeD_nil, if_true, if_false, reduceIte, Bool.false_eq_true, Bool.true_eq_false, Bool.not_true, Bool.not_false, f1, f2, ad]
end
end Hd

set_option Elab.async false
set_option linter.all false
set_option maxRecDepth 100000
namespace Hd
open Mi PySem PySem.Spec PyProof.Rows L2
section
variable {M : Store} {x : D} {env : Ev}
theorem lt_8 {a : Nat} : opLt (natD a) (.int 8) M = .ok (.bl (decide (a < 8))) M := by
  rw [Mi.lt_int]
  congr 2
  by_cases h : a < 8
  · have : (a : Int) < 8 := by omega
    simp [h, this]
  · have : ¬ (a : Int) < 8 := by omega
    simp [h, this]
theorem ly_while {l : Nat} {a2 a3 a4 a11 a12 a13 a14 : Option D} : ∀ (f : Nat) (w : Nat) (rows : List (List Nat)) (M : Store) (o : Option Ob) (a8 a9 a10 : Option D), GoodR w rows → 9 ≤ f + rows.length → M[l]? = some o → PenO o →
    ∃ w' rows' o' t8 t9 t10, GoodR w' rows' ∧ PenO o' ∧ whD LT LB f (LE l a2 a3 a4 rows a8 a9 a10 a11 a12 a13 a14) M = .nx (LE l a2 a3 a4 rows' t8 t9 t10 a11 a12 a13 a14) (M.set l o')
  | 0, w, rows, M, o, a8, a9, a10, g, hf, _, _ => by have := g.few; omega
  | f + 1, w, rows, M, o, a8, a9, a10, g, hf, hM, ho => by
    have ln := len_rows (M := M) (rows := rows)
    have l8 := lt_8 (M := M) (a := rows.length)
    by_cases c : rows.length < 8
    · obtain ⟨r, o1, r1, p1, e1⟩ := drawK (m := 7) hM ho (by omega) (by omega)
      have z7 : (natD 7 : D) = .int 7 := rfl
      rw [z7] at e1
      have gt := gt_zero (M := M.set l o1) (a := r)
      have t : LT (LE l a2 a3 a4 rows a8 a9 a10 a11 a12 a13 a14) M = .ok (decide (0 < r)) (M.set l o1) := by
        have c' : decide (rows.length < 8) = true := by simp [c]
        rw [c'] at l8
        unfold LE
        generalize rows.map rowD = rl at *
        generalize M.set l o1 = M1 at *
        simp only [sSeq_e, sSet_e, sIf_e, sRet_e, sNop_e, sAsg_e, sExp_e, sFor_e, evTr_e, evC_e, ev2_e, evCall_e, evN_e, evCons_e, evNil_e, evTup_e, evLst_e, evAnd_e, evOr_e, evNot_e, evAndV_e, evOrV_e, evNotV_e, evIter_e, evRng_e, evM_e, evLc_e, u_var, List.getElem?_cons_zero, List.getElem?_cons_succ, List.set_cons_zero, List.set_cons_succ, List.length_cons, List.length_nil, Nat.reduceAdd, Nat.reduceLT, Nat.reduceLeDiff, bind_ok, bindN_ok, out_ok, then_nx, then_ret, then_exc, of_ok, tr_bl, itOf, sizeLine_eq, wipeD_cons, wipeD_nil, if_true, if_false, reduceIte, Bool.false_eq_true, Bool.true_eq_false, Bool.not_true, Bool.not_false, ln, l8, e1, gt]
      by_cases hr : 0 < r
      · obtain ⟨rows', o2, t8, t9, t10, g', lt, p2, b⟩ := lb_ok (M := M.set l o1) (l := l) (a2 := a2) (a3 := a3) (a4 := a4) (a8 := a8) (a9 := a9) (a10 := a10) (a11 := a11) (a12 := a12) (a13 := a13) (a14 := a14) g c (get_set hM (y := o1)) p1
        rw [List.set_set] at b
        obtain ⟨w', rows'', o3, u8, u9, u10, g'', p3, ih⟩ := ly_while (l := l) (a2 := a2) (a3 := a3) (a4 := a4) (a11 := a11) (a12 := a12) (a13 := a13) (a14 := a14) f (w + 1) rows' (M.set l o2) o2 t8 t9 t10 g' (by omega) (get_set hM (y := o2)) p2
        rw [List.set_set] at ih
        refine ⟨w', rows'', o3, u8, u9, u10, g'', p3, ?_⟩
        have hd : decide (0 < r) = true := by simp [hr]
        simp only [whD, t, out_ok, hd, if_true, b]
        exact ih
      · refine ⟨w, rows, o1, a8, a9, a10, g, p1, ?_⟩
        have hd : decide (0 < r) = false := by simp [hr]
        simp only [whD, t, out_ok, hd, Bool.false_eq_true, if_false]
    · refine ⟨w, rows, o, a8, a9, a10, g, ho, ?_⟩
      have t : LT (LE l a2 a3 a4 rows a8 a9 a10 a11 a12 a13 a14) M = .ok false M := by
        have c' : decide (rows.length < 8) = false := by simp [c]
        rw [c'] at l8
        unfold LE
        generalize rows.map rowD = rl at *
        simp only [sSeq_e, sSet_e, sIf_e, sRet_e, sNop_e, sAsg_e, sExp_e, sFor_e, evTr_e, evC_e, ev2_e, evCall_e, evN_e, evCons_e, evNil_e, evTup_e, evLst_e, evAnd_e, evOr_e, evNot_e, evAndV_e, evOrV_e, evNotV_e, evIter_e, evRng_e, evM_e, evLc_e, u_var, List.getElem?_cons_zero, List.getElem?_cons_succ, List.set_cons_zero, List.set_cons_succ, List.length_cons, List.length_nil, Nat.reduceAdd, Nat.reduceLT, Nat.reduceLeDiff, bind_ok, bindN_ok, out_ok, then_nx, then_ret, then_exc, of_ok, tr_bl, itOf, sizeLine_eq, wipeD_cons, wipeD_nil, if_true, if_false, reduceIte, Bool.false_eq_true, Bool.true_eq_false, Bool.not_true, Bool.not_false, ln, l8]
      rw [set_same' hM]
      simp only [whD, t, out_ok, Bool.false_eq_true, if_false]
/-! ### the lots that it begins with -/
abbrev S2 : Ev → Store → Res D := (evLst (evCons (evTup (evCons (evC (.int 0)) (evCons (evC (.int 0)) (evCons (evC (.int 0)) evNil)))) (evCons (evTup (evCons (evC (.int 1)) (evCons (evC (.int 0)) (evCons (evC (.int 0)) evNil)))) (evCons (evTup (evCons (evC (.int 1)) (evCons (evC (.int 1)) (evCons (evC (.int 0)) evNil)))) (evCons (evTup (evCons (evC (.int 1)) (evCons (evC (.int 1)) (evCons (evC (.int 1)) evNil)))) (evCons (evTup (evCons (evC (.int 0)) (evCons (evC (.int 1)) (evCons (evC (.int 1)) evNil)))) (evCons (evTup (evCons (evC (.int 0)) (evCons (evC (.int 0)) (evCons (evC (.int 1)) evNil)))) evNil)))))))
theorem s2_ok : S2 env M = .ok (.lst (ringR.map rowD)) M := by
  have e : D.lst (ringR.map rowD) = .lst [.tup [.int 0, .int 0, .int 0], .tup [.int 1, .int 0, .int 0], .tup [.int 1, .int 1, .int 0], .tup [.int 1, .int 1, .int 1], .tup [.int 0, .int 1, .int 1], .tup [.int 0, .int 0, .int 1]] := rfl
  rw [e]
  simp only [sSeq_e, sSet_e, sIf_e, sRet_e, sNop_e, sAsg_e, sExp_e, sFor_e, evTr_e, evC_e, ev2_e, evCall_e, evN_e, evCons_e, evNil_e, evTup_e, evLst_e, evAnd_e, evOr_e, evNot_e, evAndV_e, evOrV_e, evNotV_e, evIter_e, evRng_e, evM_e, evLc_e, u_var, List.getElem?_cons_zero, List.getElem?_cons_succ, List.set_cons_zero, List.set_cons_succ, List.length_cons, List.length_nil, Nat.reduceAdd, Nat.reduceLT, Nat.reduceLeDiff, bind_ok, bindN_ok, out_ok, then_nx, then_ret, then_exc, of_ok, tr_bl, itOf, sizeLine_eq, wipeD_cons, wipeD_nil, if_true, if_false, reduceIte, Bool.false_eq_true, Bool.true_eq_false, Bool.not_true, Bool.not_false]
abbrev W1 : Ev → Store → Res D := (evLc (.nm 13) [13] (evRng rng1 (evCons (evC (.int 4)) evNil)) evYes (ev2 opAdd (ev2 opMulT (evTup (evCons (evC (.int 1)) evNil)) (evVar 13)) (ev2 opMulT (evTup (evCons (evC (.int 0)) evNil)) (ev2 opSub (evC (.int 4)) (evVar 13)))))
abbrev W0 : Ev → Store → Res D := (evLc (.nm 13) [13] (evRng rng1 (evCons (evC (.int 4)) evNil)) evYes (ev2 opAdd (ev2 opMulT (evTup (evCons (evC (.int 0)) evNil)) (evVar 13)) (ev2 opMulT (evTup (evCons (evC (.int 1)) evNil)) (ev2 opSub (evC (.int 4)) (evVar 13)))))
theorem mulT_ok {a k : Nat} (h : k ≤ 1000) : opMulT (.tup [natD a]) (natD k) M = .ok (rowD (List.replicate k a)) M := by
  unfold opMulT
  simp only
  rw [if_pos ⟨by simp, by omega, by omega, by simp⟩]
  have : ∀ m : Nat, (List.replicate m [natD a]).flatten = (List.replicate m a).map natD := fun m => by
    induction m with
    | zero => rfl
    | succ m ih => rw [List.replicate_succ, List.flatten_cons, ih, List.replicate_succ]; rfl
  rw [Int.toNat_natCast, this]
theorem wide_lc {l : Nat} {a1 a2 a3 a4 a5 : Option D} (a b : Nat) : lcD (.nm 13) evYes (ev2 opAdd (ev2 opMulT (evTup (evCons (evC (natD a)) evNil)) (evVar 13)) (ev2 opMulT (evTup (evCons (evC (natD b)) evNil)) (ev2 opSub (evC (.int 4)) (evVar 13)))) ((List.range 4).map natD) [] [some (.loc l), a1, a2, none, none, none, none, none, none, none, none, none, none, none, none] M = .ok (((List.range 4).map fun k => List.replicate k a ++ List.replicate (4 - k) b).map rowD) M := by
  have lc := lc_mapF (M := M) (p := .nm 13) (fe := (ev2 opAdd (ev2 opMulT (evTup (evCons (evC (natD a)) evNil)) (evVar 13)) (ev2 opMulT (evTup (evCons (evC (natD b)) evNil)) (ev2 opSub (evC (.int 4)) (evVar 13))))) natD (fun k => rowD (List.replicate k a ++ List.replicate (4 - k) b)) (env := [some (.loc l), a1, a2, none, none, none, none, none, none, none, none, none, none, none, none]) (List.range 4) [] (fun k hk => by
    have hk' := List.mem_range.mp hk
    have m1 := mulT_ok (M := M) (a := a) (k := k) (by omega)
    have m2 := mulT_ok (M := M) (a := b) (k := 4 - k) (by omega)
    have sb : opSub (.int 4) (natD k) M = .ok (natD (4 - k)) M := by
      rw [Mi.sub_int]; congr 2; omega
    have ad : opAdd (rowD (List.replicate k a)) (rowD (List.replicate (4 - k) b)) M = .ok (rowD (List.replicate k a ++ List.replicate (4 - k) b)) M := by
      rw [add_tup (by simp; omega), ← List.map_append]
    refine ⟨[some (.loc l), a1, a2, none, none, none, none, none, none, none, none, none, none, some (natD k), none], by simp [asgP], ?_⟩
    generalize rowD (List.replicate k a ++ List.replicate (4 - k) b) = r3 at *
    generalize rowD (List.replicate k a) = r1 at *
    generalize rowD (List.replicate (4 - k) b) = r2 at *
    simp only [sSeq_e, sSet_e, sIf_e, sRet_e, sNop_e, sAsg_e, sExp_e, sFor_e, evTr_e, evC_e, ev2_e, evCall_e, evN_e, evCons_e, evNil_e, evTup_e, evLst_e, evAnd_e, evOr_e, evNot_e, evAndV_e, evOrV_e, evNotV_e, evIter_e, evRng_e, evM_e, evLc_e, u_var, List.getElem?_cons_zero, List.getElem?_cons_succ, List.set_cons_zero, List.set_cons_succ, List.length_cons, List.length_nil, Nat.reduceAdd, Nat.reduceLT, Nat.reduceLeDiff, bind_ok, bindN_ok, out_ok, then_nx, then_ret, then_exc, of_ok, tr_bl, itOf, sizeLine_eq, wipeD_cons, wipeD_nil, if_true, if_false, reduceIte, Bool.false_eq_true, Bool.true_eq_false, Bool.not_true, Bool.not_false, m1, m2, sb, ad]) (by simp)
  rw [List.nil_append] at lc
  rw [lc, List.map_map]; rfl
theorem w_ok {l : Nat} {a1 a2 : Option D} : (ev2 opAdd W1 W0) [some (.loc l), a1, a2, none, none, none, none, none, none, none, none, none, none, none, none] M = .ok (.lst (wideR.map rowD)) M := by
  have l1 := wide_lc (M := M) (l := l) (a1 := a1) (a2 := a2) (a3 := none) (a4 := none) (a5 := none) 1 0
  have l2 := wide_lc (M := M) (l := l) (a1 := a1) (a2 := a2) (a3 := none) (a4 := none) (a5 := none) 0 1
  have rg : Res.of (rng1 [.int 4]) M = .ok ((List.range 4).map natD) M := rg_n (n := 4) (by omega)
  have z0 : (natD 0 : D) = .int 0 := rfl
  have z1 : (natD 1 : D) = .int 1 := rfl
  rw [z0, z1] at l1 l2
  have ad := add_lst (M := M) (xs := ((List.range 4).map fun k => List.replicate k 1 ++ List.replicate (4 - k) 0).map rowD) (ys := ((List.range 4).map fun k => List.replicate k 0 ++ List.replicate (4 - k) 1).map rowD) (by simp)
  have e : ((List.range 4).map fun k => List.replicate k 1 ++ List.replicate (4 - k) 0).map rowD ++ ((List.range 4).map fun k => List.replicate k 0 ++ List.replicate (4 - k) 1).map rowD = wideR.map rowD := by
    rw [← List.map_append]
    have : (List.range 4).map (fun k => List.replicate k 1 ++ List.replicate (4 - k) 0) ++ (List.range 4).map (fun k => List.replicate k 0 ++ List.replicate (4 - k) 1) = wideR := by decide
    rw [this]
  rw [e] at ad
  generalize ((List.range 4).map fun k => List.replicate k 1 ++ List.replicate (4 - k) 0).map rowD = x1 at *
  generalize ((List.range 4).map fun k => List.replicate k 0 ++ List.replicate (4 - k) 1).map rowD = x2 at *
  generalize (List.range 4).map natD = rr at *
  generalize wideR.map rowD = wr at *
  simp only [sSeq_e, sSet_e, sIf_e, sRet_e, sNop_e, sAsg_e, sExp_e, sFor_e, evTr_e, evC_e, ev2_e, evCall_e, evN_e, evCons_e, evNil_e, evTup_e, evLst_e, evAnd_e, evOr_e, evNot_e, evAndV_e, evOrV_e, evNotV_e, evIter_e, evRng_e, evM_e, evLc_e, u_var, List.getElem?_cons_zero, List.getElem?_cons_succ, List.set_cons_zero, List.set_cons_succ, List.length_cons, List.length_nil, Nat.reduceAdd, Nat.reduceLT, Nat.reduceLeDiff, bind_ok, bindN_ok, out_ok, then_nx, then_ret, then_exc, of_ok, tr_bl, itOf, sizeLine_eq, wipeD_cons, wipeD_nil, if_true, if_false, reduceIte, Bool.false_eq_true, Bool.true_eq_false, Bool.not_true, Bool.not_false, rg, l1, l2, ad]
abbrev S4 : Ev → Store → Res D := (evLc (.nm 11) [11] (evRng rng2 (evCons (evC (.int 1)) (evCons (evC (.int 8)) evNil))) evYes (evTup (evCons (ev2 opFdiv (evVar 11) (evC (.int 4))) (evCons (ev2 opMod (ev2 opFdiv (evVar 11) (evC (.int 2))) (evC (.int 2))) (evCons (ev2 opMod (evVar 11) (evC (.int 2))) evNil)))))
theorem s4_ok {l : Nat} {a1 a2 a3 : Option D} : S4 [some (.loc l), a1, a2, a3, none, none, none, none, none, none, none, none, none, none, none] M = .ok (.lst (cubeR.map rowD)) M := by
  have lc := lc_mapF (M := M) (p := .nm 11) (fe := (evTup (evCons (ev2 opFdiv (evVar 11) (evC (.int 4))) (evCons (ev2 opMod (ev2 opFdiv (evVar 11) (evC (.int 2))) (evC (.int 2))) (evCons (ev2 opMod (evVar 11) (evC (.int 2))) evNil))))) natD (fun k => rowD [k / 4, k / 2 % 2, k % 2]) (env := [some (.loc l), a1, a2, a3, none, none, none, none, none, none, none, none, none, none, none]) [1, 2, 3, 4, 5, 6, 7] [] (fun k hk => by
    have f4 : opFdiv (natD k) (.int 4) M = .ok (natD (k / 4)) M := by rw [fdiv_i (by omega) (by omega)]; congr 2
    have f2 : opFdiv (natD k) (.int 2) M = .ok (natD (k / 2)) M := by rw [fdiv_i (by omega) (by omega)]; congr 2
    have m1 : opMod (natD (k / 2)) (.int 2) M = .ok (natD (k / 2 % 2)) M := by rw [mod_i (by omega)]; congr 2
    have m2 : opMod (natD k) (.int 2) M = .ok (natD (k % 2)) M := by rw [mod_i (by omega)]; congr 2
    refine ⟨[some (.loc l), a1, a2, a3, none, none, none, none, none, none, none, some (natD k), none, none, none], by simp [asgP], ?_⟩
    simp only [sSeq_e, sSet_e, sIf_e, sRet_e, sNop_e, sAsg_e, sExp_e, sFor_e, evTr_e, evC_e, ev2_e, evCall_e, evN_e, evCons_e, evNil_e, evTup_e, evLst_e, evAnd_e, evOr_e, evNot_e, evAndV_e, evOrV_e, evNotV_e, evIter_e, evRng_e, evM_e, evLc_e, u_var, List.getElem?_cons_zero, List.getElem?_cons_succ, List.set_cons_zero, List.set_cons_succ, List.length_cons, List.length_nil, Nat.reduceAdd, Nat.reduceLT, Nat.reduceLeDiff, bind_ok, bindN_ok, out_ok, then_nx, then_ret, then_exc, of_ok, tr_bl, itOf, sizeLine_eq, wipeD_cons, wipeD_nil, if_true, if_false, reduceIte, Bool.false_eq_true, Bool.true_eq_false, Bool.not_true, Bool.not_false, f4, f2, m1, m2]
    rfl) (by simp)
  rw [List.nil_append] at lc
  have rg : Res.of (rng2 [.int 1, .int 8]) M = .ok (([1, 2, 3, 4, 5, 6, 7] : List Nat).map natD) M := rfl
  have e : ([1, 2, 3, 4, 5, 6, 7] : List Nat).map (fun k => rowD [k / 4, k / 2 % 2, k % 2]) = cubeR.map rowD := rfl
  rw [e] at lc
  generalize ([1, 2, 3, 4, 5, 6, 7] : List Nat).map natD = rr at *
  generalize cubeR.map rowD = cr at *
  simp only [sSeq_e, sSet_e, sIf_e, sRet_e, sNop_e, sAsg_e, sExp_e, sFor_e, evTr_e, evC_e, ev2_e, evCall_e, evN_e, evCons_e, evNil_e, evTup_e, evLst_e, evAnd_e, evOr_e, evNot_e, evAndV_e, evOrV_e, evNotV_e, evIter_e, evRng_e, evM_e, evLc_e, u_var, List.getElem?_cons_zero, List.getElem?_cons_succ, List.set_cons_zero, List.set_cons_succ, List.length_cons, List.length_nil, Nat.reduceAdd, Nat.reduceLT, Nat.reduceLeDiff, bind_ok, bindN_ok, out_ok, then_nx, then_ret, then_exc, of_ok, tr_bl, itOf, sizeLine_eq, wipeD_cons, wipeD_nil, if_true, if_false, reduceIte, Bool.false_eq_true, Bool.true_eq_false, Bool.not_true, Bool.not_false, rg, lc]
/-! ### back from data -/
def invN : D → Nat
  | .int i => i.toNat
  | _ => 0
def invR : D → List Nat
  | .tup xs => xs.map invN
  | _ => []
theorem inv_nat (v : Nat) : invN (natD v) = v := by simp [invN]
theorem inv_row (r : List Nat) : invR (rowD r) = r := by
  simp only [invR, List.map_map]
  exact List.map_id'' (fun v => inv_nat v) r
theorem perm_back {α : Type} {f : α → D} {g : D → α} (h : ∀ a, g (f a) = a) {ys : List D} {l : List α} (p : ys.Perm (l.map f)) : ∃ l' : List α, ys = l'.map f ∧ l'.Perm l := by
  refine ⟨ys.map g, ?_, ?_⟩
  · rw [List.map_map]
    have e : ys.map (f ∘ g) = ys.map id := List.map_congr_left fun y hy => by
      obtain ⟨a, _, rfl⟩ := List.mem_map.mp (p.mem_iff.mp hy)
      show f (g (f a)) = f a
      rw [h]
    rw [e, List.map_id]
  · have := p.map g
    rw [List.map_map] at this
    have e : l.map (g ∘ f) = l := List.map_id'' (fun a => h a) l
    rwa [e] at this
end
end Hd

set_option Elab.async false
set_option linter.all false
set_option maxRecDepth 100000
namespace Hd
open Mi PySem PySem.Spec PyProof.Rows L2
section
variable {M : Store} {x : D} {env : Ev}
theorem LR_ok {w : Nat} {f : Ev → Store → Res D} (h : f env M = .ok (natD w) M) (hw : w ≤ 1000) : evLR f env M = .ok (.lst ((List.range w).map natD)) M := by
  have e : rgD (w : Int) = (List.range w).map natD := by
    rw [rg_rngI]
    unfold rngI
    rw [List.map_map]; rfl
  unfold evLR
  rw [h, bind_ok]
  simp only
  rw [if_pos (by omega), e]
theorem bits_ok {l : Nat} {o : Option Ob} {w : Nat} {env : Ev} (hj : 12 < env.length) (h0 : (env[0]?) = some (some (.loc l))) (hM : M[l]? = some o) (ho : PenO o) (hw : w ≤ 100) :
    ∃ (ts : List Nat) (o' : Option Ob), ts.length = w ∧ (∀ k, ts.getD k 0 ≤ 1) ∧ PenO o' ∧ lcD (.nm 12) evYes (evCall d__law_draw (evCons (evVar 0) (evCons (evC (.int 2)) evNil))) ((List.range w).map natD) [] env M = .ok (ts.map natD) (M.set l o') := by
  obtain ⟨outs, o', r1, p1, e1⟩ := lc_draws (l := l) (j := 12) (R := fun _ d => ∃ b : Nat, b ≤ 1 ∧ d = natD b) (fe := evCall d__law_draw (evCons (evVar 0) (evCons (evC (.int 2)) evNil))) (env := env) hj ((List.range w).map natD) [] M o hM ho
    (fun x _ M o hM ho => by
      obtain ⟨r, o', r1, p, e⟩ := drawK (m := 2) hM ho (by omega) (by omega)
      have z2 : (natD 2 : D) = .int 2 := rfl
      rw [z2] at e
      have ev : (env.set 12 (some x))[0]? = some (some (.loc l)) := by
        rw [List.getElem?_set_ne (by omega)]; exact h0
      refine ⟨natD r, o', ⟨r, by omega, rfl⟩, p, ?_⟩
      simp only [evCall_e, evCons_e, evNil_e, evC_e, bind_ok, evVar_e ev, e]) (by simp; omega)
  have hn : outs = (outs.map invN).map natD := by
    rw [List.map_map]
    have e : outs.map (natD ∘ invN) = outs.map id := List.map_congr_left fun d hd => by
      obtain ⟨_, _, b, _, rfl⟩ := r1.2 d hd
      show natD (invN (natD b)) = natD b
      rw [inv_nat]
    rw [e, List.map_id]
  refine ⟨outs.map invN, o', by rw [List.length_map, r1.1]; simp, fun k => ?_, p1, by rw [List.nil_append] at e1; rw [← hn]; exact e1⟩
  rw [List.getD_eq_getElem?_getD, List.getElem?_map]
  cases e : outs[k]? with
  | none => simp
  | some d =>
    obtain ⟨_, _, b, hb, rfl⟩ := r1.2 d (List.mem_of_getElem? e)
    show invN (natD b) ≤ 1
    rw [inv_nat]; exact hb
theorem abs_ok {a t : Nat} (ha : a ≤ 1) (ht : t ≤ 1) : biAbs [.int ((a : Int) - (t : Int))] M = .ok (natD (tb a t)) M := by
  have : (if (a : Int) - (t : Int) < 0 then -((a : Int) - (t : Int)) else (a : Int) - (t : Int)) = ((tb a t : Nat) : Int) := by
    unfold tb
    split <;> split <;> omega
  simp only [biAbs, this]
abbrev P5 : Ev → Store → Res D := (ev2 opIx (evLst (evCons (evLst (evCons (evTup evNil) evNil)) (evCons (evLst (evCons (evTup evNil) evNil)) (evCons (evVar 2) (evCons (evLst (evCons (evTup evNil) evNil)) (evCons (evVar 4) (evCons (evVar 3) (evCons (evVar 2) evNil)))))))) (evCall d__law_draw (evCons (evVar 0) (evCons (evC (.int 7)) evNil))))
abbrev T6 : Ev → Store → Res D := (evLc (.nm 12) [12] (evRng rng1 (evCons (evN biLen (evCons (ev2 opIx (evVar 5) (evC (.int 0))) evNil)) evNil)) evYes (evCall d__law_draw (evCons (evVar 0) (evCons (evC (.int 2)) evNil))))
abbrev T7 : Ev → Store → Res D := (evCall d__law_mixed (evCons (evVar 0) (evCons (evLR (evN biLen (evCons (evVar 6) evNil))) evNil)))
abbrev TRow : Ev → Store → Res D := (evN biTuple (evCons (evLc (.nm 12) [12] (evIter (evVar 7)) evYes (evN biAbs (evCons (ev2 opSub (ev2 opIx (evVar 8) (evVar 12)) (ev2 opIx (evVar 6) (evVar 12))) evNil))) evNil))
abbrev TR : Ev → Store → Res D := (evLc (.nm 8) [8] (evIter (evCall d__law_mixed (evCons (evVar 0) (evCons (evVar 5) evNil)))) evYes TRow)
theorem lying_eq : b__law_lying = (sSeq (sSet 2 S2) (sSeq (sSet 3 (ev2 opAdd W1 W0)) (sSeq (sSet 4 S4) (sSeq (sSet 5 P5) (sSeq (sIf (evTr (ev2 opGt (evN biLen (evCons (evVar 5) evNil)) (evVar 1))) (sSet 5 (evLst (evCons (evTup evNil) evNil))) sNop) (sSeq (sWhile 1000 LT LB) (sSeq (sSet 6 T6) (sSeq (sSet 7 T7) (sRet TR))))))))) := rfl
theorem p5_ok {l : Nat} {o : Option Ob} (hM : M[l]? = some o) (ho : PenO o) : ∃ w rows o', GoodR w rows ∧ PenO o' ∧ P5 [some (.loc l), some (.int 8), some (.lst (ringR.map rowD)), some (.lst (wideR.map rowD)), some (.lst (cubeR.map rowD)), none, none, none, none, none, none, none, none, none, none] M = .ok (.lst (rows.map rowD)) (M.set l o') := by
  obtain ⟨r, o1, r1, p1, e1⟩ := drawK (m := 7) hM ho (by omega) (by omega)
  have z7 : (natD 7 : D) = .int 7 := rfl
  rw [z7] at e1
  obtain ⟨d, hd, e2⟩ := ix_mem (L := [.lst [.tup []], .lst [.tup []], .lst (ringR.map rowD), .lst [.tup []], .lst (cubeR.map rowD), .lst (wideR.map rowD), .lst (ringR.map rowD)]) (r := (r : Int)) (by omega) (by show (r : Int) < 7; omega)
  have e2 := e2 (M.set l o1)
  obtain ⟨w, rows, hg, hdd⟩ : ∃ w rows, GoodR w rows ∧ d = .lst (rows.map rowD) := by
    simp only [List.mem_cons, List.not_mem_nil, or_false] at hd
    rcases hd with rfl | rfl | rfl | rfl | rfl | rfl | rfl
    · exact ⟨_, _, one_good, rfl⟩
    · exact ⟨_, _, one_good, rfl⟩
    · exact ⟨_, _, ring_good, rfl⟩
    · exact ⟨_, _, one_good, rfl⟩
    · exact ⟨_, _, cube_good, rfl⟩
    · exact ⟨_, _, wide_good, rfl⟩
    · exact ⟨_, _, ring_good, rfl⟩
  refine ⟨w, rows, o1, hg, p1, ?_⟩
  rw [← hdd]
  clear hd hdd
  generalize ringR.map rowD = rr at *
  generalize wideR.map rowD = wr at *
  generalize cubeR.map rowD = cr at *
  generalize M.set l o1 = M1 at *
  simp only [sSeq_e, sSet_e, sIf_e, sRet_e, sNop_e, sAsg_e, sExp_e, sFor_e, evTr_e, evC_e, ev2_e, evCall_e, evN_e, evCons_e, evNil_e, evTup_e, evLst_e, evAnd_e, evOr_e, evNot_e, evAndV_e, evOrV_e, evNotV_e, evIter_e, evRng_e, evM_e, evLc_e, u_var, List.getElem?_cons_zero, List.getElem?_cons_succ, List.set_cons_zero, List.set_cons_succ, List.length_cons, List.length_nil, Nat.reduceAdd, Nat.reduceLT, Nat.reduceLeDiff, bind_ok, bindN_ok, out_ok, then_nx, then_ret, then_exc, of_ok, tr_bl, itOf, sizeLine_eq, wipeD_cons, wipeD_nil, if_true, if_false, reduceIte, Bool.false_eq_true, Bool.true_eq_false, Bool.not_true, Bool.not_false, e1, e2, Nat.zero_le]
theorem gt8_no {a : Nat} (h : a ≤ 8) : opGt (natD a) (.int 8) M = .ok (.bl false) M := by
  rw [Mi.gt_int]
  have : ¬ (8 : Int) < (a : Int) := by omega
  simp [this]
theorem tr_ok {l w : Nat} {o : Option Ob} {a2 a3 a4 a9 a10 a11 a13 a14 a8 a12 : Option D} {rows : List (List Nat)} {ts order : List Nat} (g : GoodR w rows) (ht : ts.length = w) (bt : ∀ k, ts.getD k 0 ≤ 1) (po : order.Perm (List.range w)) (hM : M[l]? = some o) (ho : PenO o) :
    ∃ rows' o', GoodR w rows' ∧ PenO o' ∧ TR [some (.loc l), some (.int 8), a2, a3, a4, some (.lst (rows.map rowD)), some (.lst (ts.map natD)), some (.lst (order.map natD)), a8, a9, a10, a11, a12, a13, a14] M = .ok (.lst (rows'.map rowD)) (M.set l o') := by
  have few := g.few
  have thin := g.thin
  obtain ⟨ys, o', py, p1, e1⟩ := mixed_ok hM ho (py_rowL rows) (pure_rows rows) (by simp; omega)
  obtain ⟨rows1, rfl, pr⟩ := perm_back inv_row py
  have g1 := good_perm g pr
  have g2 := good_phi g1 po bt
  refine ⟨rows1.map (phi order ts), o', g2, p1, ?_⟩
  generalize M.set l o' = S at *
  have lo : order.length = w := by rw [po.length_eq, List.length_range]
  have few1 := g1.few
  have lc := lc_mapF (M := S) (p := .nm 8) (fe := TRow) rowD (fun r => rowD (phi order ts r)) (env := [some (.loc l), some (.int 8), a2, a3, a4, some (.lst (rows.map rowD)), some (.lst (ts.map natD)), some (.lst (order.map natD)), none, a9, a10, a11, a12, a13, a14]) rows1 [] (fun r hr => by
    have lr := g1.len r hr
    have gb : ∀ k, r.getD k 0 ≤ 1 := fun k => by
      rw [List.getD_eq_getElem?_getD]
      cases e : r[k]? with
      | none => simp
      | some b => exact g1.bit r hr b (List.mem_of_getElem? e)
    have ilc := lc_mapF (M := S) (p := .nm 12) (fe := evN biAbs (evCons (ev2 opSub (ev2 opIx (evVar 8) (evVar 12)) (ev2 opIx (evVar 6) (evVar 12))) evNil)) natD (fun k => natD (tb (r.getD k 0) (ts.getD k 0))) (env := [some (.loc l), some (.int 8), a2, a3, a4, some (.lst (rows.map rowD)), some (.lst (ts.map natD)), some (.lst (order.map natD)), some (rowD r), a9, a10, a11, none, a13, a14]) order [] (fun k hk => by
      have hk' := List.mem_range.mp (po.mem_iff.mp hk)
      have i1 := ix_rowD (M := S) (r := r) (k := k) (by omega)
      have et : ts[k]? = some (ts.getD k 0) := by rw [List.getElem?_eq_getElem (by omega), List.getD_eq_getElem?_getD, List.getElem?_eq_getElem (by omega)]; rfl
      have i2 := ix_map (M := S) (f := natD) et
      have ab := abs_ok (M := S) (gb k) (bt k)
      refine ⟨[some (.loc l), some (.int 8), a2, a3, a4, some (.lst (rows.map rowD)), some (.lst (ts.map natD)), some (.lst (order.map natD)), some (rowD r), a9, a10, a11, some (natD k), a13, a14], by simp [asgP], ?_⟩
      generalize rows.map rowD = rl at *
      generalize ts.map natD = tl at *
      generalize order.map natD = ol at *
      generalize rowD r = r_ at *
      simp only [sSeq_e, sSet_e, sIf_e, sRet_e, sNop_e, sAsg_e, sExp_e, sFor_e, evTr_e, evC_e, ev2_e, evCall_e, evN_e, evCons_e, evNil_e, evTup_e, evLst_e, evAnd_e, evOr_e, evNot_e, evAndV_e, evOrV_e, evNotV_e, evIter_e, evRng_e, evM_e, evLc_e, u_var, List.getElem?_cons_zero, List.getElem?_cons_succ, List.set_cons_zero, List.set_cons_succ, List.length_cons, List.length_nil, Nat.reduceAdd, Nat.reduceLT, Nat.reduceLeDiff, bind_ok, bindN_ok, out_ok, then_nx, then_ret, then_exc, of_ok, tr_bl, itOf, sizeLine_eq, wipeD_cons, wipeD_nil, if_true, if_false, reduceIte, Bool.false_eq_true, Bool.true_eq_false, Bool.not_true, Bool.not_false, i1, i2, Mi.sub_int, ab]) (by simp; omega)
    rw [List.nil_append] at ilc
    have e2 : order.map (fun k => natD (tb (r.getD k 0) (ts.getD k 0))) = (phi order ts r).map natD := by
      unfold phi
      rw [List.map_map]; rfl
    rw [e2] at ilc
    have bt' : biTuple [.lst ((phi order ts r).map natD)] S = .ok (rowD (phi order ts r)) S := by simp [biTuple, Mi.listOf]
    refine ⟨[some (.loc l), some (.int 8), a2, a3, a4, some (.lst (rows.map rowD)), some (.lst (ts.map natD)), some (.lst (order.map natD)), some (rowD r), a9, a10, a11, a12, a13, a14], by simp [asgP], ?_⟩
    generalize rowD (phi order ts r) = rp at *
    generalize (phi order ts r).map natD = pl at *
    generalize rows.map rowD = rl at *
    generalize ts.map natD = tl at *
    generalize order.map natD = ol at *
    generalize rowD r = r_ at *
    simp only [sSeq_e, sSet_e, sIf_e, sRet_e, sNop_e, sAsg_e, sExp_e, sFor_e, evTr_e, evC_e, ev2_e, evCall_e, evN_e, evCons_e, evNil_e, evTup_e, evLst_e, evAnd_e, evOr_e, evNot_e, evAndV_e, evOrV_e, evNotV_e, evIter_e, evRng_e, evM_e, evLc_e, u_var, List.getElem?_cons_zero, List.getElem?_cons_succ, List.set_cons_zero, List.set_cons_succ, List.length_cons, List.length_nil, Nat.reduceAdd, Nat.reduceLT, Nat.reduceLeDiff, bind_ok, bindN_ok, out_ok, then_nx, then_ret, then_exc, of_ok, tr_bl, itOf, sizeLine_eq, wipeD_cons, wipeD_nil, if_true, if_false, reduceIte, Bool.false_eq_true, Bool.true_eq_false, Bool.not_true, Bool.not_false, ilc, bt']) (by simp; omega)
  rw [List.nil_append] at lc
  have e3 : rows1.map (fun r => rowD (phi order ts r)) = (rows1.map (phi order ts)).map rowD := by rw [List.map_map]; rfl
  rw [e3] at lc
  unfold TR
  generalize hTR : TRow = trow at *
  generalize (rows1.map (phi order ts)).map rowD = rn at *
  generalize rows1.map rowD = r1 at *
  generalize rows.map rowD = rl at *
  generalize ts.map natD = tl at *
  generalize order.map natD = ol at *
  simp only [sSeq_e, sSet_e, sIf_e, sRet_e, sNop_e, sAsg_e, sExp_e, sFor_e, evTr_e, evC_e, ev2_e, evCall_e, evN_e, evCons_e, evNil_e, evTup_e, evLst_e, evAnd_e, evOr_e, evNot_e, evAndV_e, evOrV_e, evNotV_e, evIter_e, evRng_e, evM_e, evLc_e, u_var, List.getElem?_cons_zero, List.getElem?_cons_succ, List.set_cons_zero, List.set_cons_succ, List.length_cons, List.length_nil, Nat.reduceAdd, Nat.reduceLT, Nat.reduceLeDiff, bind_ok, bindN_ok, out_ok, then_nx, then_ret, then_exc, of_ok, tr_bl, itOf, sizeLine_eq, wipeD_cons, wipeD_nil, if_true, if_false, reduceIte, Bool.false_eq_true, Bool.true_eq_false, Bool.not_true, Bool.not_false, e1, lc]
theorem lying_ok {l : Nat} {o : Option Ob} (hM : M[l]? = some o) (ho : PenO o) : ∃ w rows o', GoodR w rows ∧ PenO o' ∧ d__law_lying [.loc l, .int 8] M = .ok (.lst (rows.map rowD)) (M.set l o') := by
  obtain ⟨w1, rows1, o1, g1, p1, e5⟩ := p5_ok hM ho
  have few1 := g1.few
  obtain ⟨w, rows, o2, t8, t9, t10, g, p2, wh⟩ := ly_while (l := l) (a2 := some (.lst (ringR.map rowD))) (a3 := some (.lst (wideR.map rowD))) (a4 := some (.lst (cubeR.map rowD))) (a11 := none) (a12 := none) (a13 := none) (a14 := none) 1000 w1 rows1 (M.set l o1) o1 none none none g1 (by omega) (get_set hM (y := o1)) p1
  rw [List.set_set] at wh
  have few := g.few
  have thin := g.thin
  obtain ⟨z1, z2, z3⟩ := good_get g g.pos
  have hM2 := get_set hM (y := o2)
  obtain ⟨ts, o3, ht, bt, p3, e6⟩ := bits_ok (M := M.set l o2) (l := l) (w := w) (env := [some (.loc l), some (.int 8), some (.lst (ringR.map rowD)), some (.lst (wideR.map rowD)), some (.lst (cubeR.map rowD)), some (.lst (rows.map rowD)), none, none, t8, t9, t10, none, none, none, none]) (by simp) rfl hM2 p2 (by omega)
  rw [List.set_set] at e6
  have pyr := py_natL (List.range w)
  obtain ⟨ys, o4, py, p4, e7⟩ := mixed_ok (M := M.set l o3) (get_set hM (y := o3)) p3 pyr (pure_nats _) (by simp; omega)
  rw [List.set_set] at e7
  obtain ⟨order, rfl, po⟩ := perm_back inv_nat py
  obtain ⟨rows', o5, g5, p5, e8⟩ := tr_ok (M := M.set l o4) (l := l) (a2 := some (.lst (ringR.map rowD))) (a3 := some (.lst (wideR.map rowD))) (a4 := some (.lst (cubeR.map rowD))) (a8 := t8) (a9 := t9) (a10 := t10) (a11 := none) (a12 := none) (a13 := none) (a14 := none) g ht bt po (get_set hM (y := o4)) p4
  rw [List.set_set] at e8
  refine ⟨w, rows', o5, g5, p5, ?_⟩
  have ss := s2_ok (env := [some (.loc l), some (.int 8), none, none, none, none, none, none, none, none, none, none, none, none, none]) (M := M)
  have ws := w_ok (M := M) (l := l) (a1 := some (.int 8)) (a2 := some (.lst (ringR.map rowD)))
  have cs := s4_ok (M := M) (l := l) (a1 := some (.int 8)) (a2 := some (.lst (ringR.map rowD))) (a3 := some (.lst (wideR.map rowD)))
  have ln1 := len_rows (M := M.set l o1) (rows := rows1)
  have gt := gt8_no (M := M.set l o1) few1
  have zz : (natD 0 : D) = .int 0 := rfl
  have i0 := ix_map (M := M.set l o2) (f := rowD) (l := rows) (i := 0) z1
  rw [zz] at i0
  have lr := len_rowD (M := M.set l o2) (r := rows.getD 0 [])
  rw [z3] at lr
  have rg := rg_n (M := M.set l o2) (n := w) (by omega)
  have lts : biLen [.lst (ts.map natD)] (M.set l o3) = .ok (natD w) (M.set l o3) := by simp [biLen, seqOf, Mi.listOf, ht]
  have t6 : T6 [some (.loc l), some (.int 8), some (.lst (ringR.map rowD)), some (.lst (wideR.map rowD)), some (.lst (cubeR.map rowD)), some (.lst (rows.map rowD)), none, none, t8, t9, t10, none, none, none, none] (M.set l o2) = .ok (.lst (ts.map natD)) (M.set l o3) := by
    unfold T6
    generalize ringR.map rowD = rr at *
    generalize wideR.map rowD = wr at *
    generalize cubeR.map rowD = cr at *
    generalize rows.map rowD = rl at *
    generalize rowD (rows.getD 0 []) = r0 at *
    simp only [sSeq_e, sSet_e, sIf_e, sRet_e, sNop_e, sAsg_e, sExp_e, sFor_e, evTr_e, evC_e, ev2_e, evCall_e, evN_e, evCons_e, evNil_e, evTup_e, evLst_e, evAnd_e, evOr_e, evNot_e, evAndV_e, evOrV_e, evNotV_e, evIter_e, evRng_e, evM_e, evLc_e, u_var, List.getElem?_cons_zero, List.getElem?_cons_succ, List.set_cons_zero, List.set_cons_succ, List.length_cons, List.length_nil, Nat.reduceAdd, Nat.reduceLT, Nat.reduceLeDiff, bind_ok, bindN_ok, out_ok, then_nx, then_ret, then_exc, of_ok, tr_bl, itOf, sizeLine_eq, wipeD_cons, wipeD_nil, if_true, if_false, reduceIte, Bool.false_eq_true, Bool.true_eq_false, Bool.not_true, Bool.not_false, i0, lr, rg, e6]
  have t7 : T7 [some (.loc l), some (.int 8), some (.lst (ringR.map rowD)), some (.lst (wideR.map rowD)), some (.lst (cubeR.map rowD)), some (.lst (rows.map rowD)), some (.lst (ts.map natD)), none, t8, t9, t10, none, none, none, none] (M.set l o3) = .ok (.lst (order.map natD)) (M.set l o4) := by
    have el := LR_ok (M := M.set l o3) (w := w) (f := evN biLen (evCons (evVar 6) evNil)) (env := [some (.loc l), some (.int 8), some (.lst (ringR.map rowD)), some (.lst (wideR.map rowD)), some (.lst (cubeR.map rowD)), some (.lst (rows.map rowD)), some (.lst (ts.map natD)), none, t8, t9, t10, none, none, none, none]) (by
      generalize ts.map natD = tl at *
      simp only [sSeq_e, sSet_e, sIf_e, sRet_e, sNop_e, sAsg_e, sExp_e, sFor_e, evTr_e, evC_e, ev2_e, evCall_e, evN_e, evCons_e, evNil_e, evTup_e, evLst_e, evAnd_e, evOr_e, evNot_e, evAndV_e, evOrV_e, evNotV_e, evIter_e, evRng_e, evM_e, evLc_e, u_var, List.getElem?_cons_zero, List.getElem?_cons_succ, List.set_cons_zero, List.set_cons_succ, List.length_cons, List.length_nil, Nat.reduceAdd, Nat.reduceLT, Nat.reduceLeDiff, bind_ok, bindN_ok, out_ok, then_nx, then_ret, then_exc, of_ok, tr_bl, itOf, sizeLine_eq, wipeD_cons, wipeD_nil, if_true, if_false, reduceIte, Bool.false_eq_true, Bool.true_eq_false, Bool.not_true, Bool.not_false, lts]) (by omega)
    unfold T7
    generalize ringR.map rowD = rr at *
    generalize wideR.map rowD = wr at *
    generalize cubeR.map rowD = cr at *
    generalize rows.map rowD = rl at *
    simp only [sSeq_e, sSet_e, sIf_e, sRet_e, sNop_e, sAsg_e, sExp_e, sFor_e, evTr_e, evC_e, ev2_e, evCall_e, evN_e, evCons_e, evNil_e, evTup_e, evLst_e, evAnd_e, evOr_e, evNot_e, evAndV_e, evOrV_e, evNotV_e, evIter_e, evRng_e, evM_e, evLc_e, u_var, List.getElem?_cons_zero, List.getElem?_cons_succ, List.set_cons_zero, List.set_cons_succ, List.length_cons, List.length_nil, Nat.reduceAdd, Nat.reduceLT, Nat.reduceLeDiff, bind_ok, bindN_ok, out_ok, then_nx, then_ret, then_exc, of_ok, tr_bl, itOf, sizeLine_eq, wipeD_cons, wipeD_nil, if_true, if_false, reduceIte, Bool.false_eq_true, Bool.true_eq_false, Bool.not_true, Bool.not_false, el, e7]
  have sw : ∀ (e : Ev) (S : Store), sWhile 1000 LT LB e S = whD LT LB 1000 e S := fun e S => rfl
  have b : b__law_lying [some (.loc l), some (.int 8), none, none, none, none, none, none, none, none, none, none, none, none, none] M = .ret (.lst (rows'.map rowD)) (M.set l o5) := by
    rw [lying_eq]
    unfold LE at wh
    clear rg lts i0 lr e6 e7 z1
    generalize hS2 : S2 = s2f at *
    generalize hW : (ev2 opAdd W1 W0) = wf at *
    generalize hS4 : S4 = s4f at *
    generalize hP5 : P5 = p5f at *
    generalize hLT : LT = ltf at *
    generalize hLB : LB = lbf at *
    generalize hT6 : T6 = t6f at *
    generalize hT7 : T7 = t7f at *
    generalize hTR : TR = trf at *
    generalize ringR.map rowD = rr at *
    generalize wideR.map rowD = wr at *
    generalize cubeR.map rowD = cr at *
    generalize rows'.map rowD = rl' at *
    generalize rows.map rowD = rl at *
    generalize rows1.map rowD = rl1 at *
    generalize ts.map natD = tl at *
    generalize order.map natD = ol at *
    generalize M.set l o1 = M1 at *
    generalize M.set l o2 = M2 at *
    generalize M.set l o3 = M3 at *
    generalize M.set l o4 = M4 at *
    generalize M.set l o5 = M5 at *
    simp only [sSeq_e, sSet_e, sIf_e, sRet_e, sNop_e, sAsg_e, sExp_e, sFor_e, evTr_e, evC_e, ev2_e, evCall_e, evN_e, evCons_e, evNil_e, evTup_e, evLst_e, evAnd_e, evOr_e, evNot_e, evAndV_e, evOrV_e, evNotV_e, evIter_e, evRng_e, evM_e, evLc_e, u_var, List.getElem?_cons_zero, List.getElem?_cons_succ, List.set_cons_zero, List.set_cons_succ, List.length_cons, List.length_nil, Nat.reduceAdd, Nat.reduceLT, Nat.reduceLeDiff, bind_ok, bindN_ok, out_ok, then_nx, then_ret, then_exc, of_ok, tr_bl, itOf, sizeLine_eq, wipeD_cons, wipeD_nil, if_true, if_false, reduceIte, Bool.false_eq_true, Bool.true_eq_false, Bool.not_true, Bool.not_false, ss, ws, cs, e5, ln1, gt, sw, wh, t6, t7, e8]
  have fz : frzD (M.set l o5) (.lst (rows'.map rowD)) = some (.lst (rows'.map rowD), M.set l o5) := by
    unfold frzD
    simp only [pure_rows, if_true]
  have z := run_ret (n := 15) (ds := [.loc l, .int 8]) b fz
  rw [take_set1] at z
  exact z
end
end Hd

set_option Elab.async false
set_option linter.all false
set_option maxRecDepth 100000
namespace Hd
open Mi PySem PySem.Spec PyProof.Rows L2
section
variable {M : Store} {x : D} {env : Ev}
/-! ### _law_joined_web -/
theorem two_ix {B : Store} {L F : List D} {k : Nat} {d : D} (h : L[k]? = some d) : opIx (.loc B.length) (natD k) (two B L F) = .ok d (two B L F) := by
  have hl := (List.getElem?_eq_some_iff.mp h).1
  have e : L2.atI L (k : Int) = some d := by
    unfold L2.atI
    rw [ixNn hl]
    simp [h]
  have lo : Mi.seqOf (two B L F) (.loc B.length) = some L := by simp only [Mi.seqOf, Mi.listOf, two_a]
  unfold opIx
  simp only [lo, e, of_ok, bind_ok]
theorem two_sub {B : Store} {L F : List D} {k : Nat} {v : D} (h : k < L.length) (hp : pureDs (L.set k v) = true) : setD (two B L F) (.loc B.length) (natD k) v = some (two B (L.set k v) F) := by
  unfold setD
  simp only [two_a, ixNn h, Option.bind_some]
  rw [if_pos hp, set_a]
/-- its environment -/
abbrev JE (l : Nat) (way : Nat) (n : Nat) (nm : List Nat) (m : Nat) (s6 s7 s8 : Option D) : Ev := [some (.loc l), some (natD way), some (natD n), some (.lst (nm.map natD)), some (.loc m), some (.loc (m + 1)), s6, s7, s8]
abbrev FB1 : Ev → Store → Out := (sSeq (sSet 8 (evCall d__law_draw (evCons (evVar 0) (evCons (evVar 6) evNil)))) (sSeq (sSub (evVar 4) (evVar 6) (ev2 opSub (evC (.int 1)) (ev2 opIx (evVar 4) (evVar 8)))) (sExp (evM mAppend (evVar 5) (evCons (evTup (evCons (ev2 opIx (evVar 3) (evVar 8)) (evCons (ev2 opIx (evVar 3) (evVar 6)) evNil))) evNil)))))
abbrev FB3 : Ev → Store → Out := (sIf (evAnd (evOr (evTr (ev2 opGt (evVar 1) (evC (.int 4)))) (evTr (ev2 opNe (ev2 opIx (evVar 4) (evVar 7)) (ev2 opIx (evVar 4) (evVar 8))))) (evTr (ev2 opEq (evCall d__law_draw (evCons (evVar 0) (evCons (evC (.int 3)) evNil))) (evC (.int 0))))) (sExp (evM mAppend (evVar 5) (evCons (evTup (evCons (ev2 opIx (evVar 3) (evVar 7)) (evCons (ev2 opIx (evVar 3) (evVar 8)) evNil))) evNil))) sNop)
abbrev FB2 : Ev → Store → Out := sFor (.nm 8) (evRng rng1 (evCons (evVar 7) evNil)) FB3
/-- ties in the making -/
structure PsOk (n : Nat) (nm : List Nat) (c : Nat) (ps : List (Nat × Nat)) : Prop where
  bnd : ∀ p ∈ ps, p.1 < n ∧ p.2 < n ∧ p.1 ≠ p.2
  len : ps.length ≤ c
theorem nm_get {n : Nat} {nm : List Nat} (p : nm.Perm (List.range n)) {k : Nat} (h : k < n) : nm[k]? = some (nm.getD k 0) ∧ nm.getD k 0 < n := by
  have hl : k < nm.length := by rw [p.length_eq, List.length_range]; exact h
  have e : nm.getD k 0 = nm[k] := by rw [List.getD_eq_getElem?_getD, List.getElem?_eq_getElem hl]; rfl
  rw [e]
  exact ⟨List.getElem?_eq_getElem hl, List.mem_range.mp (p.mem_iff.mp (List.getElem_mem hl))⟩
theorem nm_ne {n : Nat} {nm : List Nat} (p : nm.Perm (List.range n)) {i j : Nat} (hi : i < n) (hj : j < n) (ne : i ≠ j) : nm.getD i 0 ≠ nm.getD j 0 := fun e => by
  have nd : nm.Nodup := p.nodup_iff.mpr List.nodup_range
  have hl : nm.length = n := by rw [p.length_eq, List.length_range]
  have e1 : nm.getD i 0 = nm[i] := by rw [List.getD_eq_getElem?_getD, List.getElem?_eq_getElem (by omega)]; rfl
  have e2 : nm.getD j 0 = nm[j] := by rw [List.getD_eq_getElem?_getD, List.getElem?_eq_getElem (by omega)]; rfl
  rw [e1, e2] at e
  exact ne ((List.getElem_inj nd).mp e)
theorem ps_add {n c : Nat} {nm : List Nat} {ps : List (Nat × Nat)} (h : PsOk n nm c ps) (p : nm.Perm (List.range n)) {i j : Nat} (hi : i < n) (hj : j < n) (ne : i ≠ j) : PsOk n nm (c + 1) (ps ++ [(nm.getD i 0, nm.getD j 0)]) :=
  ⟨fun q hq => by
    rcases List.mem_append.mp hq with hq | hq
    · exact h.bnd q hq
    · rw [List.mem_singleton.mp hq]
      exact ⟨(nm_get p hi).2, (nm_get p hj).2, nm_ne p hi hj ne⟩, by simp; exact h.len⟩
theorem int_get {sd : List Int} {k : Nat} (h : k < sd.length) : (sd.map D.int)[k]? = some (.int (sd.getD k 0)) := by
  rw [List.getElem?_map, List.getElem?_eq_getElem h, List.getD_eq_getElem?_getD, List.getElem?_eq_getElem h]; rfl
theorem fb1_ok {l way n m : Nat} {o : Option Ob} {nm : List Nat} {B : Store} {sd : List Int} {ps : List (Nat × Nat)} {c i : Nat} {s7 s8 : Option D} (pn : nm.Perm (List.range n)) (hm : B.length = m) (hB : B[l]? = some o) (ho : PenO o) (hs : sd.length = n) (hp : PsOk n nm c ps) (hc : c ≤ 100) (h1 : 1 ≤ i) (hi : i < n) (hn : n ≤ 8) :
    ∃ (q : Nat) (o' : Option Ob) (sd' : List Int), q < i ∧ PenO o' ∧ sd'.length = n ∧ FB1 (JE l way n nm m (some (natD i)) s7 s8) (two B (sd.map D.int) (ps.map tieN)) = .nx (JE l way n nm m (some (natD i)) s7 (some (natD q))) (two (B.set l o') (sd'.map D.int) ((ps ++ [(nm.getD q 0, nm.getD i 0)]).map tieN)) := by
  obtain ⟨q, o1, hq, p1, e1⟩ := draw2 (B := B) (L := sd.map D.int) (F := ps.map tieN) (m := i) hB ho h1 (by omega)
  have lB : (B.set l o1).length = m := by simp [hm]
  have ix := two_ix (B := B.set l o1) (F := ps.map tieN) (int_get (sd := sd) (k := q) (by omega))
  have e2 : (sd.map D.int).set i (.int (1 - sd.getD q 0)) = (sd.set i (1 - sd.getD q 0)).map D.int := by rw [List.map_set]
  have su := two_sub (B := B.set l o1) (L := sd.map D.int) (F := ps.map tieN) (k := i) (v := .int (1 - sd.getD q 0)) (by simp; omega) (by rw [e2]; exact pure_ints _)
  rw [e2] at su
  have n1 := ix_map (M := two (B.set l o1) ((sd.set i (1 - sd.getD q 0)).map D.int) (ps.map tieN)) (f := natD) (nm_get pn (k := q) (by omega)).1
  have n2 := ix_map (M := two (B.set l o1) ((sd.set i (1 - sd.getD q 0)).map D.int) (ps.map tieN)) (f := natD) (nm_get pn hi).1
  have isl := isl2b (B := B.set l o1) (L := (sd.set i (1 - sd.getD q 0)).map D.int) (F := ps.map tieN)
  have e3 : ps.map tieN ++ [tieN (nm.getD q 0, nm.getD i 0)] = (ps ++ [(nm.getD q 0, nm.getD i 0)]).map tieN := by simp
  have ap := app2 (B := B.set l o1) (L := (sd.set i (1 - sd.getD q 0)).map D.int) (F := ps.map tieN) (x := tieN (nm.getD q 0, nm.getD i 0)) (by have := hp.len; simp; omega) (by rw [e3]; exact pure_tieN _)
  rw [e3] at ap
  rw [lB] at ix su isl ap
  refine ⟨q, o1, sd.set i (1 - sd.getD q 0), hq, p1, by simp [hs], ?_⟩
  have tn : (D.tup [natD (nm.getD q 0), natD (nm.getD i 0)]) = tieN (nm.getD q 0, nm.getD i 0) := rfl
  rw [← tn] at ap
  unfold FB1 JE
  generalize nm.map natD = nl at *
  generalize (ps ++ [(nm.getD q 0, nm.getD i 0)]).map tieN = pl' at *
  generalize two B (sd.map D.int) (ps.map tieN) = S0 at *
  generalize two (B.set l o1) (sd.map D.int) (ps.map tieN) = S1 at *
  generalize two (B.set l o1) ((sd.set i (1 - sd.getD q 0)).map D.int) (ps.map tieN) = S2 at *
  generalize two (B.set l o1) ((sd.set i (1 - sd.getD q 0)).map D.int) pl' = S3 at *
  simp only [sSeq_e, sSet_e, sIf_e, sRet_e, sNop_e, sAsg_e, sExp_e, sFor_e, evTr_e, evC_e, ev2_e, evCall_e, evN_e, evCons_e, evNil_e, evTup_e, evLst_e, evAnd_e, evOr_e, evNot_e, evAndV_e, evOrV_e, evNotV_e, evIter_e, evRng_e, evM_e, evLc_e, u_var, List.getElem?_cons_zero, List.getElem?_cons_succ, List.set_cons_zero, List.set_cons_succ, List.length_cons, List.length_nil, Nat.reduceAdd, Nat.reduceLT, Nat.reduceLeDiff, bind_ok, bindN_ok, out_ok, then_nx, then_ret, then_exc, of_ok, tr_bl, itOf, sizeLine_eq, wipeD_cons, wipeD_nil, if_true, if_false, reduceIte, Bool.false_eq_true, Bool.true_eq_false, Bool.not_true, Bool.not_false, e1, sSub_e, ix, Mi.sub_int, su, isl, n1, n2, ap]
theorem fb3_ok {l way n m : Nat} {o : Option Ob} {nm : List Nat} {B : Store} {sd : List Int} {ps : List (Nat × Nat)} {c i j : Nat} {s6 : Option D} (pn : nm.Perm (List.range n)) (hm : B.length = m) (hB : B[l]? = some o) (ho : PenO o) (hs : sd.length = n) (hp : PsOk n nm c ps) (hc : c ≤ 100) (hi : i < n) (hj : j < i) (hn : n ≤ 8) :
    ∃ (o' : Option Ob) (ps' : List (Nat × Nat)), PenO o' ∧ (∀ p ∈ ps, p ∈ ps') ∧ PsOk n nm (c + 1) ps' ∧ FB3 (JE l way n nm m s6 (some (natD i)) (some (natD j))) (two B (sd.map D.int) (ps.map tieN)) = .nx (JE l way n nm m s6 (some (natD i)) (some (natD j))) (two (B.set l o') (sd.map D.int) (ps'.map tieN)) := by
  have ix1 := two_ix (B := B) (F := ps.map tieN) (int_get (sd := sd) (k := i) (by omega))
  have ix2 := two_ix (B := B) (F := ps.map tieN) (int_get (sd := sd) (k := j) (by omega))
  rw [hm] at ix1 ix2
  obtain ⟨r, o1, hr, p1, e1⟩ := draw2 (B := B) (L := sd.map D.int) (F := ps.map tieN) (m := 3) hB ho (by omega) (by omega)
  have z3 : (natD 3 : D) = .int 3 := rfl
  rw [z3] at e1
  have lB : (B.set l o1).length = m := by simp [hm]
  have eq := eq_zero (M := two (B.set l o1) (sd.map D.int) (ps.map tieN)) (a := r)
  have weak : PsOk n nm (c + 1) ps := ⟨hp.bnd, Nat.le_succ_of_le hp.len⟩
  obtain ⟨g, hg⟩ : ∃ g, opGt (natD way) (.int 4) (two B (sd.map D.int) (ps.map tieN)) = .ok (.bl g) (two B (sd.map D.int) (ps.map tieN)) := ⟨_, Mi.gt_int⟩
  by_cases first : g = true ∨ ¬ sd.getD i 0 = sd.getD j 0
  · by_cases hr0 : r = 0
    · have n1 := ix_map (M := two (B.set l o1) (sd.map D.int) (ps.map tieN)) (f := natD) (nm_get pn hi).1
      have n2 := ix_map (M := two (B.set l o1) (sd.map D.int) (ps.map tieN)) (f := natD) (nm_get pn (k := j) (by omega)).1
      have isl := isl2b (B := B.set l o1) (L := sd.map D.int) (F := ps.map tieN)
      have e3 : ps.map tieN ++ [tieN (nm.getD i 0, nm.getD j 0)] = (ps ++ [(nm.getD i 0, nm.getD j 0)]).map tieN := by simp
      have ap := app2 (B := B.set l o1) (L := sd.map D.int) (F := ps.map tieN) (x := tieN (nm.getD i 0, nm.getD j 0)) (by have := hp.len; simp; omega) (by rw [e3]; exact pure_tieN _)
      rw [e3] at ap
      rw [lB] at isl ap
      refine ⟨o1, ps ++ [(nm.getD i 0, nm.getD j 0)], p1, fun p hp' => List.mem_append_left _ hp', ps_add hp pn hi (by omega) (by omega), ?_⟩
      have tn : (D.tup [natD (nm.getD i 0), natD (nm.getD j 0)]) = tieN (nm.getD i 0, nm.getD j 0) := rfl
      rw [← tn] at ap
      have d0 : decide (r = 0) = true := by simp [hr0]
      rw [d0] at eq
      unfold FB3 JE
      generalize nm.map natD = nl at *
      generalize (ps ++ [(nm.getD i 0, nm.getD j 0)]).map tieN = pl' at *
      generalize two B (sd.map D.int) (ps.map tieN) = S0 at *
      generalize two (B.set l o1) (sd.map D.int) (ps.map tieN) = S1 at *
      generalize two (B.set l o1) (sd.map D.int) pl' = S3 at *
      cases g with
      | true => simp only [sSeq_e, sSet_e, sIf_e, sRet_e, sNop_e, sAsg_e, sExp_e, sFor_e, evTr_e, evC_e, ev2_e, evCall_e, evN_e, evCons_e, evNil_e, evTup_e, evLst_e, evAnd_e, evOr_e, evNot_e, evAndV_e, evOrV_e, evNotV_e, evIter_e, evRng_e, evM_e, evLc_e, u_var, List.getElem?_cons_zero, List.getElem?_cons_succ, List.set_cons_zero, List.set_cons_succ, List.length_cons, List.length_nil, Nat.reduceAdd, Nat.reduceLT, Nat.reduceLeDiff, bind_ok, bindN_ok, out_ok, then_nx, then_ret, then_exc, of_ok, tr_bl, itOf, sizeLine_eq, wipeD_cons, wipeD_nil, if_true, if_false, reduceIte, Bool.false_eq_true, Bool.true_eq_false, Bool.not_true, Bool.not_false, hg, e1, eq, isl, n1, n2, ap]
      | false =>
        have ne : (!decide (sd.getD i 0 = sd.getD j 0)) = true := by
          rcases first with f | f
          · cases f
          · rw [decide_eq_false f]; rfl
        simp only [sSeq_e, sSet_e, sIf_e, sRet_e, sNop_e, sAsg_e, sExp_e, sFor_e, evTr_e, evC_e, ev2_e, evCall_e, evN_e, evCons_e, evNil_e, evTup_e, evLst_e, evAnd_e, evOr_e, evNot_e, evAndV_e, evOrV_e, evNotV_e, evIter_e, evRng_e, evM_e, evLc_e, u_var, List.getElem?_cons_zero, List.getElem?_cons_succ, List.set_cons_zero, List.set_cons_succ, List.length_cons, List.length_nil, Nat.reduceAdd, Nat.reduceLT, Nat.reduceLeDiff, bind_ok, bindN_ok, out_ok, then_nx, then_ret, then_exc, of_ok, tr_bl, itOf, sizeLine_eq, wipeD_cons, wipeD_nil, if_true, if_false, reduceIte, Bool.false_eq_true, Bool.true_eq_false, Bool.not_true, Bool.not_false, hg, ix1, ix2, Mi.ne_int, ne, e1, eq, isl, n1, n2, ap]
    · refine ⟨o1, ps, p1, fun p hp' => hp', weak, ?_⟩
      have d0 : decide (r = 0) = false := by simp [hr0]
      rw [d0] at eq
      unfold FB3 JE
      generalize nm.map natD = nl at *
      generalize two B (sd.map D.int) (ps.map tieN) = S0 at *
      generalize two (B.set l o1) (sd.map D.int) (ps.map tieN) = S1 at *
      cases g with
      | true => simp only [sSeq_e, sSet_e, sIf_e, sRet_e, sNop_e, sAsg_e, sExp_e, sFor_e, evTr_e, evC_e, ev2_e, evCall_e, evN_e, evCons_e, evNil_e, evTup_e, evLst_e, evAnd_e, evOr_e, evNot_e, evAndV_e, evOrV_e, evNotV_e, evIter_e, evRng_e, evM_e, evLc_e, u_var, List.getElem?_cons_zero, List.getElem?_cons_succ, List.set_cons_zero, List.set_cons_succ, List.length_cons, List.length_nil, Nat.reduceAdd, Nat.reduceLT, Nat.reduceLeDiff, bind_ok, bindN_ok, out_ok, then_nx, then_ret, then_exc, of_ok, tr_bl, itOf, sizeLine_eq, wipeD_cons, wipeD_nil, if_true, if_false, reduceIte, Bool.false_eq_true, Bool.true_eq_false, Bool.not_true, Bool.not_false, hg, e1, eq]
      | false =>
        have ne : (!decide (sd.getD i 0 = sd.getD j 0)) = true := by
          rcases first with f | f
          · cases f
          · rw [decide_eq_false f]; rfl
        simp only [sSeq_e, sSet_e, sIf_e, sRet_e, sNop_e, sAsg_e, sExp_e, sFor_e, evTr_e, evC_e, ev2_e, evCall_e, evN_e, evCons_e, evNil_e, evTup_e, evLst_e, evAnd_e, evOr_e, evNot_e, evAndV_e, evOrV_e, evNotV_e, evIter_e, evRng_e, evM_e, evLc_e, u_var, List.getElem?_cons_zero, List.getElem?_cons_succ, List.set_cons_zero, List.set_cons_succ, List.length_cons, List.length_nil, Nat.reduceAdd, Nat.reduceLT, Nat.reduceLeDiff, bind_ok, bindN_ok, out_ok, then_nx, then_ret, then_exc, of_ok, tr_bl, itOf, sizeLine_eq, wipeD_cons, wipeD_nil, if_true, if_false, reduceIte, Bool.false_eq_true, Bool.true_eq_false, Bool.not_true, Bool.not_false, hg, ix1, ix2, Mi.ne_int, ne, e1, eq]
  · refine ⟨o, ps, ho, fun p hp' => hp', weak, ?_⟩
    rw [set_same' hB]
    have hgf : g = false := by
      cases g with
      | true => exact absurd (.inl rfl) first
      | false => rfl
    subst hgf
    have ne : (!decide (sd.getD i 0 = sd.getD j 0)) = false := by
      have e : sd.getD i 0 = sd.getD j 0 := Decidable.not_not.mp fun h => first (.inr h)
      rw [decide_eq_true e]; rfl
    unfold FB3 JE
    generalize nm.map natD = nl at *
    generalize two B (sd.map D.int) (ps.map tieN) = S0 at *
    simp only [sSeq_e, sSet_e, sIf_e, sRet_e, sNop_e, sAsg_e, sExp_e, sFor_e, evTr_e, evC_e, ev2_e, evCall_e, evN_e, evCons_e, evNil_e, evTup_e, evLst_e, evAnd_e, evOr_e, evNot_e, evAndV_e, evOrV_e, evNotV_e, evIter_e, evRng_e, evM_e, evLc_e, u_var, List.getElem?_cons_zero, List.getElem?_cons_succ, List.set_cons_zero, List.set_cons_succ, List.length_cons, List.length_nil, Nat.reduceAdd, Nat.reduceLT, Nat.reduceLeDiff, bind_ok, bindN_ok, out_ok, then_nx, then_ret, then_exc, of_ok, tr_bl, itOf, sizeLine_eq, wipeD_cons, wipeD_nil, if_true, if_false, reduceIte, Bool.false_eq_true, Bool.true_eq_false, Bool.not_true, Bool.not_false, hg, ix1, ix2, Mi.ne_int, ne]
theorem fb2_ok {l way n m : Nat} {o : Option Ob} {nm : List Nat} {B : Store} {sd : List Int} {ps : List (Nat × Nat)} {c i : Nat} {s6 s8 : Option D} (pn : nm.Perm (List.range n)) (hm : B.length = m) (hB : B[l]? = some o) (ho : PenO o) (hs : sd.length = n) (hp : PsOk n nm c ps) (hc : c ≤ 80) (hi : i < n) (hn : n ≤ 8) :
    ∃ (o' : Option Ob) (ps' : List (Nat × Nat)) (t8 : Option D), PenO o' ∧ (∀ p ∈ ps, p ∈ ps') ∧ PsOk n nm (c + 7) ps' ∧ FB2 (JE l way n nm m s6 (some (natD i)) s8) (two B (sd.map D.int) (ps.map tieN)) = .nx (JE l way n nm m s6 (some (natD i)) t8) (two (B.set l o') (sd.map D.int) (ps'.map tieN)) := by
  obtain ⟨env', M', f1, o', ps', t8, p1, sub, ok, rfl, rfl⟩ := for_inv (p := .nm 8) (body := FB3) (fun k env S => ∃ (o' : Option Ob) (ps' : List (Nat × Nat)) (t8 : Option D), PenO o' ∧ (∀ p ∈ ps, p ∈ ps') ∧ PsOk n nm (c + k) ps' ∧ env = JE l way n nm m s6 (some (natD i)) t8 ∧ S = two (B.set l o') (sd.map D.int) (ps'.map tieN)) ((List.range i).map natD) 0 _ _
    ⟨o, ps, s8, ho, fun p h => h, hp, rfl, by rw [set_same' hB]⟩
    (by
      rintro j y env S hy ⟨o1, ps1, t8, p1, sub, ok, rfl, rfl⟩
      have hj : j < i := by
        have := (List.getElem?_eq_some_iff.mp hy).1
        simpa using this
      have ey : y = natD j := by
        rw [List.getElem?_map, List.getElem?_range hj] at hy
        simpa using hy.symm
      subst ey
      obtain ⟨o2, ps2, p2, sub2, ok2, b⟩ := fb3_ok (way := way) (s6 := s6) pn (show (B.set l o1).length = m by simp [hm]) (get_set hB (y := o1)) p1 hs ok (by omega) hi hj hn
      rw [List.set_set] at b
      exact ⟨JE l way n nm m s6 (some (natD i)) (some (natD j)), _, _, by simp [asgP], b, o2, ps2, _, p2, fun p h => sub2 p (sub p h), ok2, rfl, rfl⟩)
  rw [List.length_map, List.length_range, Nat.zero_add] at ok
  refine ⟨o', ps', t8, p1, sub, ⟨ok.bnd, Nat.le_trans ok.len (by omega)⟩, ?_⟩
  have rg := rg_n (M := two B (sd.map D.int) (ps.map tieN)) (n := i) (by omega)
  unfold FB2 JE
  unfold JE at f1
  generalize nm.map natD = nl at *
  generalize two B (sd.map D.int) (ps.map tieN) = S0 at *
  generalize hFB : FB3 = fb at *
  simp only [sSeq_e, sSet_e, sIf_e, sRet_e, sNop_e, sAsg_e, sExp_e, sFor_e, evTr_e, evC_e, ev2_e, evCall_e, evN_e, evCons_e, evNil_e, evTup_e, evLst_e, evAnd_e, evOr_e, evNot_e, evAndV_e, evOrV_e, evNotV_e, evIter_e, evRng_e, evM_e, evLc_e, u_var, List.getElem?_cons_zero, List.getElem?_cons_succ, List.set_cons_zero, List.set_cons_succ, List.length_cons, List.length_nil, Nat.reduceAdd, Nat.reduceLT, Nat.reduceLeDiff, bind_ok, bindN_ok, out_ok, then_nx, then_ret, then_exc, of_ok, tr_bl, itOf, sizeLine_eq, wipeD_cons, wipeD_nil, if_true, if_false, reduceIte, Bool.false_eq_true, Bool.true_eq_false, Bool.not_true, Bool.not_false, rg, f1]
/-- all are linked to the first name -/
theorem tree_jn {n : Nat} {nm : List Nat} {ps qs : List (Nat × Nat)} (pn : nm.Perm (List.range n)) (h1 : 1 ≤ n) (adj : ∀ u v, adjN qs u v = true ↔ (u, v) ∈ ps ∨ (v, u) ∈ ps) (tree : ∀ p, 1 ≤ p → p < n → ∃ q, q < p ∧ (nm.getD q 0, nm.getD p 0) ∈ ps) : Jn n qs := by
  have key : ∀ p, p < n → ∃ k, Bl n (adjN qs) (nm.getD 0 0) k (nm.getD p 0) = true := fun p => by
    induction p using Nat.strongRecOn with
    | _ p ih =>
      intro hp
      rcases Nat.eq_zero_or_pos p with z | z
      · subst z; exact ⟨0, by simp [Bl]⟩
      · obtain ⟨q, hq, hm⟩ := tree p z hp
        obtain ⟨k, hk⟩ := ih q hq (by omega)
        exact ⟨k + 1, bl_step.mpr (.inr ⟨_, (nm_get pn (by omega)).2, hk, (adj _ _).mpr (.inl hm)⟩)⟩
  have all : ∀ v, v < n → ∃ k, Bl n (adjN qs) (nm.getD 0 0) k v = true := fun v hv => by
    have hm : v ∈ nm := pn.mem_iff.mpr (List.mem_range.mpr hv)
    obtain ⟨p, hp, e⟩ := List.getElem_of_mem hm
    have hl : nm.length = n := by rw [pn.length_eq, List.length_range]
    obtain ⟨k, hk⟩ := key p (by omega)
    have e1 : nm.getD p 0 = nm[p] := by rw [List.getD_eq_getElem?_getD, List.getElem?_eq_getElem hp]; rfl
    rw [e1, e] at hk
    exact ⟨k, hk⟩
  intro v hv
  obtain ⟨k1, b1⟩ := all 0 (by omega)
  obtain ⟨k2, b2⟩ := all v hv
  exact bl_cap hv (bl_trans (bl_symm adj_symm (by omega) b1) b2)
theorem joinedweb_ok {l : Nat} {o : Option Ob} (hM : M[l]? = some o) (ho : PenO o) :
    ∃ (n : Nat) (qs : List (Nat × Nat)) (o' : Option Ob), 1 ≤ n ∧ n ≤ 8 ∧ TiesN n qs ∧ qs.length ≤ 28 ∧ Jn n qs ∧ PenO o' ∧ d__law_joined_web [.loc l] M = .ok (webN n qs) (M.set l o') := by
  obtain ⟨way, o1, hw, p1, e1⟩ := drawK (m := 7) hM ho (by omega) (by omega)
  have z7 : (natD 7 : D) = .int 7 := rfl
  rw [z7] at e1
  have hM1 := get_set hM (y := o1)
  have lt3 : opLt (natD way) (.int 3) (M.set l o1) = .ok (.bl (decide (way < 3))) (M.set l o1) := by
    rw [Mi.lt_int]
    congr 2
    by_cases h : way < 3
    · have : (way : Int) < 3 := by omega
      simp [h, this]
    · have : ¬ (way : Int) < 3 := by omega
      simp [h, this]
  by_cases h3 : way < 3
  · obtain ⟨w, rows, o2, g, p2, e2⟩ := lying_ok hM1 p1
    rw [List.set_set] at e2
    obtain ⟨qs, tn, l28, jn, adj, e3⟩ := webby_ok (M := M.set l o2) g
    refine ⟨rows.length, qs, o2, g.pos, g.few, tn, l28, jn, p2, ?_⟩
    have b : b__law_joined_web [some (.loc l), none, none, none, none, none, none, none, none] M = .ret (webN rows.length qs) (M.set l o2) := by
      have d3 : decide (way < 3) = true := by simp [h3]
      rw [d3] at lt3
      generalize webN rows.length qs = wn at *
      generalize rows.map rowD = rl at *
      generalize M.set l o2 = M2 at *
      generalize M.set l o1 = M1 at *
      unfold b__law_joined_web
      simp only [sSeq_e, sSet_e, sIf_e, sRet_e, sNop_e, sAsg_e, sExp_e, sFor_e, evTr_e, evC_e, ev2_e, evCall_e, evN_e, evCons_e, evNil_e, evTup_e, evLst_e, evAnd_e, evOr_e, evNot_e, evAndV_e, evOrV_e, evNotV_e, evIter_e, evRng_e, evM_e, evLc_e, u_var, List.getElem?_cons_zero, List.getElem?_cons_succ, List.set_cons_zero, List.set_cons_succ, List.length_cons, List.length_nil, Nat.reduceAdd, Nat.reduceLT, Nat.reduceLeDiff, bind_ok, bindN_ok, out_ok, then_nx, then_ret, then_exc, of_ok, tr_bl, itOf, sizeLine_eq, wipeD_cons, wipeD_nil, if_true, if_false, reduceIte, Bool.false_eq_true, Bool.true_eq_false, Bool.not_true, Bool.not_false, e1, lt3, e2, e3]
    have z := run_ret (n := 9) (ds := [.loc l]) b (frz_ok ok_web)
    rw [take_set1] at z
    exact z
  · obtain ⟨r, o2, hr, p2, e2⟩ := drawK (m := 8) hM1 p1 (by omega) (by omega)
    rw [List.set_set] at e2
    have z8 : (natD 8 : D) = .int 8 := rfl
    rw [z8] at e2
    have hn : r + 1 ≤ 8 := by omega
    have hM2 := get_set hM (y := o2)
    obtain ⟨ys, o3, py, p3, e3⟩ := mixed_ok (M := M.set l o2) hM2 p2 (py_natL (List.range (r + 1))) (pure_nats _) (by simp; omega)
    rw [List.set_set] at e3
    obtain ⟨nm, rfl, pn⟩ := perm_back inv_nat py
    have hM3 := get_set hM (y := o3)
    have ln : (M.set l o3).length = M.length := by simp
    generalize hn1 : r + 1 = n at *
    have one : opAdd (.int 1) (natD r) (M.set l o2) = .ok (natD n) (M.set l o2) := by
      rw [Mi.add_int]; congr 2; omega
    have sides : opMulN (.lst [.int 0]) (natD n) (M.set l o3) = .ok (.loc (M.set l o3).length) (M.set l o3 ++ [some (.lst ((List.replicate n (0 : Int)).map D.int))]) := by
      have e0 : ∀ m : Nat, (List.replicate m [D.int 0]).flatten = (List.replicate m (0 : Int)).map D.int := fun m => by
        induction m with
        | zero => rfl
        | succ m ih => rw [List.replicate_succ, List.flatten_cons, ih, List.replicate_succ]; rfl
      have lo : Mi.listOf (M.set l o3) (.lst [.int 0]) = some [.int 0] := rfl
      unfold opMulN
      simp only [lo, of_ok, bind_ok]
      rw [show ((n : Int)).toNat = n by simp, e0, if_pos ⟨⟨by omega, by omega, by rw [sizeLine_eq]; simp; omega⟩, pure_ints _⟩]
    -- the tree
    obtain ⟨env1, M1', f1, q1, sd1, ps1, u6, u8, ho1, hs1, ok1, tree1, rfl, rfl⟩ := for_inv (p := .nm 6) (body := FB1) (fun k env S => ∃ (o' : Option Ob) (sd : List Int) (ps : List (Nat × Nat)) (u6 u8 : Option D), PenO o' ∧ sd.length = n ∧ PsOk n nm k ps ∧ (∀ p, 1 ≤ p → p < k + 1 → ∃ q, q < p ∧ (nm.getD q 0, nm.getD p 0) ∈ ps) ∧ env = JE l way n nm M.length u6 none u8 ∧ S = two (M.set l o') (sd.map D.int) (ps.map tieN)) ((List.range (n - 1)).map fun j => natD (j + 1)) 0 (JE l way n nm M.length none none none) (two (M.set l o3) ((List.replicate n (0 : Int)).map D.int) (([] : List (Nat × Nat)).map tieN))
      ⟨o3, List.replicate n 0, [], none, none, p3, by simp, ⟨(fun p h => by cases h), by simp⟩, (fun p a b => by omega), rfl, rfl⟩
      (by
        rintro j y env S hy ⟨o', sd, ps, u6, u8, hp', hs, ok, tree, rfl, rfl⟩
        have hj : j < n - 1 := by
          have := (List.getElem?_eq_some_iff.mp hy).1
          simpa using this
        have ey : y = natD (j + 1) := by
          rw [List.getElem?_map, List.getElem?_range hj] at hy
          simpa using hy.symm
        subst ey
        rw [Nat.zero_add] at ok tree ⊢
        obtain ⟨q, o2', sd', hq, hp2, hs2, b⟩ := fb1_ok (way := way) (s7 := none) (s8 := u8) pn (show (M.set l o').length = M.length by simp) (get_set hM (y := o')) hp' hs ok (by omega) (i := j + 1) (by omega) (by omega) hn
        rw [List.set_set] at b
        refine ⟨JE l way n nm M.length (some (natD (j + 1))) none u8, _, _, by simp [asgP], b, o2', sd', _, _, _, hp2, hs2, ps_add ok pn (by omega) (by omega) (by omega), fun p a b' => ?_, rfl, rfl⟩
        by_cases c : p < j + 1
        · obtain ⟨q', h1, h2⟩ := tree p a c
          exact ⟨q', h1, List.mem_append_left _ h2⟩
        · obtain rfl : p = j + 1 := by omega
          exact ⟨q, hq, by simp⟩)
    rw [List.length_map, List.length_range, Nat.zero_add] at ok1 tree1
    -- more ties
    obtain ⟨env2, M2', f2, q2, ps2, v7, v8, ho2, sub2, ok2, rfl, rfl⟩ := for_inv (p := .nm 7) (body := FB2) (fun k env S => ∃ (o' : Option Ob) (ps : List (Nat × Nat)) (v7 v8 : Option D), PenO o' ∧ (∀ p ∈ ps1, p ∈ ps) ∧ PsOk n nm (n - 1 + 7 * k) ps ∧ env = JE l way n nm M.length u6 v7 v8 ∧ S = two (M.set l o') (sd1.map D.int) (ps.map tieN)) ((List.range n).map natD) 0 (JE l way n nm M.length u6 none u8) (two (M.set l q1) (sd1.map D.int) (ps1.map tieN))
      ⟨q1, ps1, none, u8, ho1, fun p h => h, ok1, rfl, rfl⟩
      (by
        rintro j y env S hy ⟨o', ps, v7, v8, hp', sub, ok, rfl, rfl⟩
        have hj : j < n := by
          have := (List.getElem?_eq_some_iff.mp hy).1
          simpa using this
        have ey : y = natD j := by
          rw [List.getElem?_map, List.getElem?_range hj] at hy
          simpa using hy.symm
        subst ey
        rw [Nat.zero_add] at ok ⊢
        obtain ⟨o2', ps', t8, hp2, sub', ok', b⟩ := fb2_ok (way := way) (s6 := u6) (s8 := v8) pn (show (M.set l o').length = M.length by simp) (get_set hM (y := o')) hp' hs1 ok (by omega) hj hn
        rw [List.set_set] at b
        exact ⟨JE l way n nm M.length u6 (some (natD j)) v8, _, _, by simp [asgP], b, o2', ps', _, _, hp2, fun p h => sub' p (sub p h), ⟨ok'.bnd, Nat.le_trans ok'.len (by omega)⟩, rfl, rfl⟩)
    rw [List.length_map, List.length_range, Nat.zero_add] at ok2
    obtain ⟨qs, e5, tn, l28, adj⟩ := webof_ok (M := M.set l q2 ++ [some (.lst (sd1.map D.int)), none]) (n := n) (ps := ps2) ok2.bnd hn (by have := ok2.len; omega)
    have jn : Jn n qs := tree_jn pn (by omega) adj fun p a b => by
      obtain ⟨q, h1, h2⟩ := tree1 p a (by omega)
      exact ⟨q, h1, sub2 _ h2⟩
    refine ⟨n, qs, q2, by omega, hn, tn, l28, jn, ho2, ?_⟩
    have fz : evFrzV 5 (JE l way n nm M.length u6 v7 v8) (two (M.set l q2) (sd1.map D.int) (ps2.map tieN)) = .ok (.lst (ps2.map tieN)) (M.set l q2 ++ [some (.lst (sd1.map D.int)), none]) := by
      have g := two_b (B := M.set l q2) (L := sd1.map D.int) (F := ps2.map tieN)
      have s := set_b (B := M.set l q2) (L := sd1.map D.int) (F := ps2.map tieN) (o := none)
      rw [List.length_set] at g s
      rw [evFrzV_e (l := M.length + 1) (xs := ps2.map tieN) rfl g, s]
    have rg1 : Res.of (rng2 [.int 1, natD n]) (two (M.set l o3) ((List.replicate n (0 : Int)).map D.int) []) = .ok ((List.range (n - 1)).map fun j => natD (j + 1)) (two (M.set l o3) ((List.replicate n (0 : Int)).map D.int) []) := by
      have er : rngD 1 1 ((n : Int) - 1).toNat = (List.range (n - 1)).map fun j => natD (j + 1) := by
        rw [show ((n : Int) - 1).toNat = n - 1 by omega]
        unfold rngD
        exact List.map_congr_left fun j _ => by
          show D.int ((1 : Int) + (j : Int) * 1) = D.int ((j + 1 : Nat) : Int)
          rw [show (1 : Int) + (j : Int) * 1 = ((j + 1 : Nat) : Int) by omega]
      rw [rng2_int (by omega), of_ok, er]
    have rg2 := rg_n (M := two (M.set l q1) (sd1.map D.int) (ps1.map tieN)) (n := n) (by omega)
    have lr := LR_ok (M := M.set l o2) (w := n) (f := evVar 2) (env := [some (.loc l), some (natD way), some (natD n), none, none, none, none, none, none]) rfl (by omega)
    have nw : evNew evNil [some (.loc l), some (natD way), some (natD n), some (.lst (nm.map natD)), some (.loc M.length), none, none, none, none] (M.set l o3 ++ [some (.lst ((List.replicate n (0 : Int)).map D.int))]) = .ok (.loc (M.length + 1)) (two (M.set l o3) ((List.replicate n (0 : Int)).map D.int) []) := by
      rw [evNew_e, evNil_e, bind_ok, if_pos ⟨by simp, rfl⟩]
      simp [two]
    rw [ln] at sides
    have b : b__law_joined_web [some (.loc l), none, none, none, none, none, none, none, none] M = .ret (webN n qs) (M.set l q2 ++ [some (.lst (sd1.map D.int)), none]) := by
      have be : b__law_joined_web = (sSeq (sSet 1 (evCall d__law_draw (evCons (evVar 0) (evCons (evC (.int 7)) evNil)))) (sSeq (sIf (evTr (ev2 opLt (evVar 1) (evC (.int 3)))) (sRet (evCall d__law_web_by (evCons (evCall d__law_lying (evCons (evVar 0) (evCons (evC (.int 8)) evNil))) evNil))) sNop) (sSeq (sSet 2 (ev2 opAdd (evC (.int 1)) (evCall d__law_draw (evCons (evVar 0) (evCons (evC (.int 8)) evNil))))) (sSeq (sSet 3 (evCall d__law_mixed (evCons (evVar 0) (evCons (evLR (evVar 2)) evNil)))) (sSeq (sSet 4 (ev2 opMulN (evLst (evCons (evC (.int 0)) evNil)) (evVar 2))) (sSeq (sSet 5 (evNew evNil)) (sSeq (sFor (.nm 6) (evRng rng2 (evCons (evC (.int 1)) (evCons (evVar 2) evNil))) FB1) (sSeq (sFor (.nm 7) (evRng rng1 (evCons (evVar 2) evNil)) FB2) (sRet (evCall d__law_web_of (evCons (evVar 2) (evCons (evFrzV 5) evNil)))))))))))) := rfl
      rw [be]
      have d3 : decide (way < 3) = false := by simp [h3]
      rw [d3] at lt3
      unfold JE at f1 f2 fz
      rw [List.map_nil] at f1
      clear tree1 sub2 adj jn tn
      generalize hF1 : FB1 = fb1 at *
      generalize hF2 : FB2 = fb2 at *
      generalize webN n qs = wn at *
      generalize ps2.map tieN = pl2 at *
      generalize nm.map natD = nl at *
      generalize M.set l q2 ++ [some (Ob.lst (sd1.map D.int)), none] = S9 at *
      generalize two (M.set l q2) (sd1.map D.int) pl2 = S8 at *
      generalize two (M.set l q1) (sd1.map D.int) (ps1.map tieN) = S7 at *
      generalize two (M.set l o3) ((List.replicate n (0 : Int)).map D.int) [] = S6 at *
      generalize M.set l o3 ++ [some (Ob.lst ((List.replicate n (0 : Int)).map D.int))] = S5 at *
      generalize M.set l o3 = S4 at *
      generalize M.set l o2 = S3 at *
      generalize M.set l o1 = S2 at *
      simp only [sSeq_e, sSet_e, sIf_e, sRet_e, sNop_e, sAsg_e, sExp_e, sFor_e, evTr_e, evC_e, ev2_e, evCall_e, evN_e, evCons_e, evNil_e, evTup_e, evLst_e, evAnd_e, evOr_e, evNot_e, evAndV_e, evOrV_e, evNotV_e, evIter_e, evRng_e, evM_e, evLc_e, u_var, List.getElem?_cons_zero, List.getElem?_cons_succ, List.set_cons_zero, List.set_cons_succ, List.length_cons, List.length_nil, Nat.reduceAdd, Nat.reduceLT, Nat.reduceLeDiff, bind_ok, bindN_ok, out_ok, then_nx, then_ret, then_exc, of_ok, tr_bl, itOf, sizeLine_eq, wipeD_cons, wipeD_nil, if_true, if_false, reduceIte, Bool.false_eq_true, Bool.true_eq_false, Bool.not_true, Bool.not_false, e1, lt3, e2, one, lr, e3, sides, nw, rg1, f1, rg2, f2, fz, e5]
    have z := run_ret (n := 9) (ds := [.loc l]) b (frz_ok ok_web)
    have t : (M.set l q2 ++ [some (Ob.lst (sd1.map D.int)), none]).take M.length = M.set l q2 := by
      rw [List.take_append_of_le_length (by simp), List.take_of_length_le (by simp)]
    rw [t] at z
    exact z
end
end Hd

set_option Elab.async false
set_option linter.all false
set_option maxRecDepth 100000
namespace Hd
open Mi PySem PySem.Spec PyProof.Rows L2
section
variable {M : Store} {x : D} {env : Ev} {n : Nat} {qs : List (Nat × Nat)}
abbrev rowDs (n : Nat) (qs : List (Nat × Nat)) (a : Nat) : D := .lst ((List.range n).map fun b => natD (dst n qs a b))
theorem far_dst (hj : Jn n qs) : farD n qs = dstD n qs := by
  unfold farD dstD
  congr 1
  refine List.map_congr_left fun a ha => ?_
  have ha' := List.mem_range.mp ha
  congr 1
  unfold rowR
  rw [List.map_map]
  refine List.map_congr_left fun b hb => ?_
  show oD (Al_ n (adjN qs) a (n - 1) b) = natD (dst n qs a b)
  rw [al_dst hj ha' (List.mem_range.mp hb)]; rfl
theorem ix_d1 {a : Nat} (ha : a < n) : opIx (dstD n qs) (natD a) M = .ok (rowDs n qs a) M := ix_map (l := List.range n) (f := fun a => rowDs n qs a) (by simp [ha])
theorem ix_d2 {a b : Nat} (hb : b < n) : opIx (rowDs n qs a) (natD b) M = .ok (natD (dst n qs a b)) M := ix_map (l := List.range n) (f := fun b => natD (dst n qs a b)) (by simp [hb])
theorem len_dst : biLen [dstD n qs] M = .ok (natD n) M := by simp [biLen, seqOf, Mi.listOf]
theorem out_exc {c : Nat} {fs : List (Str × D)} {f : D → Store → Out} : (Res.exc c fs M).out env f = .exc c fs env M := (rfl)
theorem noFn_ok {d : D} (h : okD d = true) : noFn d = true := noFn_pure _ (ok_pure d h)
theorem eq_tupN {l : List Nat} : opEq (.tup (l.map natD)) (.tup (l.map natD)) M = .ok (.bl true) M := by
  obtain ⟨ps, p1, p2, p3, p4⟩ := pys_of (py_natL l)
  have e1 : toPyM M (.tup (l.map natD)) = some (.tuple ps) := by simp [toPyM, toPy, p1]
  have c : (PyData.tuple ps).canLay0 = true := by simp [PyData.canLay0, p3]
  have s : SeqAt.shaped (.tuple ps) = true := by simp [SeqAt.shaped, c, PyData.depth]; omega
  have e3 := SeqAt.eqv_refl _ c
  simp [opEq, eqDs, e1, s, e3]
theorem bls_map {α : Type} (f : α → Bool) : ∀ l : List α, blsOf (l.map fun a => D.bl (f a)) = some (l.map f)
  | [] => rfl
  | a :: l => by simp [blsOf, bls_map f l]
theorem tupis_ok {l : List Nat} (hl : l.length ≤ 100) : d__law_tuple_is [.tup (l.map natD), .tup (l.map natD)] M = .ok (.bl true) M := by
  have it : biIsi [.tup (l.map natD), .ty "tuple"] M = .ok (.bl true) M := isi_T
  have eq := eq_tupN (M := M) (l := l)
  have lc := lc_mapF (M := M) (p := .nm 2) (fe := evCall d__law_whole (evCons (evVar 2) evNil)) natD (fun _ => .bl true) (env := [some (.tup (l.map natD)), some (.tup (l.map natD)), none]) l [] (fun v hv => by
    have w := lwhole_ok (M := M) (x := natD v) rfl
    have hi : isI (natD v) = true := rfl
    rw [hi] at w
    refine ⟨[some (.tup (l.map natD)), some (.tup (l.map natD)), some (natD v)], by simp [asgP], ?_⟩
    generalize l.map natD = nl at *
    simp only [sSeq_e, sSet_e, sIf_e, sRet_e, sNop_e, sAsg_e, sExp_e, sFor_e, evTr_e, evC_e, ev2_e, evCall_e, evN_e, evCons_e, evNil_e, evTup_e, evLst_e, evAnd_e, evOr_e, evNot_e, evAndV_e, evOrV_e, evNotV_e, evIter_e, evRng_e, evM_e, evLc_e, u_var, List.getElem?_cons_zero, List.getElem?_cons_succ, List.set_cons_zero, List.set_cons_succ, List.length_cons, List.length_nil, Nat.reduceAdd, Nat.reduceLT, Nat.reduceLeDiff, bind_ok, bindN_ok, out_ok, then_nx, then_ret, then_exc, of_ok, tr_bl, itOf, sizeLine_eq, wipeD_cons, wipeD_nil, if_true, if_false, reduceIte, Bool.false_eq_true, Bool.true_eq_false, Bool.not_true, Bool.not_false, w]) (by simp; omega)
  rw [List.nil_append] at lc
  have bb : biBls (fun l => l.all id) [.lst (l.map fun _ => D.bl true)] M = .ok (.bl true) M := by
    unfold biBls
    simp only [Mi.listOf, of_ok, bind_ok, bls_map (fun _ : Nat => true) l]
    have : ((l.map fun _ => true).all id) = true := by simp
    rw [this]
  have b' : b__law_tuple_is [some (.tup (l.map natD)), some (.tup (l.map natD)), none] M = .ret (.bl true) M := by
    generalize (l.map fun _ => D.bl true) = bl at *
    generalize l.map natD = nl at *
    unfold b__law_tuple_is
    simp only [sSeq_e, sSet_e, sIf_e, sRet_e, sNop_e, sAsg_e, sExp_e, sFor_e, evTr_e, evC_e, ev2_e, evCall_e, evN_e, evCons_e, evNil_e, evTup_e, evLst_e, evAnd_e, evOr_e, evNot_e, evAndV_e, evOrV_e, evNotV_e, evIter_e, evRng_e, evM_e, evLc_e, u_var, List.getElem?_cons_zero, List.getElem?_cons_succ, List.set_cons_zero, List.set_cons_succ, List.length_cons, List.length_nil, Nat.reduceAdd, Nat.reduceLT, Nat.reduceLeDiff, bind_ok, bindN_ok, out_ok, then_nx, then_ret, then_exc, of_ok, tr_bl, itOf, sizeLine_eq, wipeD_cons, wipeD_nil, if_true, if_false, reduceIte, Bool.false_eq_true, Bool.true_eq_false, Bool.not_true, Bool.not_false, it, eq, lc, bb]
  have z := run_ret (n := 3) (ds := [.tup (l.map natD), .tup (l.map natD)]) b' frz_bl
  rw [List.take_length] at z
  exact z
theorem evNeg_e' {f1 : Ev → Store → Res D} : evNeg f1 env M = (f1 env M).bind fun d M => match d with | .int i => .ok (.int (-i)) M | _ => .stuck := (rfl)
theorem noplace_ok {l : Nat} {o : Option Ob} (hM : M[l]? = some o) (ho : PenO o) (hn : n ≤ 8) : ∃ d o', okD d = true ∧ inR 0 n d = false ∧ PenO o' ∧ d__law_no_place [.loc l, natD n] M = .ok d (M.set l o') := by
  obtain ⟨r, o1, r0, r1, p1, e1⟩ := draw' (m := (10 : Int) ^ 9) hM ho (by decide) (by decide)
  obtain ⟨k, o2, k0, k1, p2, e2⟩ := draw' (m := 10) (get_set hM (y := o1)) p1 (by omega) (by omega)
  rw [List.set_set] at e2
  obtain ⟨d, hd, e3⟩ := ix_mem (L := [natD n, .int ((n : Int) + 1 + r), .int (-1), .bl true, .bl false, .non, .str "0", .tup [.int 0], .lst [.int 0], .dct0]) k0 (by simpa using k1)
  have e3 := e3 (M.set l o2)
  have hok : okD d = true ∧ inR 0 n d = false := by
    simp only [List.mem_cons, List.not_mem_nil, or_false] at hd
    rcases hd with rfl | rfl | rfl | rfl | rfl | rfl | rfl | rfl | rfl | rfl
    · exact ⟨rfl, by simp [inR]⟩
    · exact ⟨rfl, by simp [inR]; omega⟩
    · exact ⟨rfl, by simp [inR]⟩
    all_goals exact ⟨rfl, rfl⟩
  refine ⟨d, o2, hok.1, hok.2, p2, ?_⟩
  have hpow : opPow (.int 10) (.int 9) M = .ok (.int ((10 : Int) ^ 9)) M := by
    have : CPowB 10 9 := ⟨by decide, by decide, by decide⟩
    simp [opPow, opII, this]
  have b' : b__law_no_place [some (.loc l), some (natD n), none] M = .ret d (M.set l o2) := by
    generalize (10 : Int) ^ 9 = big at *
    unfold b__law_no_place
    simp only [sSeq_e, sSet_e, sIf_e, sRet_e, sNop_e, sAsg_e, sExp_e, sFor_e, evTr_e, evC_e, ev2_e, evCall_e, evN_e, evCons_e, evNil_e, evTup_e, evLst_e, evAnd_e, evOr_e, evNot_e, evAndV_e, evOrV_e, evNotV_e, evIter_e, evRng_e, evM_e, evLc_e, u_var, List.getElem?_cons_zero, List.getElem?_cons_succ, List.set_cons_zero, List.set_cons_succ, List.length_cons, List.length_nil, Nat.reduceAdd, Nat.reduceLT, Nat.reduceLeDiff, bind_ok, bindN_ok, out_ok, then_nx, then_ret, then_exc, of_ok, tr_bl, itOf, sizeLine_eq, wipeD_cons, wipeD_nil, if_true, if_false, reduceIte, Bool.false_eq_true, Bool.true_eq_false, Bool.not_true, Bool.not_false, Mi.add_int, hpow, e1, evNeg_e', e2, e3]
  unfold d__law_no_place
  rw [run_ret (n := 3) (ds := [.loc l, natD n]) b' (frz_ok hok.1), take_set1]

/-! ### a list of places -/
def isL : D → Bool
  | .lst _ => true
  | _ => false
theorem isi_lst (h : okD x = true) : biIsi [x, .ty "list"] M = .ok (.bl (isL x)) M := by
  cases x <;> simp [okD] at h <;> simp [biIsi, tyD, isiB, isL]
def plcB (n : Nat) : D → Bool
  | .lst xs => (decide (1 ≤ xs.length) && decide (xs.length ≤ 12)) && xs.all (inR 0 n)
  | _ => false
theorem plc_ok (hx : okD x = true) {tl : D} : d__are_places [.tup [natD n, tl], x] M = .ok (.bl (plcB n x)) M := by
  have il := isi_lst (M := M) hx
  have b : b__are_places [some (.tup [natD n, tl]), some x] M = .ret (.bl (plcB n x)) M := by
    cases h : isL x with
    | false =>
      rw [h] at il
      have e : plcB n x = false := by cases x <;> first | rfl | cases h
      rw [e]
      unfold b__are_places
      simp only [sSeq_e, sSet_e, sIf_e, sRet_e, sNop_e, sAsg_e, sExp_e, sFor_e, evTr_e, evC_e, ev2_e, evCall_e, evN_e, evCons_e, evNil_e, evTup_e, evLst_e, evAnd_e, evOr_e, evNot_e, evAndV_e, evOrV_e, evNotV_e, evIter_e, evRng_e, evM_e, evLc_e, u_var, List.getElem?_cons_zero, List.getElem?_cons_succ, List.set_cons_zero, List.set_cons_succ, List.length_cons, List.length_nil, Nat.reduceAdd, Nat.reduceLT, Nat.reduceLeDiff, bind_ok, bindN_ok, out_ok, then_nx, then_ret, then_exc, of_ok, tr_bl, itOf, sizeLine_eq, wipeD_cons, wipeD_nil, if_true, if_false, reduceIte, Bool.false_eq_true, Bool.true_eq_false, Bool.not_true, Bool.not_false, il]
    | true =>
      obtain ⟨xs, rfl⟩ : ∃ xs, x = .lst xs := by cases x <;> first | exact ⟨_, rfl⟩ | cases h
      rw [h] at il
      have ln : biLen [.lst xs] M = .ok (.int (xs.length : Int)) M := by simp [biLen, seqOf, Mi.listOf]
      have bt : biTuple [.lst xs] M = .ok (.tup xs) M := by simp [biTuple, Mi.listOf]
      have hx' : okD (.tup xs) = true := by simpa [okD] using hx
      have ab := allb_ok (M := M) (x := .tup xs) (s := (xs.length : Int)) (m := (n : Int)) hx'
      have e2 : tupB (xs.length : Int) (inR 0 n) (.tup xs) = xs.all (inR 0 n) := by simp [tupB]
      rw [e2] at ab
      have i0 : opIx (.tup [natD n, tl]) (.int 0) M = .ok (natD n) M := rfl
      by_cases c1 : 1 ≤ xs.length
      · have d1 : decide ((1 : Int) ≤ (xs.length : Int)) = true := by simp; omega
        by_cases c2 : xs.length ≤ 12
        · have d2 : decide ((xs.length : Int) ≤ 12) = true := by simp; omega
          have e : plcB n (.lst xs) = xs.all (inR 0 n) := by simp [plcB, c1, c2]
          rw [e]
          generalize D.tup [natD n, tl] = w at *
          unfold b__are_places
          simp only [sSeq_e, sSet_e, sIf_e, sRet_e, sNop_e, sAsg_e, sExp_e, sFor_e, evTr_e, evC_e, ev2_e, evCall_e, evN_e, evCons_e, evNil_e, evTup_e, evLst_e, evAnd_e, evOr_e, evNot_e, evAndV_e, evOrV_e, evNotV_e, evIter_e, evRng_e, evM_e, evLc_e, u_var, List.getElem?_cons_zero, List.getElem?_cons_succ, List.set_cons_zero, List.set_cons_succ, List.length_cons, List.length_nil, Nat.reduceAdd, Nat.reduceLT, Nat.reduceLeDiff, bind_ok, bindN_ok, out_ok, then_nx, then_ret, then_exc, of_ok, tr_bl, itOf, sizeLine_eq, wipeD_cons, wipeD_nil, if_true, if_false, reduceIte, Bool.false_eq_true, Bool.true_eq_false, Bool.not_true, Bool.not_false, il, evCh_e, chLink_e, chLast_e, ln, Mi.le_int, d1, d2, bt, i0, ab]
        · have d2 : decide ((xs.length : Int) ≤ 12) = false := by simp; omega
          have e : plcB n (.lst xs) = false := by simp [plcB, c1, c2]
          rw [e]
          generalize D.tup [natD n, tl] = w at *
          unfold b__are_places
          simp only [sSeq_e, sSet_e, sIf_e, sRet_e, sNop_e, sAsg_e, sExp_e, sFor_e, evTr_e, evC_e, ev2_e, evCall_e, evN_e, evCons_e, evNil_e, evTup_e, evLst_e, evAnd_e, evOr_e, evNot_e, evAndV_e, evOrV_e, evNotV_e, evIter_e, evRng_e, evM_e, evLc_e, u_var, List.getElem?_cons_zero, List.getElem?_cons_succ, List.set_cons_zero, List.set_cons_succ, List.length_cons, List.length_nil, Nat.reduceAdd, Nat.reduceLT, Nat.reduceLeDiff, bind_ok, bindN_ok, out_ok, then_nx, then_ret, then_exc, of_ok, tr_bl, itOf, sizeLine_eq, wipeD_cons, wipeD_nil, if_true, if_false, reduceIte, Bool.false_eq_true, Bool.true_eq_false, Bool.not_true, Bool.not_false, il, evCh_e, chLink_e, chLast_e, ln, Mi.le_int, d1, d2]
      · have d1 : decide ((1 : Int) ≤ (xs.length : Int)) = false := by simp; omega
        have e : plcB n (.lst xs) = false := by simp [plcB]; intro z; omega
        rw [e]
        generalize D.tup [natD n, tl] = w at *
        unfold b__are_places
        simp only [sSeq_e, sSet_e, sIf_e, sRet_e, sNop_e, sAsg_e, sExp_e, sFor_e, evTr_e, evC_e, ev2_e, evCall_e, evN_e, evCons_e, evNil_e, evTup_e, evLst_e, evAnd_e, evOr_e, evNot_e, evAndV_e, evOrV_e, evNotV_e, evIter_e, evRng_e, evM_e, evLc_e, u_var, List.getElem?_cons_zero, List.getElem?_cons_succ, List.set_cons_zero, List.set_cons_succ, List.length_cons, List.length_nil, Nat.reduceAdd, Nat.reduceLT, Nat.reduceLeDiff, bind_ok, bindN_ok, out_ok, then_nx, then_ret, then_exc, of_ok, tr_bl, itOf, sizeLine_eq, wipeD_cons, wipeD_nil, if_true, if_false, reduceIte, Bool.false_eq_true, Bool.true_eq_false, Bool.not_true, Bool.not_false, il, evCh_e, chLink_e, chLast_e, ln, Mi.le_int, d1]
  have z := run_ret (n := 2) (ds := [.tup [natD n, tl], x]) b frz_bl
  rw [List.take_length] at z
  exact z
/-! ### sums -/
theorem ints_of : ∀ l : List Int, intsOf (l.map D.int) = some l
  | [] => rfl
  | a :: l => by simp [intsOf, ints_of l]
theorem sum_ok {l : List Int} : biSum [.lst (l.map D.int)] M = .ok (.int l.sum) M := by
  simp [biSum, Mi.listOf, ints_of]
def sumN (n : Nat) (qs : List (Nat × Nat)) (ps : List Nat) (a : Nat) : Int := (ps.map fun p => (dst n qs a p : Int)).sum
def sums (n : Nat) (qs : List (Nat × Nat)) (ps : List Nat) : List Int := (List.range n).map (sumN n qs ps)
def leastN (n : Nat) (qs : List (Nat × Nat)) (ps : List Nat) : Int := (minI (sums n qs ps)).getD 0
theorem min_ok (h1 : 1 ≤ n) {ps : List Nat} : biMM minI [.lst ((sums n qs ps).map D.int)] M = .ok (.int (leastN n qs ps)) M := by
  have hm : ∃ k, minI (sums n qs ps) = some k := by
    unfold sums
    cases n with
    | zero => omega
    | succ n => rw [List.range_succ_eq_map]; exact ⟨_, rfl⟩
  obtain ⟨k, hk⟩ := hm
  have e : leastN n qs ps = k := by unfold leastN; rw [hk]; rfl
  rw [e]
  unfold biMM
  simp only [Mi.seqOf, Mi.listOf, of_ok, bind_ok, ints_of, hk]
def nearP (n : Nat) (qs : List (Nat × Nat)) (ps : List Nat) (a : Nat) : Bool := decide (sumN n qs ps a = leastN n qs ps)
def nearN (n : Nat) (qs : List (Nat × Nat)) (ps : List Nat) : List Nat := (List.range n).filter (nearP n qs ps)
theorem ix_sums {ps : List Nat} {a : Nat} (ha : a < n) : opIx (.lst ((sums n qs ps).map D.int)) (natD a) M = .ok (.int (sumN n qs ps a)) M := by
  have h : (sums n qs ps)[a]? = some (sumN n qs ps a) := by simp [sums, ha]
  exact ix_map (M := M) (f := D.int) h
theorem row_sum {ps : List Nat} {a i j : Nat} {env : Ev} (hi : i < env.length) (hj : j < env.length) (hij : i ≠ j) (er : env[i]? = some (some (rowDs n qs a))) (hps : ∀ p ∈ ps, p < n) (hl : ps.length ≤ 100) :
    lcD (.nm j) evYes (ev2 opIx (evVar i) (evVar j)) (ps.map natD) [] env M = .ok ((ps.map fun p => (dst n qs a p : Int)).map D.int) M := by
  have lc := lc_mapF (M := M) (p := .nm j) (fe := ev2 opIx (evVar i) (evVar j)) natD (fun p => natD (dst n qs a p)) (env := env) ps [] (fun p hp => by
    have ix := ix_d2 (M := M) (qs := qs) (a := a) (hps p hp)
    refine ⟨env.set j (some (natD p)), by simp [asgP, hj], ?_⟩
    have e1 : (env.set j (some (natD p)))[i]? = some (some (rowDs n qs a)) := by rw [List.getElem?_set_ne (Ne.symm hij)]; exact er
    have e2 : (env.set j (some (natD p)))[j]? = some (some (natD p)) := List.getElem?_set_self hj
    rw [ev2_e, evVar_e e1, bind_ok, evVar_e e2, bind_ok, ix]) (by simp; omega)
  rw [List.nil_append] at lc
  rw [lc, List.map_map]; rfl
theorem nearof_ok (hq : TiesN n qs) (h1 : 1 ≤ n) (hn : n ≤ 8) (hl : qs.length ≤ 28) (hj : Jn n qs) {ps : List Nat} (hps : ∀ p ∈ ps, p < n) (l1 : 1 ≤ ps.length) (l12 : ps.length ≤ 12) : d_nearest_of [webN n qs, .lst (ps.map natD)] M = .ok (.tup ((nearN n qs ps).map natD)) M := by
  have ap := apart_T (M := M) hq h1 hn hl hj
  have okP : okD (.lst (ps.map natD)) = true := by
    simp only [okD]
    exact okDs_iff.mpr fun d hd => by obtain ⟨_, _, rfl⟩ := List.mem_map.mp hd; rfl
  have pl := plc_ok (M := M) (n := n) (tl := .tup (qs.map tieN)) okP
  have pt : plcB n (.lst (ps.map natD)) = true := by
    have : (ps.map natD).all (inR 0 n) = true := List.all_eq_true.mpr fun d hd => by
      obtain ⟨p, hp, rfl⟩ := List.mem_map.mp hd
      exact in_nat (hps p hp)
    simp [plcB, l1, l12, this]
  rw [pt] at pl
  have ft := ftab_ok (M := M) hq h1 hn hl
  rw [far_dst hj] at ft
  have w' : (D.tup [natD n, .tup (qs.map tieN)]) = webN n qs := rfl
  rw [w'] at pl
  have i0 : opIx (webN n qs) (.int 0) M = .ok (natD n) M := rfl
  have rg := rg_n (M := M) (n := n) (by omega)
  have lc := lc_mapF (M := M) (p := .nm 5) (fe := evN biSum (evCons (evLc (.nm 6) [6] (evIter (evVar 1)) evYes (ev2 opIx (evVar 5) (evVar 6))) evNil)) (fun a => rowDs n qs a) (fun a => .int (sumN n qs ps a)) (env := [some (webN n qs), some (.lst (ps.map natD)), some (dstD n qs), none, none, none, none]) (List.range n) [] (fun a ha => by
    have rs := row_sum (M := M) (n := n) (qs := qs) (a := a) (i := 5) (j := 6) (env := [some (webN n qs), some (.lst (ps.map natD)), some (dstD n qs), none, none, some (rowDs n qs a), none]) (by simp) (by simp) (by omega) rfl hps (by omega)
    have su := sum_ok (M := M) (l := ps.map fun p => (dst n qs a p : Int))
    refine ⟨[some (webN n qs), some (.lst (ps.map natD)), some (dstD n qs), none, none, some (rowDs n qs a), none], by simp [asgP], ?_⟩
    unfold sumN
    generalize (ps.map fun p => (dst n qs a p : Int)).map D.int = il at *
    generalize rowDs n qs a = ra at *
    generalize ps.map natD = pl at *
    generalize webN n qs = w at *
    generalize dstD n qs = dd at *
    simp only [sSeq_e, sSet_e, sIf_e, sRet_e, sNop_e, sAsg_e, sExp_e, sFor_e, evTr_e, evC_e, ev2_e, evCall_e, evN_e, evCons_e, evNil_e, evTup_e, evLst_e, evAnd_e, evOr_e, evNot_e, evAndV_e, evOrV_e, evNotV_e, evIter_e, evRng_e, evM_e, evLc_e, u_var, List.getElem?_cons_zero, List.getElem?_cons_succ, List.set_cons_zero, List.set_cons_succ, List.length_cons, List.length_nil, Nat.reduceAdd, Nat.reduceLT, Nat.reduceLeDiff, bind_ok, bindN_ok, out_ok, then_nx, then_ret, then_exc, of_ok, tr_bl, itOf, sizeLine_eq, wipeD_cons, wipeD_nil, if_true, if_false, reduceIte, Bool.false_eq_true, Bool.true_eq_false, Bool.not_true, Bool.not_false, rs, su]) (by simp; omega)
  rw [List.nil_append] at lc
  have es : (List.range n).map (fun a => D.int (sumN n qs ps a)) = (sums n qs ps).map D.int := by unfold sums; rw [List.map_map]; rfl
  rw [es] at lc
  have mn := min_ok (M := M) (qs := qs) (ps := ps) h1
  have lc2 := lc_fm (M := M) (p := .nm 6) (test := evTr (ev2 opEq (ev2 opIx (evVar 3) (evVar 6)) (evVar 4))) (fe := evVar 6) natD natD (nearP n qs ps) (env := [some (webN n qs), some (.lst (ps.map natD)), some (dstD n qs), some (.lst ((sums n qs ps).map D.int)), some (.int (leastN n qs ps)), none, none]) (List.range n) [] (fun a ha => by
    have ix := ix_sums (M := M) (qs := qs) (ps := ps) (List.mem_range.mp ha)
    refine ⟨[some (webN n qs), some (.lst (ps.map natD)), some (dstD n qs), some (.lst ((sums n qs ps).map D.int)), some (.int (leastN n qs ps)), none, some (natD a)], by simp [asgP], ?_, fun _ => by simp only [sSeq_e, sSet_e, sIf_e, sRet_e, sNop_e, sAsg_e, sExp_e, sFor_e, evTr_e, evC_e, ev2_e, evCall_e, evN_e, evCons_e, evNil_e, evTup_e, evLst_e, evAnd_e, evOr_e, evNot_e, evAndV_e, evOrV_e, evNotV_e, evIter_e, evRng_e, evM_e, evLc_e, u_var, List.getElem?_cons_zero, List.getElem?_cons_succ, List.set_cons_zero, List.set_cons_succ, List.length_cons, List.length_nil, Nat.reduceAdd, Nat.reduceLT, Nat.reduceLeDiff, bind_ok, bindN_ok, out_ok, then_nx, then_ret, then_exc, of_ok, tr_bl, itOf, sizeLine_eq, wipeD_cons, wipeD_nil, if_true, if_false, reduceIte, Bool.false_eq_true, Bool.true_eq_false, Bool.not_true, Bool.not_false]⟩
    unfold nearP
    generalize (sums n qs ps).map D.int = sl at *
    generalize ps.map natD = pl at *
    generalize webN n qs = w at *
    generalize dstD n qs = dd at *
    simp only [sSeq_e, sSet_e, sIf_e, sRet_e, sNop_e, sAsg_e, sExp_e, sFor_e, evTr_e, evC_e, ev2_e, evCall_e, evN_e, evCons_e, evNil_e, evTup_e, evLst_e, evAnd_e, evOr_e, evNot_e, evAndV_e, evOrV_e, evNotV_e, evIter_e, evRng_e, evM_e, evLc_e, u_var, List.getElem?_cons_zero, List.getElem?_cons_succ, List.set_cons_zero, List.set_cons_succ, List.length_cons, List.length_nil, Nat.reduceAdd, Nat.reduceLT, Nat.reduceLeDiff, bind_ok, bindN_ok, out_ok, then_nx, then_ret, then_exc, of_ok, tr_bl, itOf, sizeLine_eq, wipeD_cons, wipeD_nil, if_true, if_false, reduceIte, Bool.false_eq_true, Bool.true_eq_false, Bool.not_true, Bool.not_false, ix, Mi.eq_int]) (by simp; omega)
  rw [List.nil_append] at lc2
  have bt : biTuple [.lst ((nearN n qs ps).map natD)] M = .ok (.tup ((nearN n qs ps).map natD)) M := by simp [biTuple, Mi.listOf]
  have dd' : dstD n qs = .lst ((List.range n).map fun a => rowDs n qs a) := rfl
  have b : b_nearest_of [some (webN n qs), some (.lst (ps.map natD)), none, none, none, none, none] M = .ret (.tup ((nearN n qs ps).map natD)) M := by
    have lc2' : lcD (.nm 6) (evTr (ev2 opEq (ev2 opIx (evVar 3) (evVar 6)) (evVar 4))) (evVar 6) ((List.range n).map natD) [] [some (webN n qs), some (.lst (ps.map natD)), some (dstD n qs), some (.lst ((sums n qs ps).map D.int)), some (.int (leastN n qs ps)), none, none] M = .ok ((nearN n qs ps).map natD) M := lc2
    clear lc2
    rw [dd'] at ft lc lc2'
    generalize (nearN n qs ps).map natD = nl at *
    generalize (sums n qs ps).map D.int = sl at *
    generalize ps.map natD = pl at *
    generalize webN n qs = w at *
    generalize ((List.range n).map fun a => rowDs n qs a) = rl at *
    unfold b_nearest_of
    simp only [sSeq_e, sSet_e, sIf_e, sRet_e, sNop_e, sAsg_e, sExp_e, sFor_e, evTr_e, evC_e, ev2_e, evCall_e, evN_e, evCons_e, evNil_e, evTup_e, evLst_e, evAnd_e, evOr_e, evNot_e, evAndV_e, evOrV_e, evNotV_e, evIter_e, evRng_e, evM_e, evLc_e, u_var, List.getElem?_cons_zero, List.getElem?_cons_succ, List.set_cons_zero, List.set_cons_succ, List.length_cons, List.length_nil, Nat.reduceAdd, Nat.reduceLT, Nat.reduceLeDiff, bind_ok, bindN_ok, out_ok, then_nx, then_ret, then_exc, of_ok, tr_bl, itOf, sizeLine_eq, wipeD_cons, wipeD_nil, if_true, if_false, reduceIte, Bool.false_eq_true, Bool.true_eq_false, Bool.not_true, Bool.not_false, ap, pl, ft, lc, mn, i0, rg, lc2', bt]
  have z := run_ret (n := 7) (ds := [webN n qs, .lst (ps.map natD)]) b (frz_tup (pure_nats _))
  rw [List.take_length] at z
  exact z
/-! ### refusals, what is told -/
theorem nearof_apart {w a : D} (e : d_refuse_apart [w] M = .exc 3 [] M) : d_nearest_of [w, a] M = .exc 3 [] M := by
  unfold d_nearest_of runF b_nearest_of
  simp only [sSeq_e, sSet_e, sIf_e, sRet_e, sNop_e, sAsg_e, sExp_e, sFor_e, evTr_e, evC_e, ev2_e, evCall_e, evN_e, evCons_e, evNil_e, evTup_e, evLst_e, evAnd_e, evOr_e, evNot_e, evAndV_e, evOrV_e, evNotV_e, evIter_e, evRng_e, evM_e, evLc_e, u_var, List.getElem?_cons_zero, List.getElem?_cons_succ, List.set_cons_zero, List.set_cons_succ, List.length_cons, List.length_nil, Nat.reduceAdd, Nat.reduceLT, Nat.reduceLeDiff, bind_ok, bindN_ok, out_ok, then_nx, then_ret, then_exc, of_ok, tr_bl, itOf, sizeLine_eq, wipeD_cons, wipeD_nil, if_true, if_false, reduceIte, Bool.false_eq_true, Bool.true_eq_false, Bool.not_true, Bool.not_false, e, out_exc, List.map_cons, List.map_nil, List.append_nil, List.cons_append, List.nil_append, Nat.sub_self, Nat.reduceSub, List.replicate_succ, List.replicate_zero, pureDs, List.take_length]
theorem nearof_place (hq : TiesN n qs) (h1 : 1 ≤ n) (hn : n ≤ 8) (hl : qs.length ≤ 28) (hj : Jn n qs) (ox : okD x = true) (h : plcB n x = false) : d_nearest_of [webN n qs, x] M = .exc 0 [] M := by
  have ap := apart_T (M := M) hq h1 hn hl hj
  have pl := plc_ok (M := M) (n := n) (tl := .tup (qs.map tieN)) ox
  rw [h] at pl
  have w' : (D.tup [natD n, .tup (qs.map tieN)]) = webN n qs := rfl
  rw [w'] at pl
  generalize webN n qs = w at *
  unfold d_nearest_of runF b_nearest_of
  simp only [sSeq_e, sSet_e, sIf_e, sRet_e, sNop_e, sAsg_e, sExp_e, sFor_e, evTr_e, evC_e, ev2_e, evCall_e, evN_e, evCons_e, evNil_e, evTup_e, evLst_e, evAnd_e, evOr_e, evNot_e, evAndV_e, evOrV_e, evNotV_e, evIter_e, evRng_e, evM_e, evLc_e, u_var, List.getElem?_cons_zero, List.getElem?_cons_succ, List.set_cons_zero, List.set_cons_succ, List.length_cons, List.length_nil, Nat.reduceAdd, Nat.reduceLT, Nat.reduceLeDiff, bind_ok, bindN_ok, out_ok, then_nx, then_ret, then_exc, of_ok, tr_bl, itOf, sizeLine_eq, wipeD_cons, wipeD_nil, if_true, if_false, reduceIte, Bool.false_eq_true, Bool.true_eq_false, Bool.not_true, Bool.not_false, ap, pl, sRaise_e, out_exc, List.map_cons, List.map_nil, List.append_nil, List.cons_append, List.nil_append, Nat.sub_self, Nat.reduceSub, List.replicate_succ, List.replicate_zero, pureDs, List.take_length]
theorem told_exc {w a : D} {k : Nat} {z : Str} (hk : k < 8) (hz : zK k = z) (hw : noFn w = true) (ha : noFn a = true) (e : d_nearest_of [w, a] M = .exc k [] M) : d__law_told [w, a] M = .ok (.str z) M := by
  have bb : b__law_told [some w, some a, none] M = .ret (.str z) M := by
    unfold b__law_told sTryE
    have e' : (sRet (evCall d_nearest_of (evCons (evVar 0) (evCons (evVar 1) evNil)))) [some w, some a, none] M = .exc k [] [some w, some a, none] M := by
      simp only [sSeq_e, sSet_e, sIf_e, sRet_e, sNop_e, sAsg_e, sExp_e, sFor_e, evTr_e, evC_e, ev2_e, evCall_e, evN_e, evCons_e, evNil_e, evTup_e, evLst_e, evAnd_e, evOr_e, evNot_e, evAndV_e, evOrV_e, evNotV_e, evIter_e, evRng_e, evM_e, evLc_e, u_var, List.getElem?_cons_zero, List.getElem?_cons_succ, List.set_cons_zero, List.set_cons_succ, List.length_cons, List.length_nil, Nat.reduceAdd, Nat.reduceLT, Nat.reduceLeDiff, bind_ok, bindN_ok, out_ok, then_nx, then_ret, then_exc, of_ok, tr_bl, itOf, sizeLine_eq, wipeD_cons, wipeD_nil, if_true, if_false, reduceIte, Bool.false_eq_true, Bool.true_eq_false, Bool.not_true, Bool.not_false, e, out_exc]
    rw [e']
    have cnd : k < 8 ∧ 2 < ([some w, some a, none] : Ev).length ∧ plainF [] = true ∧ noFnE [some w, some a, none] = true := ⟨hk, by simp, rfl, by simp [noFnE, hw, ha]⟩
    simp only
    rw [if_pos cnd]
    have s1 : ([some w, some a, none] : Ev).set 2 (some (.fn 0)) = [some w, some a, some (.fn 0)] := rfl
    rw [s1, sRet_e]
    have ek : evKind 2 (zK k) [some w, some a, some (.fn 0)] M = .ok (.str (zK k)) M := rfl
    rw [ek, hz, out_ok]
    rfl
  unfold d__law_told
  rw [run_ret (n := 3) (ds := [w, a]) bb (frz_pure rfl fun xs h => by cases h), List.take_length]
theorem told_ok {w a : D} {l : List Nat} (e : d_nearest_of [w, a] M = .ok (.tup (l.map natD)) M) : d__law_told [w, a] M = .ok (.tup (l.map natD)) M := by
  have bb : b__law_told [some w, some a, none] M = .ret (.tup (l.map natD)) M := by
    unfold b__law_told sTryE
    have e' : (sRet (evCall d_nearest_of (evCons (evVar 0) (evCons (evVar 1) evNil)))) [some w, some a, none] M = .ret (.tup (l.map natD)) M := by
      generalize l.map natD = ml at *
      simp only [sSeq_e, sSet_e, sIf_e, sRet_e, sNop_e, sAsg_e, sExp_e, sFor_e, evTr_e, evC_e, ev2_e, evCall_e, evN_e, evCons_e, evNil_e, evTup_e, evLst_e, evAnd_e, evOr_e, evNot_e, evAndV_e, evOrV_e, evNotV_e, evIter_e, evRng_e, evM_e, evLc_e, u_var, List.getElem?_cons_zero, List.getElem?_cons_succ, List.set_cons_zero, List.set_cons_succ, List.length_cons, List.length_nil, Nat.reduceAdd, Nat.reduceLT, Nat.reduceLeDiff, bind_ok, bindN_ok, out_ok, then_nx, then_ret, then_exc, of_ok, tr_bl, itOf, sizeLine_eq, wipeD_cons, wipeD_nil, if_true, if_false, reduceIte, Bool.false_eq_true, Bool.true_eq_false, Bool.not_true, Bool.not_false, e]
    rw [e']
  unfold d__law_told
  rw [run_ret (n := 3) (ds := [w, a]) bb (frz_tup (pure_nats _)), List.take_length]
theorem eq_lstN {l : List Nat} : opEq (.lst (l.map natD)) (.lst (l.map natD)) M = .ok (.bl true) M := by
  obtain ⟨ps, p1, p2, p3, p4⟩ := pys_of (py_natL l)
  have e1 : toPyM M (.lst (l.map natD)) = some (.list ps) := by simp [toPyM, toPy, p1]
  have c : (PyData.list ps).canLay0 = true := by simp [PyData.canLay0, p3]
  have e3 := SeqAt.eqv_refl _ c
  simp [opEq, eqDs, e1, shaped_l p3 p4, e3]
theorem right_ok (hq : TiesN n qs) (h1 : 1 ≤ n) (hn : n ≤ 8) (hl : qs.length ≤ 28) (hj : Jn n qs) {ps : List Nat} (hps : ∀ p ∈ ps, p < n) (l1 : 1 ≤ ps.length) (l12 : ps.length ≤ 12) : d__law_right [webN n qs, dstD n qs, .lst (ps.map natD)] M = .ok (.bl true) M := by
  have bi : biList [.lst (ps.map natD)] M = .ok (.lst (ps.map natD)) M := by simp [biList, seqOf, Mi.listOf]
  have td := told_ok (nearof_ok (M := M) hq h1 hn hl hj hps l1 l12)
  have lc := lc_mapF (M := M) (p := .nm 7) (fe := evN biSum (evCons (evLc (.nm 8) [8] (evIter (evVar 3)) evYes (ev2 opIx (evVar 7) (evVar 8))) evNil)) (fun a => rowDs n qs a) (fun a => .int (sumN n qs ps a)) (env := [some (webN n qs), some (dstD n qs), some (.lst (ps.map natD)), some (.lst (ps.map natD)), some (.tup ((nearN n qs ps).map natD)), none, none, none, none]) (List.range n) [] (fun a ha => by
    have rs := row_sum (M := M) (n := n) (qs := qs) (a := a) (i := 7) (j := 8) (env := [some (webN n qs), some (dstD n qs), some (.lst (ps.map natD)), some (.lst (ps.map natD)), some (.tup ((nearN n qs ps).map natD)), none, none, some (rowDs n qs a), none]) (by simp) (by simp) (by omega) rfl hps (by omega)
    have su := sum_ok (M := M) (l := ps.map fun p => (dst n qs a p : Int))
    refine ⟨[some (webN n qs), some (dstD n qs), some (.lst (ps.map natD)), some (.lst (ps.map natD)), some (.tup ((nearN n qs ps).map natD)), none, none, some (rowDs n qs a), none], by simp [asgP], ?_⟩
    unfold sumN
    generalize (ps.map fun p => (dst n qs a p : Int)).map D.int = il at *
    generalize (nearN n qs ps).map natD = nl at *
    generalize rowDs n qs a = ra at *
    generalize ps.map natD = pl at *
    generalize webN n qs = w at *
    generalize dstD n qs = dd at *
    simp only [sSeq_e, sSet_e, sIf_e, sRet_e, sNop_e, sAsg_e, sExp_e, sFor_e, evTr_e, evC_e, ev2_e, evCall_e, evN_e, evCons_e, evNil_e, evTup_e, evLst_e, evAnd_e, evOr_e, evNot_e, evAndV_e, evOrV_e, evNotV_e, evIter_e, evRng_e, evM_e, evLc_e, u_var, List.getElem?_cons_zero, List.getElem?_cons_succ, List.set_cons_zero, List.set_cons_succ, List.length_cons, List.length_nil, Nat.reduceAdd, Nat.reduceLT, Nat.reduceLeDiff, bind_ok, bindN_ok, out_ok, then_nx, then_ret, then_exc, of_ok, tr_bl, itOf, sizeLine_eq, wipeD_cons, wipeD_nil, if_true, if_false, reduceIte, Bool.false_eq_true, Bool.true_eq_false, Bool.not_true, Bool.not_false, rs, su]) (by simp; omega)
  rw [List.nil_append] at lc
  have es : (List.range n).map (fun a => D.int (sumN n qs ps a)) = (sums n qs ps).map D.int := by unfold sums; rw [List.map_map]; rfl
  rw [es] at lc
  have mn := min_ok (M := M) (qs := qs) (ps := ps) h1
  have i0 : opIx (webN n qs) (.int 0) M = .ok (natD n) M := rfl
  have rg := rg_n (M := M) (n := n) (by omega)
  have lc2 := lc_fm (M := M) (p := .nm 8) (test := evTr (ev2 opEq (ev2 opIx (evVar 5) (evVar 8)) (evN (biMM minI) (evCons (evVar 5) evNil)))) (fe := evVar 8) natD natD (nearP n qs ps) (env := [some (webN n qs), some (dstD n qs), some (.lst (ps.map natD)), some (.lst (ps.map natD)), some (.tup ((nearN n qs ps).map natD)), some (.lst ((sums n qs ps).map D.int)), none, none, none]) (List.range n) [] (fun a ha => by
    have ix := ix_sums (M := M) (qs := qs) (ps := ps) (List.mem_range.mp ha)
    refine ⟨[some (webN n qs), some (dstD n qs), some (.lst (ps.map natD)), some (.lst (ps.map natD)), some (.tup ((nearN n qs ps).map natD)), some (.lst ((sums n qs ps).map D.int)), none, none, some (natD a)], by simp [asgP], ?_, fun _ => by simp only [sSeq_e, sSet_e, sIf_e, sRet_e, sNop_e, sAsg_e, sExp_e, sFor_e, evTr_e, evC_e, ev2_e, evCall_e, evN_e, evCons_e, evNil_e, evTup_e, evLst_e, evAnd_e, evOr_e, evNot_e, evAndV_e, evOrV_e, evNotV_e, evIter_e, evRng_e, evM_e, evLc_e, u_var, List.getElem?_cons_zero, List.getElem?_cons_succ, List.set_cons_zero, List.set_cons_succ, List.length_cons, List.length_nil, Nat.reduceAdd, Nat.reduceLT, Nat.reduceLeDiff, bind_ok, bindN_ok, out_ok, then_nx, then_ret, then_exc, of_ok, tr_bl, itOf, sizeLine_eq, wipeD_cons, wipeD_nil, if_true, if_false, reduceIte, Bool.false_eq_true, Bool.true_eq_false, Bool.not_true, Bool.not_false]⟩
    unfold nearP
    generalize (sums n qs ps).map D.int = sl at *
    generalize (nearN n qs ps).map natD = nl at *
    generalize ps.map natD = pl at *
    generalize webN n qs = w at *
    generalize dstD n qs = dd at *
    simp only [sSeq_e, sSet_e, sIf_e, sRet_e, sNop_e, sAsg_e, sExp_e, sFor_e, evTr_e, evC_e, ev2_e, evCall_e, evN_e, evCons_e, evNil_e, evTup_e, evLst_e, evAnd_e, evOr_e, evNot_e, evAndV_e, evOrV_e, evNotV_e, evIter_e, evRng_e, evM_e, evLc_e, u_var, List.getElem?_cons_zero, List.getElem?_cons_succ, List.set_cons_zero, List.set_cons_succ, List.length_cons, List.length_nil, Nat.reduceAdd, Nat.reduceLT, Nat.reduceLeDiff, bind_ok, bindN_ok, out_ok, then_nx, then_ret, then_exc, of_ok, tr_bl, itOf, sizeLine_eq, wipeD_cons, wipeD_nil, if_true, if_false, reduceIte, Bool.false_eq_true, Bool.true_eq_false, Bool.not_true, Bool.not_false, ix, mn, Mi.eq_int]) (by simp; omega)
  rw [List.nil_append] at lc2
  have bt : biTuple [.lst ((nearN n qs ps).map natD)] M = .ok (.tup ((nearN n qs ps).map natD)) M := by simp [biTuple, Mi.listOf]
  have ti := tupis_ok (M := M) (l := nearN n qs ps) (by
    have := List.length_filter_le (nearP n qs ps) (List.range n)
    rw [List.length_range] at this
    unfold nearN; omega)
  have eq := eq_lstN (M := M) (l := ps)
  have dd' : dstD n qs = .lst ((List.range n).map fun a => rowDs n qs a) := rfl
  have b : b__law_right [some (webN n qs), some (dstD n qs), some (.lst (ps.map natD)), none, none, none, none, none, none] M = .ret (.bl true) M := by
    have lc2' : lcD (.nm 8) (evTr (ev2 opEq (ev2 opIx (evVar 5) (evVar 8)) (evN (biMM minI) (evCons (evVar 5) evNil)))) (evVar 8) ((List.range n).map natD) [] [some (webN n qs), some (dstD n qs), some (.lst (ps.map natD)), some (.lst (ps.map natD)), some (.tup ((nearN n qs ps).map natD)), some (.lst ((sums n qs ps).map D.int)), none, none, none] M = .ok ((nearN n qs ps).map natD) M := lc2
    clear lc2
    rw [dd'] at lc lc2' ⊢
    generalize (nearN n qs ps).map natD = nl at *
    generalize (sums n qs ps).map D.int = sl at *
    generalize ps.map natD = pl at *
    generalize webN n qs = w at *
    generalize ((List.range n).map fun a => rowDs n qs a) = rl at *
    unfold b__law_right
    simp only [sSeq_e, sSet_e, sIf_e, sRet_e, sNop_e, sAsg_e, sExp_e, sFor_e, evTr_e, evC_e, ev2_e, evCall_e, evN_e, evCons_e, evNil_e, evTup_e, evLst_e, evAnd_e, evOr_e, evNot_e, evAndV_e, evOrV_e, evNotV_e, evIter_e, evRng_e, evM_e, evLc_e, u_var, List.getElem?_cons_zero, List.getElem?_cons_succ, List.set_cons_zero, List.set_cons_succ, List.length_cons, List.length_nil, Nat.reduceAdd, Nat.reduceLT, Nat.reduceLeDiff, bind_ok, bindN_ok, out_ok, then_nx, then_ret, then_exc, of_ok, tr_bl, itOf, sizeLine_eq, wipeD_cons, wipeD_nil, if_true, if_false, reduceIte, Bool.false_eq_true, Bool.true_eq_false, Bool.not_true, Bool.not_false, bi, td, lc, i0, rg, lc2', bt, ti, eq]
  have z := run_ret (n := 9) (ds := [webN n qs, dstD n qs, .lst (ps.map natD)]) b frz_bl
  rw [List.take_length] at z
  exact z
end
end Hd

set_option Elab.async false
set_option linter.all false
set_option maxRecDepth 100000
namespace Hd
open Mi PySem PySem.Spec PyProof.Rows L2
section
variable {M : Store} {x : D} {env : Ev} {n : Nat} {qs : List (Nat × Nat)}
theorem ne_str {z : Str} (c : (PyData.str z).canLay0 = true) : opNe (.str z) (.str z) M = .ok (.bl false) M := by
  have s : SeqAt.shaped (.str z) = true := by simp [SeqAt.shaped, c, PyData.depth]
  have e := SeqAt.eqv_refl _ c
  simp [opNe, eqDs, toPyM, toPy, s, e]
theorem ne_apart : opNe (.str "apart") (.str "apart") M = .ok (.bl false) M := ne_str (by decide +kernel)
theorem ne_place : opNe (.str "place") (.str "place") M = .ok (.bl false) M := ne_str (by decide +kernel)
theorem zk0 : zK 0 = "place" := by decide +kernel
theorem zk3 : zK 3 = "apart" := by decide +kernel
theorem for_step {p : Pat} {body : Ev → Store → Out} {x : D} {xs : List D} {env env1 env' : Ev} {M M' : Store} (h1 : asgP M p x env = some env1) (h2 : body env1 M = .nx env' M') : forD p body (x :: xs) env M = forD p body xs env' M' := by
  simp only [forD, h1, h2]
theorem rng_at {k j : Nat} {y : D} (h : ((List.range k).map natD)[j]? = some y) : j < k ∧ y = natD j := by
  have hj : j < k := by
    have := (List.getElem?_eq_some_iff.mp h).1
    simpa using this
  rw [List.getElem?_map, List.getElem?_range hj] at h
  exact ⟨hj, by simpa using h.symm⟩
theorem cut_ints {ns : List Int} (hn : ns.length ≤ 63) (lo hi : Option Int) : ∃ cs : List Int, Mi.cutD (ns.map D.int) lo hi = cs.map D.int ∧ cs.length ≤ 63 := by
  refine ⟨(ns.drop (HT.sIx (ns.map D.int).length 0 lo)).take (HT.sIx (ns.map D.int).length (ns.map D.int).length hi - HT.sIx (ns.map D.int).length 0 lo), ?_, ?_⟩
  · unfold Mi.cutD
    rw [List.map_take, List.map_drop]
  · rw [List.length_take, List.length_drop]
    omega
theorem evSl_e {f : Ev → Store → Res D} {lo hi : Ev → Store → Res (Option Int)} : evSl f lo hi env M = (f env M).bind fun a M => (lo env M).bind fun l M => (hi env M).bind fun h M => opSl a l h M := (rfl)
theorem evPartI_e {f : Ev → Store → Res D} : evPartI f env M = (f env M).bind fun d M => match d with | .int i => .ok (some i) M | _ => .stuck := (rfl)
theorem opSl_scr {xs : List D} {lo hi : Option Int} : opSl (.scr xs) lo hi M = .ok (.lst (Mi.cutD xs lo hi)) M := (rfl)
theorem evNoPart_e : evNoPart env M = .ok none M := (rfl)
theorem opSl_lst {xs : List D} {lo hi : Option Int} : opSl (.lst xs) lo hi M = .ok (.lst (Mi.cutD xs lo hi)) M := (rfl)
theorem cut_nat {α : Type} (f : α → D) (l : List α) (k : Nat) : ∃ l' : List α, Mi.cutD (l.map f) none (some (k : Int)) = l'.map f ∧ (∀ a ∈ l', a ∈ l) ∧ l'.length = min k l.length := by
  refine ⟨l.take (min k l.length), ?_, fun a h => List.mem_of_mem_take h, by simp⟩
  unfold Mi.cutD
  rw [HT.sIx_none, HT.sIx_nat, List.drop_zero, List.length_map, List.map_take]
  simp
/-! ### the places -/
theorem rev_ok {f : Ev → Store → Res D} {xs : List D} (h : f env M = .ok (.lst xs) M) : evRevA f env M = .ok (.lst xs.reverse) M := by
  unfold evRevA
  rw [h, bind_ok]
  simp [Mi.listOf]
theorem rep_ok {ps : List Nat} (h : ps.length ≤ 12) : opMul (.lst (ps.map natD)) (.int 12) M = .ok (.lst ((List.replicate 12 ps).flatten.map natD)) M := by
  have e : ∀ m : Nat, (List.replicate m (ps.map natD)).flatten = (List.replicate m ps).flatten.map natD := fun m => by
    induction m with
    | zero => rfl
    | succ m ih => rw [List.replicate_succ, List.flatten_cons, ih, List.replicate_succ, List.flatten_cons, List.map_append]
  unfold opMul
  simp only [Mi.listOf, of_ok, bind_ok]
  rw [if_pos ⟨by decide, by decide, by rw [sizeLine_eq, List.length_map]; have : (12 : Int).toNat = 12 := rfl; rw [this]; omega⟩]
  have : (12 : Int).toNat = 12 := rfl
  rw [this, e]
abbrev LE_ (e0 e1 : D) (l : Nat) (n : Nat) (qs : List (Nat × Nat)) (ps : List Nat) (s6 s7 s8 s9 s10 : Option D) : Ev := [some e0, some e1, some (.loc l), some (webN n qs), some (dstD n qs), some (.lst (ps.map natD)), s6, s7, s8, s9, s10]
abbrev RB : Ev → Store → Out := (sIf (evNot (evTr (evCall d__law_right (evCons (evVar 3) (evCons (evVar 4) (evCons (evVar 6) evNil)))))) (sRet (evC (.bl false))) sNop)
abbrev L6 : Ev → Store → Res (List D) := (evIter (evLst (evCons (evVar 5) (evCons (evSl (evVar 5) evNoPart (evPartI (evC (.int 3)))) (evCons (evSl (evVar 5) evNoPart (evPartI (evC (.int 1)))) (evCons (evRevA (evVar 5)) (evCons (evSl (ev2 opMul (evVar 5) (evC (.int 12))) evNoPart (evPartI (evC (.int 12)))) evNil)))))))
theorem rb_ok {e0 e1 : D} {l : Nat} {ps ps2 : List Nat} {s7 s8 s9 s10 : Option D} (hq : TiesN n qs) (h1 : 1 ≤ n) (hn : n ≤ 8) (hl : qs.length ≤ 28) (hj : Jn n qs) (hps : ∀ p ∈ ps2, p < n) (l1 : 1 ≤ ps2.length) (l12 : ps2.length ≤ 12) :
    RB (LE_ e0 e1 l n qs ps (some (.lst (ps2.map natD))) s7 s8 s9 s10) M = .nx (LE_ e0 e1 l n qs ps (some (.lst (ps2.map natD))) s7 s8 s9 s10) M := by
  have r := right_ok (M := M) hq h1 hn hl hj hps l1 l12
  unfold LE_
  generalize ps2.map natD = p2 at *
  generalize ps.map natD = p1 at *
  generalize webN n qs = w at *
  generalize dstD n qs = dd at *
  simp only [sSeq_e, sSet_e, sIf_e, sRet_e, sNop_e, sAsg_e, sExp_e, sFor_e, evTr_e, evC_e, ev2_e, evCall_e, evN_e, evCons_e, evNil_e, evTup_e, evLst_e, evAnd_e, evOr_e, evNot_e, evAndV_e, evOrV_e, evNotV_e, evIter_e, evRng_e, evM_e, evLc_e, u_var, List.getElem?_cons_zero, List.getElem?_cons_succ, List.set_cons_zero, List.set_cons_succ, List.length_cons, List.length_nil, Nat.reduceAdd, Nat.reduceLT, Nat.reduceLeDiff, bind_ok, bindN_ok, out_ok, then_nx, then_ret, then_exc, of_ok, tr_bl, itOf, sizeLine_eq, wipeD_cons, wipeD_nil, if_true, if_false, reduceIte, Bool.false_eq_true, Bool.true_eq_false, Bool.not_true, Bool.not_false, r]
theorem five_le {a b c d e : D} : ([a, b, c, d, e] : List D).length ≤ sizeLine := by rw [sizeLine_eq]; simp
theorem l6_ok {e0 e1 : D} {l : Nat} {ps : List Nat} {s6 s7 s8 s9 s10 : Option D} (l1 : 1 ≤ ps.length) (l12 : ps.length ≤ 12) :
    ∃ p3 p1 p5 : List Nat, (∀ p ∈ p3, p ∈ ps) ∧ 1 ≤ p3.length ∧ p3.length ≤ 12 ∧ (∀ p ∈ p1, p ∈ ps) ∧ 1 ≤ p1.length ∧ p1.length ≤ 12 ∧ (∀ p ∈ p5, p ∈ ps) ∧ 1 ≤ p5.length ∧ p5.length ≤ 12 ∧
      L6 (LE_ e0 e1 l n qs ps s6 s7 s8 s9 s10) M = .ok [.lst (ps.map natD), .lst (p3.map natD), .lst (p1.map natD), .lst (ps.reverse.map natD), .lst (p5.map natD)] M := by
  obtain ⟨p3, c3, m3, n3⟩ := cut_nat natD ps 3
  obtain ⟨p1, c1, m1, n1⟩ := cut_nat natD ps 1
  obtain ⟨p5, c5, m5, n5⟩ := cut_nat natD (List.replicate 12 ps).flatten 12
  have rp := rep_ok (M := M) l12
  have lf : (List.replicate 12 ps).flatten.length = 12 * ps.length := by simp; omega
  refine ⟨p3, p1, p5, m3, by omega, by omega, m1, by omega, by omega, fun p hp => ?_, by omega, by omega, ?_⟩
  · have := m5 p hp
    obtain ⟨a, ha, hp'⟩ := List.mem_flatten.mp this
    rw [(List.mem_replicate.mp ha).2] at hp'
    exact hp'
  have rv := rev_ok (M := M) (f := evVar 5) (env := LE_ e0 e1 l n qs ps s6 s7 s8 s9 s10) (xs := ps.map natD) rfl
  rw [← List.map_reverse] at rv
  have s3 : opSl (.lst (ps.map natD)) none (some 3) M = .ok (.lst (p3.map natD)) M := by rw [opSl_lst, ← c3]; rfl
  have s1 : opSl (.lst (ps.map natD)) none (some 1) M = .ok (.lst (p1.map natD)) M := by rw [opSl_lst, ← c1]; rfl
  have s5 : opSl (.lst ((List.replicate 12 ps).flatten.map natD)) none (some 12) M = .ok (.lst (p5.map natD)) M := by rw [opSl_lst, ← c5]; rfl
  have fl := five_le (a := .lst (ps.map natD)) (b := .lst (p3.map natD)) (c := .lst (p1.map natD)) (d := .lst (ps.reverse.map natD)) (e := .lst (p5.map natD))
  unfold LE_ at *
  clear c3 c1 c5 lf
  generalize (List.replicate 12 ps).flatten.map natD = z12 at *
  generalize ps.reverse.map natD = zr at *
  generalize ps.map natD = z0 at *
  generalize p3.map natD = z3 at *
  generalize p1.map natD = z1 at *
  generalize p5.map natD = z5 at *
  generalize webN n qs = w at *
  generalize dstD n qs = dd at *
  simp only [evIter_e, evLst_e, evCons_e, evNil_e, ev2_e, evC_e, u_var, List.getElem?_cons_zero, List.getElem?_cons_succ, bind_ok, evSl_e, evNoPart_e, evPartI_e, s3, s1, rv, rp, s5]
  rw [if_pos fl, bind_ok]
  rfl
theorem some_ok {e0 e1 : D} {l : Nat} {ps : List Nat} {s6 s7 s8 s9 s10 : Option D} (hq : TiesN n qs) (h1 : 1 ≤ n) (hn : n ≤ 8) (hl : qs.length ≤ 28) (hj : Jn n qs) (hps : ∀ p ∈ ps, p < n) (l1 : 1 ≤ ps.length) (l12 : ps.length ≤ 12) :
    ∃ t6, sFor (.nm 6) L6 RB (LE_ e0 e1 l n qs ps s6 s7 s8 s9 s10) M = .nx (LE_ e0 e1 l n qs ps t6 s7 s8 s9 s10) M := by
  obtain ⟨p3, p1, p5, m3, a3, b3, m1, a1, b1, m5, a5, b5, l6⟩ := l6_ok (M := M) (n := n) (qs := qs) (e0 := e0) (e1 := e1) (l := l) (s6 := s6) (s7 := s7) (s8 := s8) (s9 := s9) (s10 := s10) l1 l12
  have as : ∀ (d : D) (s : Option D), asgP M (.nm 6) d (LE_ e0 e1 l n qs ps s s7 s8 s9 s10) = some (LE_ e0 e1 l n qs ps (some d) s7 s8 s9 s10) := fun d s => by simp [asgP]
  have r0 := rb_ok (M := M) (e0 := e0) (e1 := e1) (l := l) (ps := ps) (s7 := s7) (s8 := s8) (s9 := s9) (s10 := s10) hq h1 hn hl hj hps l1 l12
  have r3 := rb_ok (M := M) (e0 := e0) (e1 := e1) (l := l) (ps := ps) (ps2 := p3) (s7 := s7) (s8 := s8) (s9 := s9) (s10 := s10) hq h1 hn hl hj (fun p h => hps p (m3 p h)) a3 b3
  have r1 := rb_ok (M := M) (e0 := e0) (e1 := e1) (l := l) (ps := ps) (ps2 := p1) (s7 := s7) (s8 := s8) (s9 := s9) (s10 := s10) hq h1 hn hl hj (fun p h => hps p (m1 p h)) a1 b1
  have rr := rb_ok (M := M) (e0 := e0) (e1 := e1) (l := l) (ps := ps) (ps2 := ps.reverse) (s7 := s7) (s8 := s8) (s9 := s9) (s10 := s10) hq h1 hn hl hj (fun p h => hps p (List.mem_reverse.mp h)) (by simpa using l1) (by simpa using l12)
  have r5 := rb_ok (M := M) (e0 := e0) (e1 := e1) (l := l) (ps := ps) (ps2 := p5) (s7 := s7) (s8 := s8) (s9 := s9) (s10 := s10) hq h1 hn hl hj (fun p h => hps p (m5 p h)) a5 b5
  refine ⟨some (.lst (p5.map natD)), ?_⟩
  rw [sFor_e, l6, out_ok, for_step (as _ _) r0, for_step (as _ _) r3, for_step (as _ _) r1, for_step (as _ _) rr, for_step (as _ _) r5]
  rfl
abbrev PB : Ev → Store → Out := (sIf (evTr (ev2 opNe (evCall d__law_told (evCons (evVar 3) (evCons (evVar 9) evNil))) (evC (.str "place")))) (sRet (evC (.bl false))) sNop)
theorem pb_ok {e0 e1 y : D} {l : Nat} {ps : List Nat} {s6 s7 s8 s10 : Option D} (hq : TiesN n qs) (h1 : 1 ≤ n) (hn : n ≤ 8) (hl : qs.length ≤ 28) (hj : Jn n qs) (oy : okD y = true) (h : plcB n y = false) :
    PB (LE_ e0 e1 l n qs ps s6 s7 s8 (some y) s10) M = .nx (LE_ e0 e1 l n qs ps s6 s7 s8 (some y) s10) M := by
  have t := told_exc (M := M) (by decide) zk0 (noFn_ok ok_web) (noFn_ok oy) (nearof_place hq h1 hn hl hj oy h)
  unfold LE_
  generalize ps.map natD = p1 at *
  generalize webN n qs = w at *
  generalize dstD n qs = dd at *
  simp only [sSeq_e, sSet_e, sIf_e, sRet_e, sNop_e, sAsg_e, sExp_e, sFor_e, evTr_e, evC_e, ev2_e, evCall_e, evN_e, evCons_e, evNil_e, evTup_e, evLst_e, evAnd_e, evOr_e, evNot_e, evAndV_e, evOrV_e, evNotV_e, evIter_e, evRng_e, evM_e, evLc_e, u_var, List.getElem?_cons_zero, List.getElem?_cons_succ, List.set_cons_zero, List.set_cons_succ, List.length_cons, List.length_nil, Nat.reduceAdd, Nat.reduceLT, Nat.reduceLeDiff, bind_ok, bindN_ok, out_ok, then_nx, then_ret, then_exc, of_ok, tr_bl, itOf, sizeLine_eq, wipeD_cons, wipeD_nil, if_true, if_false, reduceIte, Bool.false_eq_true, Bool.true_eq_false, Bool.not_true, Bool.not_false, t, ne_place]
theorem things_for {e0 e1 : D} {l : Nat} {ps : List Nat} {s6 s7 s8 s10 : Option D} (hq : TiesN n qs) (h1 : 1 ≤ n) (hn : n ≤ 8) (hl : qs.length ≤ 28) (hj : Jn n qs) : ∀ (ds : List D) (s9 : Option D), (∀ d ∈ ds, okD d = true ∧ plcB n d = false) → ∃ t9, forD (.nm 9) PB ds (LE_ e0 e1 l n qs ps s6 s7 s8 s9 s10) M = .nx (LE_ e0 e1 l n qs ps s6 s7 s8 t9 s10) M
  | [], s9, _ => ⟨s9, rfl⟩
  | d :: ds, s9, h => by
    obtain ⟨t9, ih⟩ := things_for (e0 := e0) (e1 := e1) (l := l) (ps := ps) (s6 := s6) (s7 := s7) (s8 := s8) (s10 := s10) hq h1 hn hl hj ds (some d) fun y hy => h y (by simp [hy])
    have p := pb_ok (M := M) (e0 := e0) (e1 := e1) (l := l) (ps := ps) (s6 := s6) (s7 := s7) (s8 := s8) (s10 := s10) hq h1 hn hl hj (h d (by simp)).1 (h d (by simp)).2
    have as : asgP M (.nm 9) d (LE_ e0 e1 l n qs ps s6 s7 s8 s9 s10) = some (LE_ e0 e1 l n qs ps s6 s7 s8 (some d) s10) := by simp [asgP]
    exact ⟨t9, by rw [for_step as p]; exact ih⟩
abbrev L9_ : Ev → Store → Res (List D) := (evIter (evLst (evCons (evVar 8) (evCons (evN biTuple (evCons (evVar 5) evNil)) (evCons (evLst evNil) (evCons (ev2 opMul (evLst (evCons (evC (.int 0)) evNil)) (evC (.int 13))) (evCons (evC .non) (evCons (evC (.int 0)) (evCons (evC (.str "")) (evCons (evC .dct0) (evCons (evLst (evCons (evVar 5) evNil)) evNil)))))))))))
theorem l9_ok {e0 e1 y : D} {l : Nat} {ps : List Nat} {s6 s7 s9 s10 : Option D} : L9_ (LE_ e0 e1 l n qs ps s6 s7 (some y) s9 s10) M = .ok [y, .tup (ps.map natD), .lst [], .lst (List.replicate 13 (.int 0)), .non, .int 0, .str "", .dct0, .lst [.lst (ps.map natD)]] M := by
  have bt : biTuple [.lst (ps.map natD)] M = .ok (.tup (ps.map natD)) M := by simp [biTuple, Mi.listOf]
  have mu : opMul (.lst [.int 0]) (.int 13) M = .ok (.lst (List.replicate 13 (.int 0))) M := by
    unfold opMul
    simp only [Mi.listOf, of_ok, bind_ok]
    rw [if_pos ⟨by decide, by decide, by rw [sizeLine_eq]; decide⟩]
    rfl
  have z0 : ([] : List D).length ≤ sizeLine := by rw [sizeLine_eq]; simp
  have z1 : ∀ d : D, ([d] : List D).length ≤ sizeLine := fun d => by rw [sizeLine_eq]; simp
  have z9 : ∀ a b c d e f g h i : D, ([a, b, c, d, e, f, g, h, i] : List D).length ≤ sizeLine := fun a b c d e f g h i => by rw [sizeLine_eq]; simp
  unfold LE_
  generalize ps.map natD = p1 at *
  generalize webN n qs = w at *
  generalize dstD n qs = dd at *
  generalize List.replicate 13 (D.int 0) = r13 at *
  simp only [evIter_e, evLst_e, evCons_e, evNil_e, evN_e, ev2_e, evC_e, u_var, List.getElem?_cons_zero, List.getElem?_cons_succ, bind_ok, bt, mu, z0, z1, if_true]
  rw [if_pos (z9 _ _ _ _ _ _ _ _ _), bind_ok]
  rfl
abbrev BT : Ev → Store → Res D := (ev2 opAdd (ev2 opAdd (evSl (evVar 5) evNoPart (evPartI (evVar 7))) (evLst (evCons (evCall d__law_no_place (evCons (evVar 2) (evCons (ev2 opIx (evVar 3) (evC (.int 0))) evNil))) evNil))) (evSl (evVar 5) (evPartI (ev2 opAdd (evVar 7) (evC (.int 1)))) evNoPart))
theorem okL {ps : List Nat} : okDs (ps.map natD) = true := okDs_iff.mpr fun d hd => by obtain ⟨_, _, rfl⟩ := List.mem_map.mp hd; rfl
theorem bt_ok {e0 e1 : D} {l k : Nat} {o : Option Ob} {ps : List Nat} {s6 s8 s9 s10 : Option D} (hn : n ≤ 8) (l12 : ps.length ≤ 12) (hM : M[l]? = some o) (ho : PenO o) :
    ∃ y o', okD y = true ∧ plcB n y = false ∧ PenO o' ∧ BT (LE_ e0 e1 l n qs ps s6 (some (natD k)) s8 s9 s10) M = .ok y (M.set l o') := by
  obtain ⟨d, o1, od, rd, p1, e⟩ := noplace_ok (n := n) hM ho hn
  generalize hc1 : Mi.cutD (ps.map natD) none (some (k : Int)) = c1
  generalize hc2 : Mi.cutD (ps.map natD) (some ((k : Int) + 1)) none = c2
  have l1 : okDs c1 = true ∧ c1.length ≤ 12 := by rw [← hc1]; exact ⟨cut_ok okL, Nat.le_trans cut_len (by simpa using l12)⟩
  have l2 : okDs c2 = true ∧ c2.length ≤ 12 := by rw [← hc2]; exact ⟨cut_ok okL, Nat.le_trans cut_len (by simpa using l12)⟩
  have a1 := add_lst (M := M.set l o1) (xs := c1) (ys := [d]) (by simp; omega)
  have a2 := add_lst (M := M.set l o1) (xs := c1 ++ [d]) (ys := c2) (by simp; omega)
  refine ⟨.lst (c1 ++ [d] ++ c2), o1, ?_, ?_, p1, ?_⟩
  · simp only [okD]
    exact oks_app (oks_app l1.1 (by simp [okDs, od])) l2.1
  · have : (c1 ++ [d] ++ c2).all (inR 0 n) = false := by
      rw [List.all_eq_false]
      exact ⟨d, by simp, by simp [rd]⟩
    simp only [plcB, this, Bool.and_false]
  · have i0 : opIx (webN n qs) (.int 0) M = .ok (natD n) M := rfl
    have s1 : opSl (.lst (ps.map natD)) none (some (k : Int)) M = .ok (.lst c1) M := by rw [opSl_lst, hc1]
    have s2 : opSl (.lst (ps.map natD)) (some ((k : Int) + 1)) none (M.set l o1) = .ok (.lst c2) (M.set l o1) := by rw [opSl_lst, hc2]
    unfold LE_
    generalize ps.map natD = pl at *
    generalize webN n qs = w at *
    generalize dstD n qs = dd at *
    generalize M.set l o1 = M1 at *
    simp only [sSeq_e, sSet_e, sIf_e, sRet_e, sNop_e, sAsg_e, sExp_e, sFor_e, evTr_e, evC_e, ev2_e, evCall_e, evN_e, evCons_e, evNil_e, evTup_e, evLst_e, evAnd_e, evOr_e, evNot_e, evAndV_e, evOrV_e, evNotV_e, evIter_e, evRng_e, evM_e, evLc_e, u_var, List.getElem?_cons_zero, List.getElem?_cons_succ, List.set_cons_zero, List.set_cons_succ, List.length_cons, List.length_nil, Nat.reduceAdd, Nat.reduceLT, Nat.reduceLeDiff, bind_ok, bindN_ok, out_ok, then_nx, then_ret, then_exc, of_ok, tr_bl, itOf, sizeLine_eq, wipeD_cons, wipeD_nil, if_true, if_false, reduceIte, Bool.false_eq_true, Bool.true_eq_false, Bool.not_true, Bool.not_false, evSl_e, evNoPart_e, evPartI_e, s1, i0, e, a1, Mi.add_int, s2, a2, Nat.reduceLeDiff]
abbrev PL : Ev → Store → Res D := (evLc (.nm 10) [10] (evRng rng1 (evCons (ev2 opAdd (evC (.int 1)) (evCall d__law_draw (evCons (evVar 2) (evCons (evC (.int 12)) evNil)))) evNil)) evYes (evCall d__law_draw (evCons (evVar 2) (evCons (ev2 opIx (evVar 3) (evC (.int 0))) evNil))))
theorem pl_ok {e0 e1 : D} {l : Nat} {o : Option Ob} {s5 s6 s7 s8 s9 s10 : Option D} (h1 : 1 ≤ n) (hn : n ≤ 8) (hM : M[l]? = some o) (ho : PenO o) :
    ∃ (ps : List Nat) (o' : Option Ob), (∀ p ∈ ps, p < n) ∧ 1 ≤ ps.length ∧ ps.length ≤ 12 ∧ PenO o' ∧ PL [some e0, some e1, some (.loc l), some (webN n qs), some (dstD n qs), s5, s6, s7, s8, s9, s10] M = .ok (.lst (ps.map natD)) (M.set l o') := by
  obtain ⟨r, o1, hr, p1, q1⟩ := drawK (m := 12) hM ho (by omega) (by omega)
  have z12 : (natD 12 : D) = .int 12 := rfl
  rw [z12] at q1
  have ad : opAdd (.int 1) (natD r) (M.set l o1) = .ok (natD (r + 1)) (M.set l o1) := by rw [Mi.add_int]; congr 2; omega
  have rg := rg_n (M := M.set l o1) (n := r + 1) (by omega)
  have i0 : ∀ S : Store, opIx (webN n qs) (.int 0) S = .ok (natD n) S := fun S => rfl
  obtain ⟨outs, o2, r2, p2, e2⟩ := lc_draws (l := l) (j := 10) (R := fun _ d => ∃ b : Nat, b < n ∧ d = natD b) (fe := evCall d__law_draw (evCons (evVar 2) (evCons (ev2 opIx (evVar 3) (evC (.int 0))) evNil))) (env := [some e0, some e1, some (.loc l), some (webN n qs), some (dstD n qs), s5, s6, s7, s8, s9, none]) (by simp) ((List.range (r + 1)).map natD) [] (M.set l o1) o1 (get_set hM) p1
    (fun x _ M o hM ho => by
      obtain ⟨b, o', hb, p, e⟩ := drawK (m := n) hM ho h1 (by omega)
      have i0 : opIx (webN n qs) (.int 0) M = .ok (natD n) M := rfl
      refine ⟨natD b, o', ⟨b, hb, rfl⟩, p, ?_⟩
      generalize webN n qs = w at *
      generalize dstD n qs = dd at *
      simp only [sSeq_e, sSet_e, sIf_e, sRet_e, sNop_e, sAsg_e, sExp_e, sFor_e, evTr_e, evC_e, ev2_e, evCall_e, evN_e, evCons_e, evNil_e, evTup_e, evLst_e, evAnd_e, evOr_e, evNot_e, evAndV_e, evOrV_e, evNotV_e, evIter_e, evRng_e, evM_e, evLc_e, u_var, List.getElem?_cons_zero, List.getElem?_cons_succ, List.set_cons_zero, List.set_cons_succ, List.length_cons, List.length_nil, Nat.reduceAdd, Nat.reduceLT, Nat.reduceLeDiff, bind_ok, bindN_ok, out_ok, then_nx, then_ret, then_exc, of_ok, tr_bl, itOf, sizeLine_eq, wipeD_cons, wipeD_nil, if_true, if_false, reduceIte, Bool.false_eq_true, Bool.true_eq_false, Bool.not_true, Bool.not_false, i0, e]) (by simp; omega)
  have hn' : outs = (outs.map invN).map natD := by
    rw [List.map_map]
    have e : outs.map (natD ∘ invN) = outs.map id := List.map_congr_left fun d hd => by
      obtain ⟨_, _, b, _, rfl⟩ := r2.2 d hd
      show natD (invN (natD b)) = natD b
      rw [inv_nat]
    rw [e, List.map_id]
  have ln := r2.1
  rw [List.length_map, List.length_range] at ln
  rw [List.nil_append, List.set_set] at e2
  refine ⟨outs.map invN, o2, fun p hp => ?_, by rw [List.length_map]; omega, by rw [List.length_map]; omega, p2, ?_⟩
  · obtain ⟨d, hd, rfl⟩ := List.mem_map.mp hp
    obtain ⟨_, _, b, hb, rfl⟩ := r2.2 d hd
    rw [inv_nat]; exact hb
  · rw [← hn']
    generalize webN n qs = w at *
    generalize dstD n qs = dd at *
    generalize M.set l o2 = M2 at *
    generalize M.set l o1 = M1 at *
    simp only [sSeq_e, sSet_e, sIf_e, sRet_e, sNop_e, sAsg_e, sExp_e, sFor_e, evTr_e, evC_e, ev2_e, evCall_e, evN_e, evCons_e, evNil_e, evTup_e, evLst_e, evAnd_e, evOr_e, evNot_e, evAndV_e, evOrV_e, evNotV_e, evIter_e, evRng_e, evM_e, evLc_e, u_var, List.getElem?_cons_zero, List.getElem?_cons_succ, List.set_cons_zero, List.set_cons_succ, List.length_cons, List.length_nil, Nat.reduceAdd, Nat.reduceLT, Nat.reduceLeDiff, bind_ok, bindN_ok, out_ok, then_nx, then_ret, then_exc, of_ok, tr_bl, itOf, sizeLine_eq, wipeD_cons, wipeD_nil, if_true, if_false, reduceIte, Bool.false_eq_true, Bool.true_eq_false, Bool.not_true, Bool.not_false, q1, ad, rg, e2]
abbrev CB : Ev → Store → Out := (sSeq (sSet 2 (evCall d__law_pen_of (evCons (evVar 1) evNil))) (sSeq (sSet 3 (evCall d__law_joined_web (evCons (evVar 2) evNil))) (sSeq (sSet 4 (evCall d__law_fars (evCons (evVar 3) evNil))) (sSeq (sSet 5 PL) (sSeq (sFor (.nm 6) L6 RB) (sSeq (sSet 7 (evCall d__law_draw (evCons (evVar 2) (evCons (evN biLen (evCons (evVar 5) evNil)) evNil)))) (sSeq (sSet 8 BT) (sFor (.nm 9) L9_ PB))))))))
abbrev LC : Ev → Store → Res (List D) := (evIter (ev2 opAdd (evLst (evCons (evCall d__law_cell_at (evCons (evVar 0) (evCons (evC (.int 0)) evNil))) evNil)) (evSl (evVar 0) (evPartI (evC (.int 1))) (evPartI (evC (.int 6))))))
abbrev IA : Ev → Store → Res Bool := (evOr (evTr (ev2 opNe (evCall d__law_told (evCons (evTup (evCons (evC (.int 2)) (evCons (evTup evNil) evNil))) (evCons (evLst (evCons (evC (.int 0)) evNil)) evNil))) (evC (.str "apart")))) (evTr (ev2 opNe (evCall d__law_told (evCons (evTup (evCons (evC (.int 3)) (evCons (evTup (evCons (evTup (evCons (evC (.int 1)) (evCons (evC (.int 2)) evNil))) evNil)) evNil))) (evCons (evC .non) evNil))) (evC (.str "apart")))))
theorem law_eq : b_law = (sSeq (sIf IA (sRet (evC (.bl false))) sNop) (sSeq (sFor (.nm 1) LC CB) (sRet (evC (.bl true))))) := rfl
theorem cb_ok {e0 : D} {c : Int} {s2 s3 s4 s5 s6 s7 s8 s9 s10 : Option D} : ∃ t2 t3 t4 t5 t6 t7 t8 t9 t10 M', CB [some e0, some (.int c), s2, s3, s4, s5, s6, s7, s8, s9, s10] M = .nx [some e0, some (.int c), t2, t3, t4, t5, t6, t7, t8, t9, t10] M' := by
  obtain ⟨o, ho, q1⟩ := penof_ok (M := M) c
  have hM : (M ++ [o])[M.length]? = some o := by simp
  generalize M ++ [o] = N at *
  generalize M.length = l at *
  obtain ⟨n, qs, o1, n1, n2, hq, hl, hj, p1, q2⟩ := joinedweb_ok hM ho
  have q3 := fars_ok (M := N.set l o1) hq n1 n2 hj
  obtain ⟨ps, o2, hps, a1, a12, p2, q4⟩ := pl_ok (M := N.set l o1) (n := n) (qs := qs) (e0 := e0) (e1 := .int c) (l := l) (s5 := s5) (s6 := s6) (s7 := s7) (s8 := s8) (s9 := s9) (s10 := s10) n1 n2 (get_set hM (y := o1)) p1
  rw [List.set_set] at q4
  obtain ⟨t6, q5⟩ := some_ok (M := N.set l o2) (e0 := e0) (e1 := .int c) (l := l) (ps := ps) (s6 := s6) (s7 := s7) (s8 := s8) (s9 := s9) (s10 := s10) hq n1 n2 hl hj hps a1 a12
  have ln : biLen [.lst (ps.map natD)] (N.set l o2) = .ok (natD ps.length) (N.set l o2) := by simp [biLen, seqOf, Mi.listOf]
  obtain ⟨k, o3, hk, p3, q6⟩ := drawK (m := ps.length) (get_set hM (y := o2)) p2 a1 (by omega)
  rw [List.set_set] at q6
  obtain ⟨y, o4, oy, by_, p4, q7⟩ := bt_ok (M := N.set l o3) (n := n) (qs := qs) (e0 := e0) (e1 := .int c) (l := l) (k := k) (ps := ps) (s6 := t6) (s8 := s8) (s9 := s9) (s10 := s10) n2 a12 (get_set hM (y := o3)) p3
  rw [List.set_set] at q7
  have q8 := l9_ok (M := N.set l o4) (n := n) (qs := qs) (e0 := e0) (e1 := .int c) (y := y) (l := l) (ps := ps) (s6 := t6) (s7 := some (natD k)) (s9 := s9) (s10 := s10)
  obtain ⟨t9, q9⟩ := things_for (M := N.set l o4) (e0 := e0) (e1 := .int c) (l := l) (ps := ps) (s6 := t6) (s7 := some (natD k)) (s8 := some y) (s10 := s10) hq n1 n2 hl hj [y, .tup (ps.map natD), .lst [], .lst (List.replicate 13 (.int 0)), .non, .int 0, .str "", .dct0, .lst [.lst (ps.map natD)]] s9 (fun d hd => by
    simp only [List.mem_cons, List.not_mem_nil, or_false] at hd
    rcases hd with rfl | rfl | rfl | rfl | rfl | rfl | rfl | rfl | rfl
    · exact ⟨oy, by_⟩
    · exact ⟨by simp only [okD]; exact okL, rfl⟩
    · exact ⟨rfl, rfl⟩
    · exact ⟨rfl, by simp [plcB]⟩
    · exact ⟨rfl, rfl⟩
    · exact ⟨rfl, rfl⟩
    · exact ⟨rfl, rfl⟩
    · exact ⟨rfl, rfl⟩
    · exact ⟨by simp only [okD, okDs, okL, Bool.and_true], by simp [plcB, inR]⟩)
  refine ⟨some (.loc l), some (webN n qs), some (dstD n qs), some (.lst (ps.map natD)), t6, some (natD k), some y, t9, s10, N.set l o4, ?_⟩
  change PL _ _ = _ at q4
  change BT _ _ = _ at q7
  unfold LE_ at *
  unfold CB
  clear hq hl hj hM ho p1 p2 p3 p4 oy by_
  rw [sFor_e] at q5
  generalize hPL : PL = plf at *
  generalize hRB : RB = rb at *
  generalize hL6 : L6 = l6 at *
  generalize hBT : BT = btf at *
  generalize hPB : PB = pb at *
  generalize hL9 : L9_ = l9 at *
  generalize [y, D.tup (ps.map natD), .lst [], .lst (List.replicate 13 (.int 0)), .non, .int 0, .str "", .dct0, .lst [.lst (ps.map natD)]] = things at *
  generalize ps.map natD = pl at *
  generalize webN n qs = w at *
  generalize dstD n qs = dd at *
  generalize N.set l o4 = M4 at *
  generalize N.set l o3 = M3 at *
  generalize N.set l o2 = M2 at *
  generalize N.set l o1 = M1 at *
  simp only [sSeq_e, sSet_e, sIf_e, sRet_e, sNop_e, sAsg_e, sExp_e, sFor_e, evTr_e, evC_e, ev2_e, evCall_e, evN_e, evCons_e, evNil_e, evTup_e, evLst_e, evAnd_e, evOr_e, evNot_e, evAndV_e, evOrV_e, evNotV_e, evIter_e, evRng_e, evM_e, evLc_e, u_var, List.getElem?_cons_zero, List.getElem?_cons_succ, List.set_cons_zero, List.set_cons_succ, List.length_cons, List.length_nil, Nat.reduceAdd, Nat.reduceLT, Nat.reduceLeDiff, bind_ok, bindN_ok, out_ok, then_nx, then_ret, then_exc, of_ok, tr_bl, itOf, sizeLine_eq, wipeD_cons, wipeD_nil, if_true, if_false, reduceIte, Bool.false_eq_true, Bool.true_eq_false, Bool.not_true, Bool.not_false, q1, q2, q3, q4, q5, ln, q6, q7, q8, q9]
theorem cells_loop {a0 : D} : ∀ (cs : List Int) (M : Store) (s1 s2 s3 s4 s5 s6 s7 s8 s9 s10 : Option D), ∃ env' M', forD (.nm 1) CB (cs.map D.int) [some a0, s1, s2, s3, s4, s5, s6, s7, s8, s9, s10] M = .nx env' M'
  | [], M, _, _, _, _, _, _, _, _, _, _ => ⟨_, M, rfl⟩
  | c :: cs, M, s1, s2, s3, s4, s5, s6, s7, s8, s9, s10 => by
    obtain ⟨t2, t3, t4, t5, t6, t7, t8, t9, t10, M1, h1⟩ := cb_ok (M := M) (e0 := a0) (c := c) (s2 := s2) (s3 := s3) (s4 := s4) (s5 := s5) (s6 := s6) (s7 := s7) (s8 := s8) (s9 := s9) (s10 := s10)
    obtain ⟨env', M2, h2⟩ := cells_loop (a0 := a0) cs M1 (some (.int c)) t2 t3 t4 t5 t6 t7 t8 t9 t10
    have as : asgP M (.nm 1) (.int c) [some a0, s1, s2, s3, s4, s5, s6, s7, s8, s9, s10] = some [some a0, some (.int c), s2, s3, s4, s5, s6, s7, s8, s9, s10] := by simp [asgP]
    exact ⟨env', M2, by rw [List.map_cons, for_step as h1]; exact h2⟩
theorem two_t : TiesN 2 [] := ⟨(fun q hq => by cases hq), List.Pairwise.nil⟩
theorem three_t : TiesN 3 [(1, 2)] := ⟨by decide, by decide⟩
theorem ia_ok : IA env M = .ok false M := by
  have a1 := apart_F (M := M) two_t (by omega) (by omega) (by simp) (v := 1) (by omega) (by decide)
  have a2 := apart_F (M := M) three_t (by omega) (by omega) (by simp) (v := 2) (by omega) (by decide)
  have t1 := told_exc (k := 3) (z := "apart") (by decide) zk3 (noFn_ok (ok_web (n := 2) (qs := []))) (a := .lst [.int 0]) rfl (nearof_apart a1)
  have t2 := told_exc (k := 3) (z := "apart") (by decide) zk3 (noFn_ok (ok_web (n := 3) (qs := [(1, 2)]))) (a := .non) rfl (nearof_apart a2)
  have t1' : d__law_told [.tup [.int 2, .tup []], .lst [.int 0]] M = .ok (.str "apart") M := t1
  have t2' : d__law_told [.tup [.int 3, .tup [.tup [.int 1, .int 2]]], .non] M = .ok (.str "apart") M := t2
  unfold IA
  simp only [sSeq_e, sSet_e, sIf_e, sRet_e, sNop_e, sAsg_e, sExp_e, sFor_e, evTr_e, evC_e, ev2_e, evCall_e, evN_e, evCons_e, evNil_e, evTup_e, evLst_e, evAnd_e, evOr_e, evNot_e, evAndV_e, evOrV_e, evNotV_e, evIter_e, evRng_e, evM_e, evLc_e, u_var, List.getElem?_cons_zero, List.getElem?_cons_succ, List.set_cons_zero, List.set_cons_succ, List.length_cons, List.length_nil, Nat.reduceAdd, Nat.reduceLT, Nat.reduceLeDiff, bind_ok, bindN_ok, out_ok, then_nx, then_ret, then_exc, of_ok, tr_bl, itOf, sizeLine_eq, wipeD_cons, wipeD_nil, if_true, if_false, reduceIte, Bool.false_eq_true, Bool.true_eq_false, Bool.not_true, Bool.not_false, t1', t2', ne_apart, Nat.zero_le]
end
theorem goal : Goal := fun ns hn _ => by
  obtain ⟨c, hc⟩ := cellat_ok (M := []) ns
  obtain ⟨cs, hcs, hcl⟩ := cut_ints hn (some 1) (some 6)
  have hadd := add_lst (M := []) (xs := [.int c]) (ys := cs.map D.int) (by simp; omega)
  obtain ⟨env', M', l3⟩ := cells_loop (a0 := .scr (ns.map D.int)) (c :: cs) [] none none none none none none none none none none
  refine ⟨[], ?_⟩
  have hl3 : LC [some (.scr (ns.map D.int)), none, none, none, none, none, none, none, none, none, none] [] = .ok ((c :: cs).map D.int) [] := by
    have sl : opSl (.scr (ns.map D.int)) (some 1) (some 6) [] = .ok (.lst (cs.map D.int)) [] := by
      rw [opSl_scr, hcs]
    simp only [sSeq_e, sSet_e, sIf_e, sRet_e, sNop_e, sAsg_e, sExp_e, sFor_e, evTr_e, evC_e, ev2_e, evCall_e, evN_e, evCons_e, evNil_e, evTup_e, evLst_e, evAnd_e, evOr_e, evNot_e, evAndV_e, evOrV_e, evNotV_e, evIter_e, evRng_e, evM_e, evLc_e, u_var, List.getElem?_cons_zero, List.getElem?_cons_succ, List.set_cons_zero, List.set_cons_succ, List.length_cons, List.length_nil, Nat.reduceAdd, Nat.reduceLT, Nat.reduceLeDiff, bind_ok, bindN_ok, out_ok, then_nx, then_ret, then_exc, of_ok, tr_bl, itOf, sizeLine_eq, wipeD_cons, wipeD_nil, if_true, if_false, reduceIte, Bool.false_eq_true, Bool.true_eq_false, Bool.not_true, Bool.not_false, hc, evSl_e, evPartI_e, sl, hadd, List.cons_append, List.nil_append]
    rfl
  have b : b_law [some (.scr (ns.map D.int)), none, none, none, none, none, none, none, none, none, none] [] = .ret (.bl true) M' := by
    have e1 := fun (env : Ev) => ia_ok (env := env) (M := [])
    rw [law_eq]
    generalize hB : CB = bdy at *
    generalize hS1 : IA = s1 at *
    generalize hLC : LC = lc at *
    simp only [sSeq_e, sSet_e, sIf_e, sRet_e, sNop_e, sAsg_e, sExp_e, sFor_e, evTr_e, evC_e, ev2_e, evCall_e, evN_e, evCons_e, evNil_e, evTup_e, evLst_e, evAnd_e, evOr_e, evNot_e, evAndV_e, evOrV_e, evNotV_e, evIter_e, evRng_e, evM_e, evLc_e, u_var, List.getElem?_cons_zero, List.getElem?_cons_succ, List.set_cons_zero, List.set_cons_succ, List.length_cons, List.length_nil, Nat.reduceAdd, Nat.reduceLT, Nat.reduceLeDiff, bind_ok, bindN_ok, out_ok, then_nx, then_ret, then_exc, of_ok, tr_bl, itOf, sizeLine_eq, wipeD_cons, wipeD_nil, if_true, if_false, reduceIte, Bool.false_eq_true, Bool.true_eq_false, Bool.not_true, Bool.not_false, e1, hl3, l3]
  unfold d_law
  have z := run_ret (n := 11) (ds := [.scr (ns.map D.int)]) (M := []) b (frz_bl (M := M') (b := true))
  rw [z]
  rfl
end Hd

theorem PySem.Challenge.cw_cubewebs_k43_nearest_places_holds : PySem.Challenge.rw_cubewebs_k43_nearest_places.Holds :=
  PySem.Challenge.cubewebs_k43_nearest_places_of Hd.goal
